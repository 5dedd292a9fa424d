import PyProof.Rows.All
import Wide.All
import OpenK.AllK
import Wide.FinOn
import Lean
import PyProof.EqAt
import PyProof.EqKinds
import PyProof.TupleCall
import PyProof.ListMulRoad
import KE.KRevIter
import PyProof.ZipIter
import PyProof.TupleIter
import PyProof.Rows.SortWalk
import PyProof.Rows.SortStr
import PyProof.Rows.StrWeight2
import PyProof.ConsumeWalk
import PyProof.SliceStr2
import PyProof.ListRange
import PyProof.TupleOfSeq
import PyProof.P3In
import PyProof.AttrMissHeap
import KE.KDictOf
import PyProof.StrBlockI
import PyProof.WalksEnum
import PyProof.EnumMake
import Open.Tops
import PyProof.DictDisplay
import PyProof.Rows.TupDisplay
import PySem.Challenge.RW_whens_k14_whole_moved
set_option Elab.async false
set_option linter.all false
set_option maxRecDepth 100000
set_option maxHeartbeats 4000000
set_option Elab.async false
set_option linter.all false
set_option maxRecDepth 100000
namespace L2
open PySem PySem.Spec PyProof.Rows
abbrev Key:=Sum Int Str
def zay9:Key→Value→Bool
  | .inl k,v=>Value.isInt k v
  | .inr x,v=>Value.isStrOf x v
def keyH (w:World):Key→Int
  | .inl k=>hashInt k
  | .inr x=>hashStr w x
theorem zi8:∀ {k:Key} {v:Value},zay9 k v=true→(∃ i t,k=Sum.inl i∧v=Value.int i t)∨(∃ x t,k=Sum.inr x∧v=Value.str x t)
  | .inl i,v,h=>by
    obtain ⟨t,e⟩:=Value.isInt_shape (k:=i) (v:=v) h
    exact .inl ⟨i,t,rfl,e⟩
  | .inr x,v,h=>by
    obtain ⟨t,e⟩:=Value.isStrOf_shape (x:=x) (v:=v) h
    exact .inr ⟨x,t,rfl,e⟩
theorem zaJ6 (i:Int) (t:Tok):zay9 (.inl i) (.int i t)=true:=by simp [zay9,Value.isInt]
theorem zaH8 (x:Str) (t:Tok):zay9 (.inr x) (.str x t)=true:=by simp [zay9,Value.isStrOf]
theorem zbb5 (a b:Int):decide ((Sum.inl a:Key)=Sum.inl b)=(a == b):=by
  by_cases e:a=b
  · subst e; simp
  · have h:¬ (Sum.inl a:Key)=Sum.inl b:=fun q=>e (Sum.inl.inj q)
    rw [decide_eq_false h]
    exact (beq_eq_false_iff_ne.mpr e).symm
theorem zbg4 (a b:Str):decide ((Sum.inr a:Key)=Sum.inr b)=decide (a=b):=by
  by_cases e:a=b
  · subst e; simp
  · have h:¬ (Sum.inr a:Key)=Sum.inr b:=fun q=>e (Sum.inr.inj q)
    rw [decide_eq_false h,decide_eq_false e]
theorem zbb2 (a:Int) (b:Str):decide ((Sum.inl a:Key)=Sum.inr b)=false:=decide_eq_false (fun q=>nomatch q)
theorem zbd3 (a:Str) (b:Int):decide ((Sum.inr a:Key)=Sum.inl b)=false:=decide_eq_false (fun q=>nomatch q)
def zg6 (prog:Program) (w:World):PySem.KeyKind prog w Key where
  is:=zay9
  hash:=keyH w
  inj:=fun v a b ha hb=>by
    rcases zi8 ha with ⟨i,t,rfl,rfl⟩ | ⟨x,t,rfl,rfl⟩
    · rcases zi8 hb with ⟨j,u,rfl,e⟩ | ⟨y,u,rfl,e⟩
      · injection e with e1 _; rw [e1]
      · exact nomatch e
    · rcases zi8 hb with ⟨j,u,rfl,e⟩ | ⟨y,u,rfl,e⟩
      · exact nomatch e
      · injection e with e1 _; rw [e1]
  byValue:=fun k v h=>by
    rcases zi8 h with ⟨i,t,rfl,rfl⟩ | ⟨x,t,rfl,rfl⟩ <;> rfl
  pyHash:=fun hv h=>by
    rcases zi8 hv with ⟨i,t,rfl,rfl⟩ | ⟨x,t,rfl,rfl⟩
    · exact wpAny_pyHash_int h
    · exact wpAny_pyHash_str h
  eqBool:=fun hu hv h=>by
    rcases zi8 hu with ⟨i,t,rfl,rfl⟩ | ⟨x,t,rfl,rfl⟩
    · rcases zi8 hv with ⟨j,u,rfl,rfl⟩ | ⟨y,u,rfl,rfl⟩
      · rw [zbb5] at h; exact wpAny_eqBool_int h
      · rw [zbb2] at h; exact SeqAt.EqAt.int_str i t y u _ _ _ _ h
    · rcases zi8 hv with ⟨j,u,rfl,rfl⟩ | ⟨y,u,rfl,rfl⟩
      · rw [zbd3] at h; exact SeqAt.EqAt.str_int x t j u _ _ _ _ h
      · rw [zbg4] at h; exact wpAny_eqBool_str h
  «strs»:=fun k x t v h=>by
    rcases zi8 h with ⟨i,u,rfl,e⟩ | ⟨y,u,rfl,e⟩
    · exact nomatch e
    · injection e with e1 _
      subst e1
      cases v <;> rfl
theorem zao4 (prog:Program) (w:World) (i:Int) (t:Tok):(zg6 prog w).is (.inl i) (.int i t)=true:=zaJ6 i t
theorem zaq7 (prog:Program) (w:World) (x:Str) (t:Tok):(zg6 prog w).is (.inr x) (.str x t)=true:=zaH8 x t
end L2
namespace L2
open PySem PySem.Spec PyProof.Rows
inductive V where
  | non | bl (b:Bool) | int (i:Int) | str (x:Str) | byt (b:Array UInt8) | flt (b:UInt64) | ref (a:Addr) | ty (n:String)
  deriving DecidableEq
def RelV:V→Value→Prop
  | .non,u=>u=Value.none
  | .bl b,u=>u=Value.bool b
  | .int i,u=>∃ t,u=Value.int i t
  | .str x,u=>∃ t,u=Value.str x t
  | .byt b,u=>∃ t,u=Value.bytes b t
  | .flt b,u=>∃ t,u=Value.float b t
  | .ref a,u=>u=Value.ref a
  | .ty n,u=>u=Value.type n
abbrev Vals:List V→List Value→Prop:=Paired RelV
theorem Vals.length {xs:List V} {us:List Value} (r:Vals xs us):xs.length=us.length:=Paired.length r
theorem Vals.get:∀ {xs:List V} {us:List Value} {i:Nat} {x:V},Vals xs us→xs[i]?=some x→∃ u,us[i]?=some u∧RelV x u
  | _,_,_,_,.nil,e=>by simp at e
  | _,_,0,_,.cons r _,e=>by simp at e; subst e; exact ⟨_,rfl,r⟩
  | _,_,i + 1,x,.cons _ t,e=>by
    obtain ⟨u,h1,h2⟩:=Vals.get (i:=i) (x:=x) t (by simpa using e)
    exact ⟨u,by simpa using h1,h2⟩
theorem Vals.set {x:V} {u:Value} (r:RelV x u):∀ {xs:List V} {us:List Value} (i:Nat),Vals xs us→Vals (xs.set i x) (us.set i u)
  | _,_,_,.nil=>.nil
  | _,_,0,.cons _ t=>.cons r t
  | _,_,i + 1,.cons q t=>.cons q (Vals.set r i t)
theorem Vals.append:∀ {xs ys:List V} {us ws:List Value},Vals xs us→Vals ys ws→Vals (xs++ys) (us++ws)
  | _,_,_,_,.nil,s=>s
  | _,_,_,_,.cons r t,s=>.cons r (Vals.append t s)
theorem Vals.take:∀ {xs:List V} {us:List Value} (n:Nat),Vals xs us→Vals (xs.take n) (us.take n)
  | _,_,0,_=>.nil
  | _,_,_ + 1,.nil=>.nil
  | _,_,n + 1,.cons r t=>.cons r (Vals.take n t)
theorem Vals.drop:∀ {xs:List V} {us:List Value} (n:Nat),Vals xs us→Vals (xs.drop n) (us.drop n)
  | _,_,0,r=>r
  | _,_,_ + 1,.nil=>.nil
  | _,_,n + 1,.cons _ t=>Vals.drop n t
def RelO:Option V→Option Value→Prop
  | some v,some u=>RelV v u
  | none,none=>True
  | _,_=>False
def KV {κ:Type}:List (κ×V)→List (κ×Value)→Prop:=Paired fun (p:κ×V) (q:κ×Value)=>p.1=q.1∧RelV p.2 q.2
def kV:Key→V
  | .inl i=>.int i
  | .inr x=>.str x
inductive HO where
  /-- a list -/
  | lst (xs:List V)
  /-- a tuple (never changes) -/
  | tup (xs:List V)
  /-- a dict whose keys are ints and texts; one whose keys are tuples of ints and texts (the empty one is both) -/
  | dK (kvs:List (Key×V)) | dT (kvs:List (List Key×V))
  /-- a set of ints: its members,its size -/
  | set (S:Int→Bool) (n:Nat)
  /-- an instance of the class at C,its dict at dx,its attributes -/
  | ins (C dx:Addr) (fs:List (Str×V))
  /-- the dict of the instance at x -/
  | own (x:Addr)
  /-- the dict of an exception -/
  | xd (fs:List (Str×V))
  /-- a bound method,f of x -/
  | met (f x:Addr)
  /-- a range object lo,lo + 1,.. below hi -/
  | rng (lo hi:Int)
  /-- a thing that is known to the object (the script; a dict while a loop walks it): read,never written while it is so -/
  | frz (o:Obj) (u:HO)
  /-- a code object's table -/
  | tbl (ps:Array Value)
  /-- any other thing,by what is true of its one object (a def of one's own: SetO a S n:=HO.ext fun h=>..) -/
  | ext (φ:Heap→Prop)
abbrev Hp:=Addr→Option HO
def upd (H:Hp) (a:Addr) (o:HO):Hp:=fun b=>if b=a then some o else H b
theorem zf4 {H:Hp} {a:Addr} {o:HO}:upd H a o a=some o:=by unfold upd; rw [if_pos rfl]
theorem zd6 {H:Hp} {a b:Addr} {o:HO} (h:b≠a):upd H a o b=H b:=by unfold upd; rw [if_neg h]
theorem zt8 {H:Hp} {a b:Addr} {o:HO} (h:H a=some o) (h':H b=none):a≠b:=by
  intro e; subst e; rw [h] at h'; cases h'
def NoD (h:Heap) (a:Addr):Prop:=∃ o,h.get? a=some o∧o.dict=none
theorem NoD.new (h:Heap) (c:Value) (d:Data) (hf:Obj.isFreed { cls:=c,data:=d }=false:=by rfl):NoD (h.push { cls:=c,data:=d }) h.objs.size:=⟨_,Heap.get?_push_size _ hf,rfl⟩
theorem NoD.keep {h h':Heap} {a:Addr} (x:NoD h a) (k:∀ o,h.get? a=some o→h'.get? a=some o):NoD h' a:=let ⟨o,e,d⟩:=x; ⟨o,k _ e,d⟩
section
variable (P:Program) (w:World)
def ObjOk (H:Hp) (h:Heap) (a:Addr):HO→Prop
  | .lst xs=>xs.length≤sizeLine∧∃ (its:List Value) (n:Nat),Vals xs its∧h.get? a=some { cls:=.type "list",data:=.seq its.toArray n }
  | .tup xs=>(xs.length≤sizeLine∧NoD h a)∧∃ its:List Value,Vals xs its∧IsTup h a its.toArray
  | .dK kvs=>kvs.length≤sizeLine∧(a == sysModules)=false∧∃ vs,KV kvs vs∧h.DictOf (zg6 P w) a vs
  | .dT kvs=>kvs.length≤sizeLine∧(a == sysModules)=false∧∃ xs:List (List Key×Addr×Value),
      Paired (fun (p:List Key×V) (q:List Key×Addr×Value)=>p.1=q.1∧H q.2.1=some (.tup (p.1.map kV))∧RelV p.2 q.2.2) kvs xs ∧
      ∃ o es ep,h.get? a=some o∧o.ExactDict∧o.data=.dict es ep∧es.toList=xs.map (entryOfKey (tupleKind (zg6 P w)))∧(xs.map (·.1)).Nodup
  | .set S n=>h.SetOf (intKind P w) a S n
  | .ins C dx fs=>H dx=some (.own a)∧fs.length≤1000∧dx≠a∧h.get? a=some (PySem.W.instObj C dx) ∧
      ∃ mA,h.Ns1 dx mA∧(∀ f,RelO (fs.lookup f) (mA f))∧PySem.Within mA (fs.map (·.1))
  | .own _=>∃ o,h.get? a=some o
  | .xd fs=>∃ mA,h.Ns1 a mA∧∀ f,RelO (fs.lookup f) (mA f)
  | .rng lo hi=>∃ t u v,h.get? a=some { cls:=.type "range",data:=.fields #[.int lo t,.int hi u,.int 1 v] }
  | .frz o u=>h.get? a=some o∧ObjOk H h a u
  | .tbl ps=>h.get? a=some { cls:=.none,data:=.fields ps }
  | .met f x=>h.get? a=some (PySem.W.methodObj (.ref f) (.ref x))
  | .ext φ=>φ h∧(∃ o,h.get? a=some o)∧∀ h1 h2:Heap,φ h1→(∀ o,h1.get? a=some o→h2.get? a=some o)→φ h2
def HOk (H:Hp) (h:Heap):Prop:=∀ a o,H a=some o→ObjOk P w H h a o
end
section
variable {P:Program} {w:World} {H H':Hp} {h h':Heap} {a:Addr} {o:HO}
theorem ObjOk.lt (x:ObjOk P w H h a o):a < h.objs.size:=by
  cases o with
  | lst xs=>obtain ⟨_,_,_,_,e⟩:=x; exact Heap.lt_size e
  | tup xs=>obtain ⟨_,_,_,p⟩:=x; exact p.lt
  | dK kvs=>obtain ⟨_,_,_,_,o,_,_,e,_⟩:=x; exact Heap.lt_size e
  | dT kvs=>obtain ⟨_,_,_,_,o,_,_,e,_⟩:=x; exact Heap.lt_size e
  | set S n=>obtain ⟨o,_,_,_,e,_⟩:=x; exact Heap.lt_size e
  | ins C dx fs=>obtain ⟨_,_,_,e,_⟩:=x; exact Heap.lt_size e
  | own y=>obtain ⟨_,e⟩:=x; exact Heap.lt_size e
  | xd fs=>obtain ⟨_,⟨_,_,_,e,_⟩,_⟩:=x; exact Heap.lt_size e
  | rng lo hi=>obtain ⟨_,_,_,e⟩:=x; exact Heap.lt_size e
  | frz ob u=>obtain ⟨e,_⟩:=x; exact Heap.lt_size e
  | tbl ps=>exact Heap.lt_size (show h.get? a=some _ from x)
  | met f y=>exact Heap.lt_size (show h.get? a=some _ from x)
  | ext φ=>obtain ⟨_,⟨_,e⟩,_⟩:=x; exact Heap.lt_size e
theorem Paired.mapP {α β:Type} {F G:α→β→Prop}:∀ {l₁:List α} {l₂:List β},Paired F l₁ l₂→(∀ a b,F a b→G a b)→Paired G l₁ l₂
  | _,_,.nil,_=>.nil
  | _,_,.cons r t,f=>.cons (f _ _ r) (Paired.mapP t f)
theorem ObjOk.stay (x:ObjOk P w H h a o) (k:∀ b u,(b=a∨H b=some (.own a))→h.get? b=some u→h'.get? b=some u)
    (ho:∀ b,H b=some (.own a)→H' b=some (.own a)) (ht:∀ b xs,H b=some (.tup xs)→H' b=some (.tup xs)):ObjOk P w H' h' a o:=by
  induction o with
  | lst xs=>obtain ⟨z,its,n,r,e⟩:=x; exact ⟨z,its,n,r,k _ _ (.inl rfl) e⟩
  | tup xs=>obtain ⟨z,its,r,ob,e,c⟩:=x; exact ⟨⟨z.1,z.2.keep fun _ e=>k _ _ (.inl rfl) e⟩,its,r,ob,k _ _ (.inl rfl) e,c⟩
  | dK kvs=>obtain ⟨z,y,vs,r,ob,es,ep,e,c⟩:=x; exact ⟨z,y,vs,r,ob,es,ep,k _ _ (.inl rfl) e,c⟩
  | dT kvs =>
    obtain ⟨z,y,xs,r,ob,es,ep,e,c⟩:=x
    exact ⟨z,y,xs,Paired.mapP r fun p q z=>⟨z.1,ht _ _ z.2.1,z.2.2⟩,ob,es,ep,k _ _ (.inl rfl) e,c⟩
  | set S n=>obtain ⟨ob,es,ep,t,e,c⟩:=x; exact ⟨ob,es,ep,t,k _ _ (.inl rfl) e,c⟩
  | ins C dx fs =>
    obtain ⟨d,z,ne,e,mA,⟨od,es,ep,e2,c⟩,r⟩:=x
    exact ⟨ho _ d,z,ne,k _ _ (.inl rfl) e,mA,⟨od,es,ep,k _ _ (.inr d) e2,c⟩,r⟩
  | own y=>obtain ⟨ob,e⟩:=x; exact ⟨ob,k _ _ (.inl rfl) e⟩
  | xd fs=>obtain ⟨mA,⟨od,es,ep,e,c⟩,r⟩:=x; exact ⟨mA,⟨od,es,ep,k _ _ (.inl rfl) e,c⟩,r⟩
  | rng lo hi=>obtain ⟨t,u,v,e⟩:=x; exact ⟨t,u,v,k _ _ (.inl rfl) e⟩
  | frz ob u ih=>obtain ⟨e,q⟩:=x; exact ⟨k _ _ (.inl rfl) e,ih q⟩
  | tbl ps =>
    have e:h.get? a=some { cls:=.none,data:=.fields ps }:=x
    show h'.get? a=some { cls:=.none,data:=.fields ps }
    exact k a _ (.inl rfl) e
  | met f y =>
    have e:h.get? a=some (PySem.W.methodObj (.ref f) (.ref y)):=x
    show h'.get? a=some (PySem.W.methodObj (.ref f) (.ref y))
    exact k a _ (.inl rfl) e
  | ext φ=>obtain ⟨p,⟨o,e⟩,st⟩:=x; exact ⟨st _ _ p fun o q=>k _ _ (.inl rfl) q,⟨o,k _ _ (.inl rfl) e⟩,st⟩
theorem HOk.lt (x:HOk P w H h) (e:H a=some o):a < h.objs.size:=(x a o e).lt
theorem HOk.fresh (x:HOk P w H h) (e:h.objs.size≤a):H a=none:=by
  cases q:H a with
  | none=>rfl
  | some u=>exact absurd (Nat.lt_of_lt_of_le (x.lt q) e) (Nat.lt_irrefl _)
theorem HOk.kept (x:HOk P w H h) (k:∀ b u,h.get? b=some u→h'.get? b=some u):HOk P w H h':=fun a o e =>
  (x a o e).stay (fun b u _ q=>k b u q) (fun _ q=>q) fun _ _ q=>q
theorem HOk.laid (x:HOk P w H h) (k:∀ b u,h.get? b=some u→h'.get? b=some u) (hp:h.objs.size≤a) (new:ObjOk P w (upd H a o) h' a o):HOk P w (upd H a o) h':=fun b u e=>by
  have hn:=x.fresh hp
  by_cases hb:b=a
  · subst hb; rw [zf4] at e; cases e; exact new
  · rw [zd6 hb] at e
    exact (x b u e).stay (fun c v _ q=>k c v q) (fun c q=>by rw [zd6 (zt8 q hn)]; exact q) fun c xs q=>by rw [zd6 (zt8 q hn)]; exact q
end
def Rd (H:Hp) (a:Addr) (u:HO):Prop:=H a=some u∨∃ o,H a=some (.frz o u)
theorem Rd.of {H:Hp} {a:Addr} {u:HO} (h:H a=some u):Rd H a u:=.inl h
theorem Rd.ok {P:Program} {w:World} {H:Hp} {h:Heap} {a:Addr} {u:HO} (r:Rd H a u) (x:HOk P w H h):ObjOk P w H h a u:=by
  rcases r with r | ⟨o,r⟩
  · exact x a u r
  · obtain ⟨_,q⟩:=x a _ r
    exact q
def Mut:Option HO→Prop
  | some (.lst _)=>True
  | some (.dK _)=>True
  | some (.dT _)=>True
  | some (.set _ _)=>True
  | some (.ins _ _ _)=>True
  | some (.ext _)=>True
  | _=>False
section
variable {P:Program} {w:World} {H:Hp} {h h':Heap} {x e:Addr} {o':HO}
theorem HOk.write (ok:HOk P w H h) (mu:Mut (H x)) (he:e=x∨H e=some (.own x)) (k:∀ b u,b≠e→h.get? b=some u→h'.get? b=some u) (heo:∃ u,h'.get? e=some u)
    (new:ObjOk P w (upd H x o') h' x o'):HOk P w (upd H x o') h':=fun b u q=>by
  have nown:∀ c y,H c=some (.own y)→c≠x:=fun c y r z=>by subst z; rw [r] at mu; exact mu
  have ntup:∀ c xs,H c=some (.tup xs)→c≠x:=fun c xs r z=>by subst z; rw [r] at mu; exact mu
  by_cases hb:b=x
  · subst hb; rw [zf4] at q; cases q; exact new
  · rw [zd6 hb] at q
    by_cases hbe:b=e
    · have q':H b=some (.own x):=by
        rcases he with z | z
        · exact absurd (hbe.trans z) hb
        · rw [hbe]; exact z
      rw [q] at q'; cases q'
      obtain ⟨v,hv⟩:=heo
      exact ⟨v,by rw [hbe]; exact hv⟩
    · refine (ok b u q).stay (fun c v hc r=>k c v ?_ r) (fun c r=>by rw [zd6 (nown c b r)]; exact r) fun c xs r=>by rw [zd6 (ntup c xs r)]; exact r
      rcases hc with rfl | hc
      · exact hbe
      · rintro rfl
        rcases he with z | z
        · exact nown c b hc z
        · rw [hc] at z; cases z; exact hb rfl
end
structure Un (fs ex:List Addr) (H H':Hp) (h h':Heap):Prop where
  keep:∀ b o,h.get? b=some o→H b=none→b ∉ fs→b ∉ ex→h'.get? b=some o
  slot:∀ b o,h.get? b=some o→H b=none→b∈fs→b ∉ ex→∃ sl,h'.get? b=some { o with slots:=sl }
  free:∀ b o,h.get? b=some o→H b=none→b ∉ ex→H' b=none
  there:∀ b o,h.get? b=some o→b ∉ ex→∃ o',h'.get? b=some o'
  tups:∀ b xs,H b=some (.tup xs)→H' b=some (.tup xs)
  frzs:∀ b o u,H b=some (.frz o u)→H' b=some (.frz o u)
  tbls:∀ b ps,H b=some (.tbl ps)→∃ more,H' b=some (.tbl (ps++more))
section
variable {fs fs' ex ex':List Addr} {H H1 H2:Hp} {h h1 h2 h':Heap} {a x e:Addr} {o:HO}
theorem Un.any (u:Un fs ex H H1 h h1) {b:Addr} {ob:Obj} (q:h.get? b=some ob) (n:H b=none) (hx:b ∉ ex):∃ sl,h1.get? b=some { ob with slots:=sl }:=by
  by_cases hb:b∈fs
  · exact u.slot b ob q n hb hx
  · exact ⟨ob.slots,u.keep b ob q n hb hx⟩
theorem Un.trans (a:Un fs ex H H1 h h1) (b:Un fs ex H1 H2 h1 h2):Un fs ex H H2 h h2 where
  keep:=fun c ob q n hc hx=>b.keep c ob (a.keep c ob q n hc hx) (a.free c ob q n hx) hc hx
  slot:=fun c ob q n hc hx=>by
    obtain ⟨sl,e1⟩:=a.slot c ob q n hc hx
    obtain ⟨sl',e2⟩:=b.slot c _ e1 (a.free c ob q n hx) hc hx
    exact ⟨sl',e2⟩
  free:=fun c ob q n hx=>by
    obtain ⟨o',e1⟩:=a.there c ob q hx
    exact b.free c o' e1 (a.free c ob q n hx) hx
  there:=fun c ob q hx=>by
    obtain ⟨o',e1⟩:=a.there c ob q hx
    exact b.there c o' e1 hx
  tups:=fun c xs q=>b.tups c xs (a.tups c xs q)
  frzs:=fun c ob xs q=>b.frzs c ob xs (a.frzs c ob xs q)
  tbls:=fun c ps q=>by
    obtain ⟨m1,e1⟩:=a.tbls c ps q
    obtain ⟨m2,e2⟩:=b.tbls c _ e1
    exact ⟨m1++m2,by rw [e2,Array.append_assoc]⟩
theorem Un.kept (k:∀ b u,h.get? b=some u→h'.get? b=some u):Un fs ex H H h h' :=
  ⟨fun b ob q _ _ _=>k b ob q,fun b ob q _ _ _=>⟨ob.slots,k b ob q⟩,fun _ _ _ n _=>n,fun b ob q _=>⟨ob,k b ob q⟩,fun _ _ q=>q,fun _ _ _ q=>q,fun _ ps q=>⟨#[],by rw [q]; simp⟩⟩
theorem Un.refl:Un fs ex H H h h:=Un.kept fun _ _ q=>q
theorem Un.laid (k:∀ b u,h.get? b=some u→h'.get? b=some u) (hp:h.objs.size≤a) (hn:H a=none):Un fs ex H (upd H a o) h h' where
  keep:=fun b u q _ _ _=>k b u q
  slot:=fun b u q _ _ _=>⟨u.slots,k b u q⟩
  free:=fun b u q n _=>by rw [zd6 (Nat.ne_of_lt (Nat.lt_of_lt_of_le (Heap.lt_size q) hp))]; exact n
  there:=fun b u q _=>⟨u,k b u q⟩
  tups:=fun b xs q=>by rw [zd6 (zt8 q hn)]; exact q
  frzs:=fun b u xs q=>by rw [zd6 (zt8 q hn)]; exact q
  tbls:=fun b ps q=>⟨#[],by rw [zd6 (zt8 q hn),q]; simp⟩
theorem Un.write (mu:Mut (H x)) (he:e=x∨H e=some (.own x)) (k:∀ b u,b≠e→h.get? b=some u→h'.get? b=some u) (heo:∃ u,h'.get? e=some u):Un fs ex H (upd H x o) h h':=by
  have hx:∀ b,H b=none→b≠x:=fun b n z=>by subst z; rw [n] at mu; exact mu
  have hb:∀ b,H b=none→b≠e:=fun b n z=>by
    subst z
    rcases he with r | r
    · exact hx b n r
    · rw [n] at r; cases r
  have hm:∀ b u,H b=some u→¬ Mut (some u)→b≠x:=fun b u q nm z=>by subst z; rw [q] at mu; exact nm mu
  refine ⟨fun b u q n _ _=>k b u (hb b n) q,fun b u q n _ _=>⟨u.slots,k b u (hb b n) q⟩,fun b u q n _=>by rw [zd6 (hx b n)]; exact n,fun b u q _=>?_,
    fun b xs q=>by rw [zd6 (hm b _ q fun z=>z)]; exact q,fun b u xs q=>by rw [zd6 (hm b _ q fun z=>z)]; exact q,fun b ps q=>⟨#[],by rw [zd6 (hm b _ q fun z=>z),q]; simp⟩⟩
  by_cases hbe:b=e
  · subst hbe; exact heo
  · exact ⟨u,k b u hbe q⟩
theorem Un.mono (u:Un fs ex H H1 h h1) (hs:∀ b∈fs,b∈fs') (hx:∀ b∈ex,b∈ex'):Un fs' ex' H H1 h h1 :=
  ⟨fun b ob q n hb he=>u.keep b ob q n (fun z=>hb (hs b z)) fun z=>he (hx b z),fun _ _ q n _ he=>u.any q n fun z=>he (hx _ z),fun b ob q n he=>u.free b ob q n fun z=>he (hx b z),fun b ob q he=>u.there b ob q fun z=>he (hx b z),u.tups,u.frzs,u.tbls⟩
end
def trk (h:Heap) (H:Hp):List Addr:=(List.range h.objs.size).filter fun a=>(H a).isSome
def hidT (h:Heap) (H:Hp):Heap:=PySem.W.hideAll h (trk h H)
theorem zaD4 (h:Heap) (H:Hp):(hidT h H).objs.size=h.objs.size:=PySem.W.hideAll_size _ _
theorem zaM6 {h:Heap} {H:Hp} {b:Addr} {o:Obj} (e:h.get? b=some o) (n:H b=none):(hidT h H).get? b=some o :=
  PySem.W.hideAll_get _ e fun hm=>by
    have q:(H b).isSome=true:=(List.mem_filter.mp hm).2
    rw [n] at q; simp at q
theorem zaZ8 {h:Heap} {H:Hp} {b:Addr} {o:Obj} (e:(hidT h H).get? b=some o):h.get? b=some o∧H b=none:=by
  have e':h.get? b=some o:=PySem.W.of_hideAll (trk h H) e
  refine ⟨e',?_⟩
  cases q:H b with
  | none=>rfl
  | some x =>
    have hm:b∈trk h H:=List.mem_filter.mpr ⟨List.mem_range.mpr (Heap.lt_size e'),by simp [q]⟩
    have z:(hidT h H).get? b=none:=PySem.W.hideAll_none (trk h H) hm
    rw [z] at e; cases e
def zaU7 (g h:Heap) (L:Addr):List (Addr×Obj):=(List.range h.objs.size).filterMap fun a=>if a=L∨(g.get? a).isSome=true then none else (h.get? a).map fun o=>(a,o)
def rest (g h:Heap) (L d:Addr):List (Addr×Obj):=(zaU7 g h L).filter fun p=>decide (p.1≠d)
end L2
namespace L2
open PySem PySem.Spec PyProof.Rows
structure Mod (K:PySem.W.Frag) (mg:Str→Option Value) (base:Heap):Prop where
  kin:K.In base
  glob:base.Ns mainGlobals mg
  blt:∃ mb,base.Ns builtinsNs mb∧∀ x:Str,x≠"__name__"→mb x=bootBuiltins x
  nolimit:base.NoLimit
structure Cx where
  prog:Program
  w:World
  K:PySem.W.Frag
  mg:Str→Option Value
  base:Heap
  A:Around
  N:List Str
  s₀:Shared
  H₀:Hp
  env:Env
  outer:List Env
  stack:List Env
  ex:List Addr
  fn:Str→Bool
  calm:Bool
  pn:List (Addr×Obj)
  xe:Value→Shared→Prop
def frs (l:List Env):List Addr:=l.filterMap (·.frame)
abbrev Cx.fs (X:Cx):List Addr:=frs X.outer
def Vis (sc:Scope) (x:Str):Prop:=sc.names.lookup x=some .local∨sc.names.lookup x=some .cell∨sc.names.lookup x=some .free
def Loc (sc:Scope) (x:Str):Prop:=sc.names.lookup x=some .local∨sc.names.lookup x=some .cell
def Look (env:Env) (h:Heap) (m:Str→Option Value) (x:Str) (u:Value):Prop :=
  (env.kindOf x=some .local∧m x=some u)∨((env.kindOf x=some .cell∨env.kindOf x=some .free)∧∃ c,env.cells.lookup x=some c∧h.IsCell c (some u))
structure Cx.Ok (X:Cx):Prop where
  mod:Mod X.K X.mg X.base
  kind:X.env.scope.kind=.function
  glob:X.env.globals=mainGlobals
  blt:X.env.builtins=builtinsNs
  above:X.s₀.heap.objs.size≤X.env.locals
  inj:∀ x y c,X.env.cells.lookup x=some c→X.env.cells.lookup y=some c→x=y
  has:∀ x,(X.env.kindOf x=some .cell∨X.env.kindOf x=some .free)→∃ c,X.env.cells.lookup x=some c
  cab:∀ x c,X.fn x=true→X.env.cells.lookup x=some c→X.s₀.heap.objs.size≤c
  hd:X.calm=true→X.A.handled=none
  frames:X.A.frames=some X.stack
  stk:X.stack=X.outer∨(X.stack=X.env :: X.outer∧X.env.frame=some X.env.locals)
  exf:∀ b∈X.ex,b≠X.env.locals∧∀ x c,X.env.cells.lookup x=some c→c≠b
  bs:∀ b o,X.base.get? b=some o→X.s₀.heap.get? b=some o∧X.H₀ b=none
  bsz:X.base.objs.size≤X.s₀.heap.objs.size
  noex:∀ b o,X.base.get? b=some o→b ∉ X.ex
  exfs:∀ b∈X.ex,b ∉ X.fs
  funs:X.s₀.heap.FunFrames X.base X.outer
  frf:∀ b∈X.fs,X.H₀ b=none
structure Inv (X:Cx) (pins:List (Addr×Obj)) (σ:List (Option V)) (H:Hp) (s:Shared):Prop where
  ok:X.Ok
  os:s.os=X.s₀.os
  bare:AllBare s.gens
  base:Un X.fs X.ex X.H₀ H X.s₀.heap s.heap
  loc:∃ m,s.heap.Ns X.env.locals m∧∀ (i:Nat) (x:Str) (v:V),X.N[i]?=some x→σ[i]?=some (some v)→Vis X.env.scope x→∃ u,RelV v u∧Look X.env s.heap m x u
  cell:∀ x c,X.env.cells.lookup x=some c→∃ v,s.heap.IsCell c v
  free:H X.env.locals=none
  freeC:∀ x c,X.env.cells.lookup x=some c→H c=none
  pin:∀ p∈X.pn++pins,s.heap.get? p.1=some p.2∧H p.1=none∧p.1≠X.env.locals∧p.1 ∉ X.fs∧∀ v,p.2.data≠.cell v
  hok:HOk X.prog X.w H s.heap
  len:σ.length=X.N.length
section
variable {X:Cx} {pins:List (Addr×Obj)} {σ:List (Option V)} {H H':Hp} {s:Shared} {h':Heap}
theorem Cx.Ok.nofr (ok:X.Ok) {b:Addr} {o:Obj} (e:X.base.get? b=some o):b ∉ X.fs:=fun hb=>by
  have:=(ok.funs.mem hb).1
  rw [e] at this; cases this
theorem Inv.bs (I:Inv X pins σ H s):∀ b o,X.base.get? b=some o→s.heap.get? b=some o∧H b=none:=fun b o e =>
  ⟨I.base.keep b o (I.ok.bs b o e).1 (I.ok.bs b o e).2 (I.ok.nofr e) (I.ok.noex b o e),I.base.free b o (I.ok.bs b o e).1 (I.ok.bs b o e).2 (I.ok.noex b o e)⟩
theorem Inv.bk (I:Inv X pins σ H s):∀ b o,X.base.get? b=some o→s.heap.get? b=some o:=fun b o e=>(I.bs b o e).1
theorem Inv.mod (I:Inv X pins σ H s):Mod X.K X.mg X.base:=I.ok.mod
theorem Inv.kIn (I:Inv X pins σ H s):X.K.In s.heap:=I.ok.mod.kin.keeps I.bk
theorem Inv.nolimit (I:Inv X pins σ H s):s.heap.NoLimit:=I.ok.mod.nolimit.keeps I.bk
theorem Inv.fr (I:Inv X pins σ H s):∃ m,Fr X.base X.env.locals s.heap m :=
  let ⟨m,hn,_⟩:=I.loc
  ⟨m,hn,I.bk,Nat.le_trans I.ok.bsz I.ok.above⟩
theorem Inv.lt (I:Inv X pins σ H s):X.env.locals < s.heap.objs.size:=let ⟨_,hn,_⟩:=I.loc; hn.lt
theorem Inv.sz (I:Inv X pins σ H s):X.s₀.heap.objs.size≤s.heap.objs.size:=Nat.le_trans I.ok.above (Nat.le_of_lt I.lt)
theorem Inv.nofs (I:Inv X pins σ H s) {a:Addr} (h:s.heap.objs.size≤a):a ∉ X.fs:=fun hb=>by
  obtain ⟨_,o,ho,_⟩:=I.ok.funs.mem hb
  exact absurd (Nat.lt_of_lt_of_le (Heap.lt_size ho) (Nat.le_trans I.sz h)) (Nat.lt_irrefl _)
theorem Inv.cne (I:Inv X pins σ H s):∀ x c,X.env.cells.lookup x=some c→c≠X.env.locals:=fun x c e z=>by
  obtain ⟨v,o,ho,hd⟩:=I.cell x c e
  obtain ⟨m,⟨o',es,ep,ho',hd',_⟩,_⟩:=I.loc
  rw [z,ho'] at ho; cases ho; rw [hd'] at hd; cases hd
theorem Inv.funs (I:Inv X pins σ H s):s.heap.FunFrames X.base X.outer:=by
  have all:∀ (l:List Env),(∀ b∈frs l,b∈X.fs)→X.s₀.heap.FunFrames X.base l→s.heap.FunFrames X.base l:=by
    intro l
    induction l with
    | nil=>intro _ _; trivial
    | cons env r ih =>
      intro hs hl
      obtain ⟨hk,⟨L,o,hf,hn,ho,hd⟩,hr⟩:=hl
      have hL:L∈X.fs:=hs L (by unfold frs; rw [List.filterMap_cons,hf]; exact List.mem_cons_self)
      obtain ⟨sl,e⟩:=I.base.slot L o ho (I.ok.frf L hL) hL fun z=>I.ok.exfs L z hL
      exact ⟨hk,⟨L,_,hf,hn,e,hd⟩,ih (fun b hb=>hs b (by unfold frs; rw [List.filterMap_cons,hf]; exact List.mem_cons_of_mem _ hb)) hr⟩
  exact all X.outer (fun _ hb=>hb) I.ok.funs
theorem Inv.stack (I:Inv X pins σ H s):s.heap.FunFrames X.base X.stack:=by
  rcases I.ok.stk with e | ⟨e,hf⟩
  · rw [e]; exact I.funs
  · rw [e]
    obtain ⟨m,hn,_⟩:=I.loc
    refine .cons (by rw [I.ok.kind]; decide) hf hn ?_ I.funs
    exact Heap.get?_none_of_le (Nat.le_trans I.ok.bsz I.ok.above)
theorem Inv.stkSub (I:Inv X pins σ H s):∀ b∈frs X.stack,b∈X.env.locals :: X.fs:=fun b hb=>by
  rcases I.ok.stk with e | ⟨e,hf⟩
  · rw [e] at hb; exact List.mem_cons_of_mem _ hb
  · rw [e] at hb
    unfold frs at hb
    rw [List.filterMap_cons,hf] at hb
    exact hb
theorem Inv.stkFree (I:Inv X pins σ H s):∀ b∈frs X.stack,H b=none:=fun b hb=>by
  rcases List.mem_cons.mp (I.stkSub b hb) with e | hb
  · rw [e]; exact I.free
  · obtain ⟨_,o,ho,_⟩:=I.ok.funs.mem hb
    exact I.base.free b o ho (I.ok.frf b hb) fun z=>I.ok.exfs b z hb
theorem Inv.step {g':Array GenState} {t':Nat} {d':Drawn} {ch:List Addr} (I:Inv X pins σ H s)
    (hch:∀ b∈ch,(b∈X.ex∨X.s₀.heap.objs.size≤b)∧b≠X.env.locals∧(∀ x c,X.env.cells.lookup x=some c→c≠b)∧∀ p∈X.pn++pins,p.1≠b)
    (keep:∀ b o,b≠X.env.locals→b ∉ X.fs→b ∉ ch→s.heap.get? b=some o→H b=none→h'.get? b=some o)
    (slot:∀ b o,b≠X.env.locals→b∈X.fs→b ∉ ch→s.heap.get? b=some o→H b=none→∃ sl,h'.get? b=some { o with slots:=sl }) (free:∀ b o,b ∉ ch→s.heap.get? b=some o→H b=none→H' b=none)
    (there:∀ b o,b ∉ ch→s.heap.get? b=some o→∃ o',h'.get? b=some o')
    (tups:∀ b xs,H b=some (.tup xs)→H' b=some (.tup xs)) (frzs:∀ b o u,H b=some (.frz o u)→H' b=some (.frz o u)) (tbls:∀ b ps,H b=some (.tbl ps)→∃ more,H' b=some (.tbl (ps++more)))
    (ns:∀ m,s.heap.Ns X.env.locals m→h'.Ns X.env.locals m) (hok:HOk X.prog X.w H' h') (hg:AllBare g') :
    Inv X pins σ H' { s with heap:=h',gens:=g',drawn:=d',toks:=t' }:=by
  have neL:∀ b o,X.s₀.heap.get? b=some o→b≠X.env.locals:=fun b o e=>Nat.ne_of_lt (Nat.lt_of_lt_of_le (Heap.lt_size e) I.ok.above)
  have neC:∀ b o,X.s₀.heap.get? b=some o→b ∉ X.ex→b ∉ ch:=fun b o e hx hb=>by
    rcases (hch b hb).1 with z | z
    · exact hx z
    · exact absurd (Nat.lt_of_lt_of_le (Heap.lt_size e) z) (Nat.lt_irrefl _)
  have cellK:∀ x c,X.env.cells.lookup x=some c→∀ v,s.heap.IsCell c v→h'.IsCell c v:=fun x c e v ⟨o,ho,hd⟩=>by
    have nch:c ∉ ch:=fun z=>(hch c z).2.2.1 x c e rfl
    by_cases hc:c∈X.fs
    · obtain ⟨sl,q⟩:=slot c o (I.cne x c e) hc nch ho (I.freeC x c e)
      exact ⟨_,q,hd⟩
    · exact ⟨o,keep c o (I.cne x c e) hc nch ho (I.freeC x c e),hd⟩
  refine ⟨I.ok,I.os,hg,⟨fun b o e n hb hx=>?_,fun b o e n hb hx=>?_,fun b o e n hx=>?_,fun b o e hx=>?_,fun b xs e=>tups b xs (I.base.tups b xs e),fun b o xs e=>frzs b o xs (I.base.frzs b o xs e),fun b ps e=>?_⟩,?_,fun x c e=>?_,?_,fun x c e=>?_,fun p hp=>?_,hok,I.len⟩
  · exact keep b o (neL b o e) hb (neC b o e hx) (I.base.keep b o e n hb hx) (I.base.free b o e n hx)
  · obtain ⟨sl,e1⟩:=I.base.slot b o e n hb hx
    obtain ⟨sl',e2⟩:=slot b _ (neL b o e) hb (neC b o e hx) e1 (I.base.free b o e n hx)
    exact ⟨sl',e2⟩
  · obtain ⟨o',e1⟩:=I.base.there b o e hx
    exact free b o' (neC b o e hx) e1 (I.base.free b o e n hx)
  · obtain ⟨o',e1⟩:=I.base.there b o e hx
    exact there b o' (neC b o e hx) e1
  · obtain ⟨m1,e1⟩:=I.base.tbls b ps e
    obtain ⟨m2,e2⟩:=tbls b _ e1
    exact ⟨m1++m2,by rw [e2,Array.append_assoc]⟩
  · obtain ⟨m,hn,hl⟩:=I.loc
    refine ⟨m,ns m hn,fun i x v e1 e2 e3=>?_⟩
    obtain ⟨u,r,l⟩:=hl i x v e1 e2 e3
    refine ⟨u,r,?_⟩
    rcases l with l | ⟨k,c,e,z⟩
    · exact .inl l
    · exact .inr ⟨k,c,e,cellK x c e _ z⟩
  · obtain ⟨v,z⟩:=I.cell x c e
    exact ⟨v,cellK x c e v z⟩
  · obtain ⟨m,⟨o,_,_,ho,_⟩,_⟩:=I.loc
    exact free _ o (fun z=>(hch _ z).2.1 rfl) ho I.free
  · obtain ⟨v,o,ho,hd⟩:=I.cell x c e
    exact free c o (fun z=>(hch c z).2.2.1 x c e rfl) ho (I.freeC x c e)
  · obtain ⟨e,n,ne,nf,d⟩:=I.pin p hp
    have nch:p.1 ∉ ch:=fun z=>(hch p.1 z).2.2.2 p hp rfl
    exact ⟨keep p.1 p.2 ne nf nch e n,free p.1 p.2 nch e n,ne,nf,d⟩
theorem Inv.un {t':Nat} (I:Inv X pins σ H s) (u:Un X.fs [] H H' s.heap h') (hok:HOk X.prog X.w H' h'):Inv X pins σ H' { s with heap:=h',toks:=t' }:=by
  obtain ⟨m,⟨o,es,ep,ho,r⟩,_⟩:=id I.loc
  obtain ⟨sl,hL⟩:=u.any ho I.free (by simp)
  exact I.step (g':=s.gens) (d':=s.drawn) (ch:=[]) (fun _ z=>nomatch z) (fun b o _ hb _ e n=>u.keep b o e n hb (by simp)) (fun b o _ hb _ e n=>u.slot b o e n hb (by simp)) (fun b o _ e n=>u.free b o e n (by simp)) (fun b o _ e=>u.there b o e (by simp)) u.tups u.frzs u.tbls (fun m' hm=>by
    obtain ⟨o',es',ep',ho',r'⟩:=hm
    rw [ho] at ho'; cases ho'
    exact ⟨_,es',ep',hL,r'⟩) hok I.bare
theorem Inv.call {g':Array GenState} {t':Nat} {d':Drawn} {ch:List Addr} (I:Inv X pins σ H s) (u:Un (frs X.stack) ch H H' s.heap h') (hok:HOk X.prog X.w H' h') (hg:AllBare g')
    (hch:∀ b∈ch,(b∈X.ex∨X.s₀.heap.objs.size≤b)∧b≠X.env.locals∧(∀ x c,X.env.cells.lookup x=some c→c≠b)∧∀ p∈X.pn++pins,p.1≠b) :
    Inv X pins σ H' { s with heap:=h',gens:=g',drawn:=d',toks:=t' }:=by
  obtain ⟨m,⟨o,es,ep,ho,r⟩,_⟩:=id I.loc
  obtain ⟨sl,hL⟩:=u.any ho I.free fun z=>(hch _ z).2.1 rfl
  exact I.step (ch:=ch) hch (fun b o hL hb hc e n=>u.keep b o e n (fun z=>(List.mem_cons.mp (I.stkSub b z)).elim hL hb) hc) (fun b o _ _ hc e n=>u.any e n hc) (fun b o hc e n=>u.free b o e n hc) (fun b o hc e=>u.there b o e hc) u.tups u.frzs u.tbls (fun m' hm=>by
    obtain ⟨o',es',ep',ho',r'⟩:=hm
    rw [ho] at ho'; cases ho'
    exact ⟨_,es',ep',hL,r'⟩) hok hg
theorem Inv.turned {t':Nat} {it:Addr} (I:Inv X pins σ H s) (k:∀ b o,b≠it→s.heap.get? b=some o→h'.get? b=some o) (hn:H it=none) (hL:it≠X.env.locals)
    (h1:it∈X.ex∨X.s₀.heap.objs.size≤it) (h2:∀ x c,X.env.cells.lookup x=some c→c≠it) (h3:∀ p∈X.pn++pins,p.1≠it):Inv X pins σ H { s with heap:=h',toks:=t' }:=by
  have nit:∀ b u,H b=some u→b≠it:=fun b u e z=>by rw [z,hn] at e; cases e
  refine I.step (g':=s.gens) (d':=s.drawn) (ch:=[it]) (fun b hb=>?_) (fun b o _ _ hc e _=>k b o (fun z=>hc (by simp [z])) e) (fun b o _ _ hc e _=>⟨o.slots,k b o (fun z=>hc (by simp [z])) e⟩) (fun _ _ _ _ n=>n)
    (fun b o hc e=>⟨o,k b o (fun z=>hc (by simp [z])) e⟩) (fun _ _ e=>e) (fun _ _ _ e=>e) (fun b ps e=>⟨#[],by rw [e]; simp⟩) (fun m hm=>?_) (fun b u e=>?_) I.bare
  · have e:b=it:=by simpa using hb
    subst e
    exact ⟨h1,hL,h2,h3⟩
  · obtain ⟨o,es,ep,ho,r⟩:=hm
    exact ⟨o,es,ep,k _ o (Ne.symm hL) ho,r⟩
  · refine (I.hok b u e).stay (fun c v hc q=>k c v ?_ q) (fun _ q=>q) fun _ _ q=>q
    rcases hc with z | z
    · rw [z]; exact nit b u e
    · exact nit c _ z
theorem Inv.tok (I:Inv X pins σ H s) (t:Nat):Inv X pins σ H { s with toks:=t }:=I.un (h':=s.heap) (t':=t) Un.refl I.hok
theorem Inv.kept {t':Nat} (I:Inv X pins σ H s) (k:∀ b u,s.heap.get? b=some u→h'.get? b=some u):Inv X pins σ H { s with heap:=h',toks:=t' }:=I.un (Un.kept k) (I.hok.kept k)
theorem Inv.laid {a:Addr} {o:HO} {t':Nat} (I:Inv X pins σ H s) (k:∀ b u,s.heap.get? b=some u→h'.get? b=some u) (hp:s.heap.objs.size≤a) (new:ObjOk X.prog X.w (upd H a o) h' a o) :
    Inv X pins σ (upd H a o) { s with heap:=h',toks:=t' }:=I.un (Un.laid k hp (I.hok.fresh hp)) (I.hok.laid k hp new)
theorem Inv.write {x e:Addr} {o:HO} {t':Nat} (I:Inv X pins σ H s) (mu:Mut (H x)) (he:e=x∨H e=some (.own x)) (k:∀ b u,b≠e→s.heap.get? b=some u→h'.get? b=some u) (heo:∃ u,h'.get? e=some u)
    (new:ObjOk X.prog X.w (upd H x o) h' x o):Inv X pins σ (upd H x o) { s with heap:=h',toks:=t' }:=I.un (Un.write mu he k heo) (I.hok.write mu he k heo new)
theorem Inv.pins_of {pins':List (Addr×Obj)} (I:Inv X pins σ H s) (h:∀ p∈pins',s.heap.get? p.1=some p.2∧H p.1=none∧p.1≠X.env.locals∧p.1 ∉ X.fs∧∀ v,p.2.data≠.cell v):Inv X pins' σ H s :=
  ⟨I.ok,I.os,I.bare,I.base,I.loc,I.cell,I.free,I.freeC,fun p hp=>(List.mem_append.mp hp).elim (fun z=>I.pin p (List.mem_append_left _ z)) (h p),I.hok,I.len⟩
theorem zav5 {N:List Str} (hN:N.Nodup) {i j:Nat} {x:Str} (a:N[i]?=some x) (b:N[j]?=some x):i=j:=by
  obtain ⟨h1,e1⟩:=List.getElem?_eq_some_iff.mp a
  obtain ⟨h2,e2⟩:=List.getElem?_eq_some_iff.mp b
  exact (List.getElem_inj hN).mp (e1.trans e2.symm)
theorem zal2 {M:Model} {A:Around} {E:Value→Shared→Prop} {i:Nat} {x:Str} {v:V} {u:Value} {Q:Unit→Shared→Prop} (I:Inv X pins σ H s) (hN:X.N.Nodup) (hi:X.N[i]?=some x) (hx:Loc X.env.scope x) (r:RelV v u)
    (h:∀ s',Inv X pins (σ.set i (some v)) H s'→(∃ a,Heap.SameBut a s.heap s'.heap∧(a=X.env.locals∨X.env.cells.lookup x=some a))→Q () s') (hf:X.fn x=true∨X.env.scope.names.lookup x=some .local:=by first | exact .inl rfl | exact .inr rfl | assumption):wpAny M A (storeName X.env x u) Q E s:=by
  obtain ⟨m,hn,hl⟩:=id I.loc
  have hcls:(X.env.scope.kind == .class || (X.env.scope.kind == .module && X.env.locals != X.env.globals))=false:=by rw [I.ok.kind]; rfl
  have hiσ:i < σ.length:=by rw [I.len]; exact (List.getElem?_eq_some_iff.mp hi).1
  have cne:=I.cne
  have tracked:∀ {a:Addr} {h':Heap},(∃ o,s.heap.get? a=some o∧H a=none)→Heap.SameBut a s.heap h'→HOk X.prog X.w H h':=fun {a h'} ha hs b ob e=>by
    obtain ⟨_,_,hfree⟩:=ha
    refine (I.hok b ob e).stay (fun c w' hc q=>(hs.2 c ?_).trans q) (fun _ q=>q) fun _ _ q=>q
    rintro rfl
    rcases hc with rfl | hc
    · rw [hfree] at e; cases e
    · rw [hfree] at hc; cases hc
  rcases hx with hk | hk
  · refine wpAny_storeName_local hk hn (fun h' hn' hs=>?_) hcls
    obtain ⟨oL,_,_,hoL,_⟩:=id hn
    refine h _ ⟨I.ok,I.os,I.bare,⟨fun b o e n hb hx=>?_,fun b o e n hb hx=>?_,I.base.free,fun b o e hx=>?_,I.base.tups,I.base.frzs,I.base.tbls⟩,⟨_,hn',fun j y v' e1 e2 e3=>?_⟩,fun y c e=>?_,I.free,I.freeC,fun p hp=>?_,tracked ⟨oL,hoL,I.free⟩ hs,by simpa using I.len⟩ ⟨_,hs,.inl rfl⟩
    · exact (hs.2 b (Nat.ne_of_lt (Nat.lt_of_lt_of_le (Heap.lt_size e) I.ok.above))).trans (I.base.keep b o e n hb hx)
    · obtain ⟨sl,e1⟩:=I.base.slot b o e n hb hx
      exact ⟨sl,(hs.2 b (Nat.ne_of_lt (Nat.lt_of_lt_of_le (Heap.lt_size e) I.ok.above))).trans e1⟩
    · obtain ⟨o',e1⟩:=I.base.there b o e hx
      exact ⟨o',(hs.2 b (Nat.ne_of_lt (Nat.lt_of_lt_of_le (Heap.lt_size e) I.ok.above))).trans e1⟩
    · by_cases hj:j=i
      · subst hj
        rw [hi] at e1; cases e1
        rw [List.getElem?_set_self hiσ] at e2
        cases e2
        exact ⟨u,r,.inl ⟨hk,by simp⟩⟩
      · rw [List.getElem?_set_ne (Ne.symm hj)] at e2
        obtain ⟨u',r',q⟩:=hl j y v' e1 e2 e3
        refine ⟨u',r',?_⟩
        rcases q with ⟨k,e⟩ | ⟨k,c,e,z⟩
        · refine .inl ⟨k,?_⟩
          have:y≠x:=fun e=>hj (zav5 hN e1 (e ▸ hi))
          simp [this,e]
        · exact .inr ⟨k,c,e,z.sameBut hs (cne y c e)⟩
    · obtain ⟨w',z⟩:=I.cell y c e
      exact ⟨w',z.sameBut hs (cne y c e)⟩
    · obtain ⟨e,n,ne,nf,d⟩:=I.pin p hp
      exact ⟨(hs.2 p.1 ne).trans e,n,ne,nf,d⟩
  · have hfn:X.fn x=true:=by
      rcases hf with z | z
      · exact z
      · rw [z] at hk; cases hk
    obtain ⟨c,hc⟩:=I.ok.has x (.inl hk)
    obtain ⟨w',z⟩:=I.cell x c hc
    refine wpAny_storeName_cell I.ok.kind hk hc z (fun h' hc' hs=>?_)
    obtain ⟨oc,hoc,hocd⟩:=id z
    refine h { s with heap:=h' } ⟨I.ok,I.os,I.bare,⟨fun b o e n hb hx=>?_,fun b o e n hb hx=>?_,I.base.free,fun b o e hx=>?_,I.base.tups,I.base.frzs,I.base.tbls⟩,⟨m,hn.sameBut hs (Ne.symm (cne x c hc)),fun j y v' e1 e2 e3=>?_⟩,fun y c' e=>?_,I.free,I.freeC,fun p hp=>?_,tracked ⟨oc,hoc,I.freeC x c hc⟩ hs,by simpa using I.len⟩ ⟨c,hs,.inr hc⟩
    · exact (hs.2 b (Nat.ne_of_lt (Nat.lt_of_lt_of_le (Heap.lt_size e) (I.ok.cab x c hfn hc)))).trans (I.base.keep b o e n hb hx)
    · obtain ⟨sl,e1⟩:=I.base.slot b o e n hb hx
      exact ⟨sl,(hs.2 b (Nat.ne_of_lt (Nat.lt_of_lt_of_le (Heap.lt_size e) (I.ok.cab x c hfn hc)))).trans e1⟩
    · obtain ⟨o',e1⟩:=I.base.there b o e hx
      exact ⟨o',(hs.2 b (Nat.ne_of_lt (Nat.lt_of_lt_of_le (Heap.lt_size e) (I.ok.cab x c hfn hc)))).trans e1⟩
    · by_cases hj:j=i
      · subst hj
        rw [hi] at e1; cases e1
        rw [List.getElem?_set_self hiσ] at e2
        cases e2
        exact ⟨u,r,.inr ⟨.inl hk,c,hc,hc'⟩⟩
      · rw [List.getElem?_set_ne (Ne.symm hj)] at e2
        obtain ⟨u',r',q⟩:=hl j y v' e1 e2 e3
        refine ⟨u',r',?_⟩
        rcases q with q | ⟨k,c',e,z'⟩
        · exact .inl q
        · refine .inr ⟨k,c',e,z'.sameBut hs ?_⟩
          rintro rfl
          exact hj (zav5 hN e1 (I.ok.inj _ _ _ e hc ▸ hi))
    · by_cases hcc:c'=c
      · subst hcc; exact ⟨_,hc'⟩
      · obtain ⟨w2,z2⟩:=I.cell y c' e
        exact ⟨w2,z2.sameBut hs hcc⟩
    · obtain ⟨e,n,ne,nf,d⟩:=I.pin p hp
      refine ⟨(hs.2 p.1 ?_).trans e,n,ne,nf,d⟩
      intro q
      rw [q,hoc] at e
      have q':oc=p.2:=Option.some.inj e
      exact d w' (by rw [← q']; exact hocd)
theorem zV8 {M:Model} {A:Around} {E:Value→Shared→Prop} {i:Nat} {x:Str} {v:V} {u:Value} {Q:Unit→Shared→Prop} (I:Inv X pins σ H s) (hN:X.N.Nodup) (hi:X.N[i]?=some x) (hx:Loc X.env.scope x) (r:RelV v u)
    (h:∀ s',Inv X pins (σ.set i (some v)) H s'→Q () s') (hf:X.fn x=true∨X.env.scope.names.lookup x=some .local:=by first | exact .inl rfl | exact .inr rfl | assumption):wpAny M A (storeName X.env x u) Q E s :=
  zal2 I hN hi hx r (fun s' I' _=>h s' I') hf
theorem Inv.call' {s':Shared} {ch:List Addr} (I:Inv X pins σ H s) (ho:s'.os=s.os) (u:Un (frs X.stack) ch H H' s.heap s'.heap) (hok:HOk X.prog X.w H' s'.heap) (hg:AllBare s'.gens)
    (hch:∀ b∈ch,(b∈X.ex∨X.s₀.heap.objs.size≤b)∧b≠X.env.locals∧(∀ x c,X.env.cells.lookup x=some c→c≠b)∧∀ p∈X.pn++pins,p.1≠b):Inv X pins σ H' s':=by
  obtain ⟨h',g',d',t',o'⟩:=s'
  have e:o'=s.os:=ho
  subst e
  exact I.call (g':=g') (t':=t') (d':=d') u hok hg hch
end
abbrev XK:=Value→Option Addr→Hp→Prop
abbrev St:=List (Option V)
abbrev VK:=V→Hp→Prop
abbrev TE:=St→Hp→VK→Prop
abbrev TT:=St→Hp→(Bool→Hp→Prop)→Prop
abbrev TA:=St→Hp→(List V→Hp→Prop)→Prop
structure Ends where
  nx:St→Hp→Prop
  rt:VK
  bk:St→Hp→Prop:=fun _ _=>False
  ct:St→Hp→Prop:=fun _ _=>False
abbrev TS:=Ends→St→Hp→Prop
def EP (X:Cx) (pins:List (Addr×Obj)) (σ:St) (Q:VK) (u:Value) (s':Shared):Prop:=∃ v H',Inv X pins σ H' s'∧RelV v u∧Q v H'
def TP (X:Cx) (pins:List (Addr×Obj)) (σ:St) (Q:Bool→Hp→Prop) (b:Bool) (s':Shared):Prop:=∃ H',Inv X pins σ H' s'∧Q b H'
def AP (X:Cx) (pins:List (Addr×Obj)) (σ:St) (Q:List V→Hp→Prop) (us:List Value) (s':Shared):Prop:=∃ vs H',Inv X pins σ H' s'∧Vals vs us∧Q vs H'
def SP (X:Cx) (pins:List (Addr×Obj)) (D:Ends) (f:Flow) (s':Shared):Prop :=
  match f with
  | .next=>∃ σ' H',Inv X pins σ' H' s'∧D.nx σ' H'
  | .brk=>∃ σ' H',Inv X pins σ' H' s'∧D.bk σ' H'
  | .cont=>∃ σ' H',Inv X pins σ' H' s'∧D.ct σ' H'
  | .ret u=>∃ v σ' H',Inv X pins σ' H' s'∧RelV v u∧D.rt v H'
def PE (X:Cx) (e:Expr) (t:TE):Prop :=
  ∀ (pins:List (Addr×Obj)) (s:Shared) (σ:St) (H:Hp) (Q:VK),Inv X pins σ H s→t σ H Q→wpAny (model X.prog X.w) X.A (eval e X.env) (EP X pins σ Q) X.xe s
def PT (X:Cx) (e:Expr) (t:TT):Prop :=
  ∀ (pins:List (Addr×Obj)) (s:Shared) (σ:St) (H:Hp) (Q:Bool→Hp→Prop),Inv X pins σ H s→t σ H Q→wpAny (model X.prog X.w) X.A (isTrue e X.env (eval e X.env)) (TP X pins σ Q) X.xe s
def PW (X:Cx) (e:Expr) (t:TT):Prop :=
  ∀ (whole:Sem Value) (pins:List (Addr×Obj)) (s:Shared) (σ:St) (H:Hp) (Q:Bool→Hp→Prop),Inv X pins σ H s→t σ H Q→wpAny (model X.prog X.w) X.A (isTrue e X.env whole) (TP X pins σ Q) X.xe s
theorem PW.pt {X:Cx} {e:Expr} {t:TT} (h:PW X e t):PT X e t:=h _
def PA (X:Cx) (es:List Expr) (t:TA):Prop :=
  ∀ (pos:Pos) (pins:List (Addr×Obj)) (s:Shared) (σ:St) (H:Hp) (Q:List V→Hp→Prop),Inv X pins σ H s→t σ H Q→wpAny (model X.prog X.w) X.A (spliced (backTo pos (starEach es X.env))) (AP X pins σ Q) X.xe s
def PS (X:Cx) (st:Stmt) (t:TS):Prop :=
  ∀ (pins:List (Addr×Obj)) (s:Shared) (σ:St) (H:Hp) (D:Ends),Inv X pins σ H s→t D σ H→wpAny (model X.prog X.w) X.A (exec st X.env) (SP X pins D) X.xe s
def PSs (X:Cx) (st:List Stmt) (t:TS):Prop :=
  ∀ (pins:List (Addr×Obj)) (s:Shared) (σ:St) (H:Hp) (D:Ends),Inv X pins σ H s→t D σ H→wpAny (model X.prog X.w) X.A (execs st X.env) (SP X pins D) X.xe s
theorem thn {α:Type} {t:Sem α} {Q Q':α→Shared→Prop} {M:Model} {A:Around} {E:Value→Shared→Prop} {s:Shared} (h:wpAny M A t Q E s) (hQ:∀ a s,Q a s→Q' a s):wpAny M A t Q' E s:=wpAny_mono h hQ fun _ _ x=>x
end L2
namespace L2
open PySem PySem.Spec PyProof.Rows
section
variable {X:Cx}
def tVar (i:Nat):TE:=fun σ H Q=>∃ v,σ[i]?=some (some v)∧Q v H
def tC (v:V):TE:=fun _ H Q=>Q v H
theorem zbd1 {i:Nat} {x:Str} {pos:Pos} (hN:X.N[i]?=some x) (hv:Vis X.env.scope x) (hd:(x == ("__debug__" : Str))=false:=by decide) (hcd:(x == ("__classdict__" : Str))=false:=by decide):PE X (.Name x pos) (tVar i):=by
  intro pins s σ H Q I h
  obtain ⟨v,e,h⟩:=h
  obtain ⟨m,hn,hl⟩:=I.loc
  obtain ⟨u,r,l⟩:=hl i x v hN e hv
  have fin:EP X pins σ Q u s:=⟨v,H,I,r,h⟩
  rcases l with ⟨hk,hm⟩ | ⟨hk,c,hc,hcell⟩
  · exact wpAny_Name (wpAny_loadName_local I.ok.kind hk hn hm fin) hd
  · rcases hk with hk | hk
    · exact wpAny_Name (wpAny_loadName_cell I.ok.kind hk hc hcell fin) hd
    · exact wpAny_Name (wpAny_loadName_free I.ok.kind hk hc hcell fin hcd) hd
theorem zbh7 {i j pos}:PE X (.Constant (.int i) j pos) (tC (.int i)):=fun _ _ _ H _ I h=>wpAny_Constant_int ⟨.int i,H,I.tok _,⟨_,rfl⟩,h⟩
theorem zbn7 {b j pos}:PE X (.Constant (.bool b) j pos) (tC (.bl b)):=fun _ _ _ H _ I h=>Constant_bool ⟨.bl b,H,I,rfl,h⟩
theorem zbc8 {j pos}:PE X (.Constant .none j pos) (tC .non):=fun _ _ _ H _ I h=>Constant_none ⟨.non,H,I,rfl,h⟩
theorem zaR8 {x j pos}:PE X (.Constant (.str x) j pos) (tC (.str x)):=fun _ _ _ H _ I h=>Calls.Constant_str ⟨.str x,H,I.tok _,⟨_,rfl⟩,h⟩
def Gl (X:Cx) (x:Str):Prop:=X.env.kindOf x=some .globalImplicit
theorem zaI7 {E:Value→Shared→Prop} {pins:List (Addr×Obj)} {s:Shared} {σ:St} {H:Hp} {x:Str} {u:Value} {pos:Pos} {Q:Value→Shared→Prop} (I:Inv X pins σ H s) (hg:Gl X x) (hm:X.mg x=some u) (h:Q u s)
    (hd:(x == ("__debug__" : Str))=false:=by decide):wpAny (model X.prog X.w) X.A (eval (.Name x pos) X.env) Q E s :=
  Calls.Name_function_global I.ok.kind hg (Calls.loadGlobal_global (by rw [I.ok.glob]; exact I.mod.glob.keeps I.bk) hm h) hd
theorem zQ8 {E:Value→Shared→Prop} {pins:List (Addr×Obj)} {s:Shared} {σ:St} {H:Hp} {x:Str} {u:Value} {pos:Pos} {Q:Value→Shared→Prop} (I:Inv X pins σ H s) (hg:Gl X x) (hm:X.mg x=none) (hv:bootBuiltins x=some u) (h:Q u s)
    (hn:x≠"__name__":=by decide) (hd:(x == ("__debug__" : Str))=false:=by decide):wpAny (model X.prog X.w) X.A (eval (.Name x pos) X.env) Q E s:=by
  obtain ⟨mb,h1,h2⟩:=I.mod.blt
  exact Calls.Name_function_global I.ok.kind hg (Calls.loadGlobal_builtin (by rw [I.ok.glob]; exact I.mod.glob.keeps I.bk) hm (by rw [I.ok.blt]; exact h1.keeps I.bk) ((h2 x hn).trans hv) h) hd
theorem zas3 {x:Str} {v:V} {u:Value} {pos:Pos} (hg:Gl X x) (hm:X.mg x=some u) (r:RelV v u) (hd:(x == ("__debug__" : Str))=false:=by decide):PE X (.Name x pos) (tC v) :=
  fun _ _ _ H _ I h=>zaI7 I hg hm ⟨v,H,I,r,h⟩ hd
theorem zaZ3 {x:Str} {v:V} {u:Value} {pos:Pos} (hg:Gl X x) (hm:X.mg x=none) (hv:bootBuiltins x=some u) (r:RelV v u) (hn:x≠"__name__":=by decide) (hd:(x == ("__debug__" : Str))=false:=by decide):PE X (.Name x pos) (tC v) :=
  fun _ _ _ H _ I h=>zQ8 I hg hm hv ⟨v,H,I,r,h⟩ hn hd
variable {a b:Expr} {ta tb:TE} {pos:Pos}
def tB (t:TE):TT:=fun σ H Q=>t σ H fun x H1=>∃ c,x=.bl c∧Q c H1
theorem zbf9 {e:Expr} {t:TE} (h:PE X e t) (he:∀ whole,isTrue e X.env whole=(do let v ← whole; standAt e.pos; holding [v] (truthy v)):=by intro _; rfl):PT X e (tB t):=by
  intro pins s σ H Q I hw
  refine isTrue_plain (thn (h pins s σ H _ I hw) fun v s1 ⟨x,H1,I1,r1,q1⟩=>?_) (he _)
  obtain ⟨d,rfl,q⟩:=q1
  cases r1
  exact wpAny_truthy_bool ⟨H1,I1,q⟩
variable {tA tB':TT} {rest:List Expr}
def tAnd (t u:TT):TT:=fun σ H Q=>t σ H fun c H1=>if c=true then u σ H1 Q else Q false H1
def tOr (t u:TT):TT:=fun σ H Q=>t σ H fun c H1=>if c=true then Q true H1 else u σ H1 Q
def tNot (t:TT):TT:=fun σ H Q=>t σ H fun c H1=>Q (!c) H1
theorem zaT8 (ha:PT X a tA):PW X (.BoolOp .And [a] pos) tA:=by
  intro wh pins s σ H Q I h
  refine isTrue_and (thn (ha pins s σ H Q I h) fun c s1 e=>?_)
  cases c with
  | true=>exact isTrue_and_nil e
  | false=>exact e
theorem zbk1 (ha:PT X a tA):PW X (.BoolOp .Or [a] pos) tA:=by
  intro wh pins s σ H Q I h
  refine isTrue_or (thn (ha pins s σ H Q I h) fun c s1 e=>?_)
  cases c with
  | false=>exact isTrue_or_nil e
  | true=>exact e
theorem zbi6 (ha:PT X a tA) (hb:PW X (.BoolOp .And (b :: rest) pos) tB'):PW X (.BoolOp .And (a :: b :: rest) pos) (tAnd tA tB'):=by
  intro wh pins s σ H Q I h
  refine isTrue_and (thn (ha pins s σ H _ I h) fun c s1 ⟨H1,I1,q1⟩=>?_)
  cases c with
  | true=>exact hb wh pins s1 σ H1 Q I1 q1
  | false=>exact ⟨H1,I1,q1⟩
theorem zbn2 (ha:PT X a tA) (hb:PW X (.BoolOp .Or (b :: rest) pos) tB'):PW X (.BoolOp .Or (a :: b :: rest) pos) (tOr tA tB'):=by
  intro wh pins s σ H Q I h
  refine isTrue_or (thn (ha pins s σ H _ I h) fun c s1 ⟨H1,I1,q1⟩=>?_)
  cases c with
  | true=>exact ⟨H1,I1,q1⟩
  | false=>exact hb wh pins s1 σ H1 Q I1 q1
theorem zbd6 (ha:PT X a tA):PT X (.UnaryOp .Not a pos) (tNot tA):=by
  intro pins s σ H Q I h
  exact isTrue_not (ha pins s σ H (fun c H1=>Q (!c) H1) I h)
def zbo9 (ta tb:TE):TE:=fun σ H Q=>ta σ H fun x H1=>∃ c,x=.bl c∧if c=true then tb σ H1 Q else Q (.bl false) H1
def zbo5 (ta:TE):TE:=fun σ H Q=>ta σ H fun x H1=>∃ c,x=.bl c∧Q (.bl (!c)) H1
theorem zba5 {op} {t:TE} (h:PE X a t):PE X (.BoolOp op [a] pos) t:=fun pins s σ H Q I hw=>BoolOp_one (h pins s σ H Q I hw)
theorem zbc3 (ha:PE X a ta) (hb:PE X (.BoolOp .And (b :: rest) pos) tb):PE X (.BoolOp .And (a :: b :: rest) pos) (zbo9 ta tb):=by
  intro pins s σ H Q I h
  refine BoolOp_and (thn (ha pins s σ H _ I h) fun v s1 ⟨x,H1,I1,r1,q1⟩=>?_)
  obtain ⟨c,rfl,q1⟩:=q1
  cases r1
  refine wpAny_truthy_bool ?_
  cases c with
  | true=>exact hb pins s1 σ H1 Q I1 q1
  | false=>exact ⟨.bl false,H1,I1,rfl,q1⟩
theorem zbg8 (ha:PE X a ta):PE X (.UnaryOp .Not a pos) (zbo5 ta):=by
  intro pins s σ H Q I h
  refine UnaryOp_ (thn (ha pins s σ H _ I h) fun v s1 ⟨x,H1,I1,r1,q1⟩=>?_)
  obtain ⟨c,rfl,q1⟩:=q1
  cases r1
  exact not_of (wpAny_truthy_bool ⟨.bl (!c),H1,I1,rfl,q1⟩)
def tIf (t:TT) (ta tb:TE):TE:=fun σ H Q=>t σ H fun c H1=>if c=true then ta σ H1 Q else tb σ H1 Q
theorem zaP3 {c:Expr} (hc:PT X c tA) (ha:PE X a ta) (hb:PE X b tb):PE X (.IfExp c a b pos) (tIf tA ta tb):=by
  intro pins s σ H Q I h
  refine wpAny_IfExp (thn (hc pins s σ H _ I h) fun d s1 ⟨H1,I1,q1⟩=>?_)
  cases d with
  | true=>exact ha pins s1 σ H1 Q I1 q1
  | false=>exact hb pins s1 σ H1 Q I1 q1
end
end L2
namespace L2
open PySem PySem.Spec PyProof.Rows
def SqL (K:PySem.W.Frag) (H:Hp) (a:Addr) (xs:List V):Prop :=
  Rd H a (.lst xs) ∨
    ∃ (o:Obj) (its:Array Value) (n:Nat),K.lookup a=some o∧o.cls=.type "list"∧o.dict=none∧o.data=.seq its n∧its.size≤sizeLine∧Vals xs its.toList
def SqT (K:PySem.W.Frag) (H:Hp) (a:Addr) (xs:List V):Prop :=
  Rd H a (.tup xs) ∨
    ∃ (o:Obj) (its:Array Value) (n:Nat),K.lookup a=some o∧(o.cls=.type "tuple"∧o.dict=none)∧o.data=.seq its n∧its.size≤sizeLine∧Vals xs its.toList
def absV:Value→Option V
  | .none=>some .non
  | .bool b=>some (.bl b)
  | .int i _=>some (.int i)
  | .str x _=>some (.str x)
  | .bytes b _=>some (.byt b)
  | .float b _=>some (.flt b)
  | .ref a=>some (.ref a)
  | .type n=>some (.ty n)
  | _=>none
theorem RelV.abs {x:V} {u:Value} (r:RelV x u):absV u=some x:=by
  cases x with
  | non=>cases r; rfl
  | bl _=>cases r; rfl
  | int _=>obtain ⟨t,rfl⟩:=r; rfl
  | str _=>obtain ⟨t,rfl⟩:=r; rfl
  | byt _=>obtain ⟨t,rfl⟩:=r; rfl
  | flt _=>obtain ⟨t,rfl⟩:=r; rfl
  | ref _=>cases r; rfl
  | ty _=>cases r; rfl
theorem RelV.inj {x y:V} {u:Value} (r:RelV x u) (q:RelV y u):x=y:=Option.some.inj (r.abs.symm.trans q.abs)
theorem Vals.inj:∀ {xs ys:List V} {us:List Value},Vals xs us→Vals ys us→xs=ys
  | _,_,_,.nil,.nil=>rfl
  | _,_,_,.cons r t,.cons r' t'=>by rw [r.inj r',Vals.inj t t']
section
variable {X:Cx} {pins:List (Addr×Obj)} {σ:St} {H:Hp} {s:Shared} {a:Addr} {xs ys:List V}
theorem SqL.of {K:PySem.W.Frag} (h:H a=some (.lst xs)):SqL K H a xs:=.inl (.inl h)
theorem SqT.of {K:PySem.W.Frag} (h:H a=some (.tup xs)):SqT K H a xs:=.inl (.inl h)
theorem Inv.list (I:Inv X pins σ H s) (h:SqL X.K H a xs):∃ its:List Value,Vals xs its∧PlainL s.heap a its.toArray∧xs.length≤sizeLine:=by
  rcases h with h | ⟨o,its,n,hk,hc,hd,hs,hz,r⟩
  · obtain ⟨z,its,n,r,e⟩:=h.ok I.hok
    exact ⟨its,r,⟨_,n,e,rfl,rfl,rfl⟩,z⟩
  · refine ⟨its.toList,r,⟨o,n,I.kIn a o hk,hc,hd,by simpa using hs⟩,?_⟩
    have e:=r.length
    simp only [Array.length_toList] at e
    omega
theorem Inv.tuple (I:Inv X pins σ H s) (h:SqT X.K H a xs):∃ its:List Value,Vals xs its∧IsTup s.heap a its.toArray∧xs.length≤sizeLine:=by
  rcases h with h | ⟨o,its,n,hk,hc,hs,hz,r⟩
  · obtain ⟨z,its,r,p⟩:=h.ok I.hok
    exact ⟨its,r,p,z.1⟩
  · refine ⟨its.toList,r,⟨o,I.kIn a o hk,hc.1,n,by simpa using hs⟩,?_⟩
    have e:=r.length
    simp only [Array.length_toList] at e
    omega
theorem Inv.list_inj (I:Inv X pins σ H s) (h:SqL X.K H a xs) (h':SqL X.K H a ys):xs=ys:=by
  obtain ⟨its,r,⟨o,n,e,_,_,d⟩,_⟩:=I.list h
  obtain ⟨its',r',⟨o',n',e',_,_,d'⟩,_⟩:=I.list h'
  rw [e] at e'; cases e'
  rw [d] at d'
  injection d' with d1 _
  have:its=its':=by simpa using congrArg Array.toList d1
  subst this
  exact r.inj r'
theorem Inv.tuple_inj (I:Inv X pins σ H s) (h:SqT X.K H a xs) (h':SqT X.K H a ys):xs=ys:=by
  obtain ⟨its,r,⟨o,e,_,n,d⟩,_⟩:=I.tuple h
  obtain ⟨its',r',⟨o',e',_,n',d'⟩,_⟩:=I.tuple h'
  rw [e] at e'; cases e'
  rw [d] at d'
  injection d' with d1 _
  have:its=its':=by simpa using congrArg Array.toList d1
  subst this
  exact r.inj r'
end
abbrev Cx.wish (X:Cx) (E:Value→Shared→Prop):Cx:={ X with xe:=E }
abbrev Cx.nox (X:Cx):Cx:=X.wish fun _ _=>False
theorem Cx.Ok.wish {X:Cx} (ok:X.Ok) (E:Value→Shared→Prop):(X.wish E).Ok :=
  ⟨ok.mod,ok.kind,ok.glob,ok.blt,ok.above,ok.inj,ok.has,ok.cab,ok.hd,ok.frames,ok.stk,ok.exf,ok.bs,ok.bsz,ok.noex,ok.exfs,ok.funs,ok.frf⟩
theorem Cx.Ok.unwish {X:Cx} {E:Value→Shared→Prop} (ok:(X.wish E).Ok):X.Ok :=
  ⟨ok.mod,ok.kind,ok.glob,ok.blt,ok.above,ok.inj,ok.has,ok.cab,ok.hd,ok.frames,ok.stk,ok.exf,ok.bs,ok.bsz,ok.noex,ok.exfs,ok.funs,ok.frf⟩
section
variable {X:Cx} {pins:List (Addr×Obj)} {σ:St} {H:Hp} {s:Shared} {E:Value→Shared→Prop}
theorem Inv.wish (I:Inv X pins σ H s) (E:Value→Shared→Prop):Inv (X.wish E) pins σ H s:=⟨I.ok.wish E,I.os,I.bare,I.base,I.loc,I.cell,I.free,I.freeC,I.pin,I.hok,I.len⟩
theorem Inv.unwish (I:Inv (X.wish E) pins σ H s):Inv X pins σ H s:=⟨I.ok.unwish,I.os,I.bare,I.base,I.loc,I.cell,I.free,I.freeC,I.pin,I.hok,I.len⟩
theorem SP.unwish {D:Ends} {f:Flow} {s':Shared} (h:SP (X.wish E) pins D f s'):SP X pins D f s':=by
  cases f with
  | next=>obtain ⟨σ',H',I,q⟩:=h; exact ⟨σ',H',I.unwish,q⟩
  | brk=>obtain ⟨σ',H',I,q⟩:=h; exact ⟨σ',H',I.unwish,q⟩
  | cont=>obtain ⟨σ',H',I,q⟩:=h; exact ⟨σ',H',I.unwish,q⟩
  | ret u=>obtain ⟨v,σ',H',I,r,q⟩:=h; exact ⟨v,σ',H',I.unwish,r,q⟩
theorem PE.nox {e:Expr} {t:TE} (h:PE X.nox e t):PE X e t:=fun pins s σ H Q I hw =>
  wpAny_mono (h pins s σ H Q (I.wish _) hw) (fun _ _ ⟨v,H',I',r,q⟩=>⟨v,H',I'.unwish,r,q⟩) fun _ _ z=>False.elim z
theorem PT.nox {e:Expr} {t:TT} (h:PT X.nox e t):PT X e t:=fun pins s σ H Q I hw =>
  wpAny_mono (h pins s σ H Q (I.wish _) hw) (fun _ _ ⟨H',I',q⟩=>⟨H',I'.unwish,q⟩) fun _ _ z=>False.elim z
theorem PSs.nox {st:List Stmt} {t:TS} (h:PSs X.nox st t):PSs X st t:=fun pins s σ H D I hw =>
  wpAny_mono (h pins s σ H D (I.wish _) hw) (fun _ _ q=>q.unwish) fun _ _ z=>False.elim z
end
section
variable {X:Cx} {st:Stmt} {rest:List Stmt} {t u:TS} {e:Expr} {te:TE} {pos:Pos}
def zbk8:TS:=fun D σ H=>D.nx σ H
def tSeq (t u:TS):TS:=fun D σ H=>t { D with nx:=u D } σ H
theorem zaY9:PSs X [] zbk8:=fun _ _ σ H _ I h=>wpAny_execs_nil ⟨σ,H,I,h⟩
theorem zaP6 (h1:PS X st t) (h2:PSs X rest u):PSs X (st :: rest) (tSeq t u):=by
  intro pins s σ H D I h
  refine wpAny_execs_cons (thn (h1 pins s σ H { D with nx:=u D } I h) fun f s1 q=>?_)
  cases f with
  | next =>
    obtain ⟨σ',H',I',q⟩:=q
    exact h2 pins s1 σ' H' D I' q
  | ret v=>exact q
  | brk=>exact q
  | cont=>exact q
theorem Inv.quiet {pins:List (Addr×Obj)} {σ:St} {H:Hp} {s:Shared} (I:Inv X pins σ H s):interactive X.env=false:=by simp [interactive,I.ok.kind]
def zbn3 (te:TE):TS:=fun D σ H=>te σ H fun _ H1=>D.nx σ H1
theorem zaU5 (he:PE X e te) (hs:swapsWith e none pos.line X.env=pure false:=by rfl):PS X (.Expr e pos) (zbn3 te):=by
  intro pins s σ H D I h
  exact wpAny_Expr_any (thn (he pins s σ H _ I h) fun v s1 ⟨x,H1,I1,r1,q1⟩=>⟨σ,H1,I1,q1⟩) I.quiet hs
def tRet (te:TE):TS:=fun D σ H=>te σ H D.rt
theorem zbj7 (he:PE X e te):PS X (.Return (some e) pos) (tRet te):=by
  intro pins s σ H D I h
  exact wpAny_Return_some (thn (he pins s σ H _ I h) fun v s1 ⟨x,H1,I1,r1,q1⟩=>⟨x,σ,H1,I1,r1,q1⟩)
def tIfS (c:TT) (t u:TS):TS:=fun D σ H=>c σ H fun b H1=>if b=true then t D σ H1 else u D σ H1
theorem zbn6 {c:Expr} {a b:List Stmt} {tc:TT} (hc:PT X c tc) (ha:PSs X a t) (hb:PSs X b u):PS X (.If c a b pos) (tIfS tc t u):=by
  intro pins s σ H D I h
  refine wpAny_If (thn (hc pins s σ H _ I h) fun d s1 ⟨H1,I1,q1⟩=>?_)
  cases d with
  | true=>exact ha pins s1 σ H1 D I1 q1
  | false=>exact hb pins s1 σ H1 D I1 q1
end
abbrev TG:=V→St→Hp→(St→Hp→Prop)→Prop
abbrev TGs:=List V→St→Hp→(St→Hp→Prop)→Prop
def PG (X:Cx) (target:Expr) (t:TG):Prop :=
  ∀ (pins:List (Addr×Obj)) (s:Shared) (σ:St) (H:Hp) (v:V) (u:Value) (Q:St→Hp→Prop),Inv X pins σ H s→RelV v u→t v σ H Q →
    wpAny (model X.prog X.w) X.A (assign target X.env u) (fun _ s'=>∃ σ' H',Inv X pins σ' H' s'∧Q σ' H') X.xe s
def PGs (X:Cx) (ts:List Expr) (t:TGs):Prop :=
  ∀ (pins:List (Addr×Obj)) (s:Shared) (σ:St) (H:Hp) (vs:List V) (us:List Value) (Q:St→Hp→Prop),Inv X pins σ H s→Vals vs us→t vs σ H Q →
    wpAny (model X.prog X.w) X.A (assignInOrder ((assignEach ts X.env).map (·.2)) us) (fun _ s'=>∃ σ' H',Inv X pins σ' H' s'∧Q σ' H') X.xe s
abbrev TSet:=V→V→V→Hp→(Hp→Prop)→Prop
def PSet (X:Cx) (t:TSet):Prop :=
  ∀ (pins:List (Addr×Obj)) (s:Shared) (σ:St) (H:Hp) (o i v:V) (ov iv u:Value) (Q:Hp→Prop),Inv X pins σ H s→RelV o ov→RelV i iv→RelV v u→t o i v H Q →
    wpAny (model X.prog X.w) X.A (setItem ov iv u) (fun _ s'=>∃ H',Inv X pins σ H' s'∧Q H') X.xe s
section
variable {X:Cx} {pos:Pos}
def zbc2 (i:Nat):TG:=fun v σ H Q=>Q (σ.set i (some v)) H
theorem zaY3 {i:Nat} {x:Str} (hN:X.N.Nodup) (hi:X.N[i]?=some x) (hx:Loc X.env.scope x) (hf:X.fn x=true∨X.env.scope.names.lookup x=some .local:=by first | exact .inl rfl | exact .inr rfl | assumption):PG X (.Name x pos) (zbc2 i):=by
  intro pins s σ H v u Q I r h
  exact wpAny_assign_Name (zV8 I hN hi hx r (fun s' I'=>⟨_,H,I',h⟩) hf)
def gNil:TGs:=fun vs σ H Q=>vs=[]∧Q σ H
def zbk4 (t:TG) (u:TGs):TGs:=fun vs σ H Q=>∃ v r,vs=v :: r∧t v σ H fun σ' H'=>u r σ' H' Q
theorem zaW6:PGs X [] gNil:=by
  intro pins s σ H vs us Q I r h
  obtain ⟨e,h⟩:=h
  subst e
  cases r
  exact assignInOrder_nil ⟨σ,H,I,h⟩
theorem zaL9 {e:Expr} {es:List Expr} {t:TG} {u:TGs} (h1:PG X e t) (h2:PGs X es u)
    (hs:(assignEach (e :: es) X.env).map (·.2)=assign e X.env :: (assignEach es X.env).map (·.2):=by rfl):PGs X (e :: es) (zbk4 t u):=by
  intro pins s σ H vs us Q I r h
  obtain ⟨v,vr,e1,h⟩:=h
  subst e1
  cases r with
  | cons r rr =>
    rw [hs]
    refine assignInOrder_cons (thn (h1 pins s σ H _ _ _ I r h) fun _ s1 ⟨σ1,H1,I1,q1⟩=>?_)
    exact h2 pins s1 σ1 H1 _ _ Q I1 rr q1
def gTup (K:PySem.W.Frag) (n:Nat) (t:TGs):TG:=fun v σ H Q=>∃ a xs,v=.ref a∧SqT K H a xs∧xs.length=n∧t xs σ H Q
theorem zbe2 {es:List Expr} {k:Nat} {t:TGs} {n:Nat} (hc:X.calm=true) (h:PGs X es t)
    (hn:(assignEach es X.env).length=n:=by rfl) (hst:(assignEach es X.env).findIdx? (·.1)=none:=by rfl):PG X (.Tuple es k pos) (gTup X.K n t):=by
  intro pins s σ H v u Q I r hw
  obtain ⟨a,xs,e1,hq,hl,hw⟩:=hw
  subst e1
  cases r
  obtain ⟨its,rv,ht,hz⟩:=I.tuple hq
  refine assign_Tuple_tuple (I.ok.hd hc) ht (by simp [hn,← hl,rv.length]) hst fun h' hx=>?_
  have I1:Inv X pins σ H { s with heap:=h' }:=I.kept (t':=s.toks) fun b o e=>hx b o (Nat.ne_of_lt (Heap.lt_size e)) e
  exact h pins _ σ H xs _ Q I1 (by simpa using rv) hw
def gSub (to ti:TE) (t:TSet):TG:=fun v σ H Q=>to σ H fun o H1=>ti σ H1 fun i H2=>t o i v H2 fun H3=>Q σ H3
theorem zbb0 {o i:Expr} {to ti:TE} {t:TSet} (ho:PE X o to) (hi:PE X i ti) (hs:PSet X t)
    (ha:∀ v,assign (.Subscript o i pos) X.env v=(do
      let ov ← holding [v] (eval o X.env)
      let iv ← holding [v,ov] (eval i X.env)
      standAt pos
      holding [v,ov,iv] (setItem ov iv v)
      release [v,ov,iv] []):=by intro _; rfl):PG X (.Subscript o i pos) (gSub to ti t):=by
  intro pins s σ H v u Q I r h
  rw [ha]
  refine wpAny_bind (wpAny_holding (thn (ho pins s σ H _ I h) fun ov s1 ⟨x,H1,I1,r1,q1⟩=>?_))
  refine wpAny_bind (wpAny_holding (thn (hi pins s1 σ H1 _ I1 q1) fun iv s2 ⟨y,H2,I2,r2,q2⟩=>?_))
  refine wpAny_bind (wpAny_standAt (wpAny_bind (wpAny_holding (thn (hs pins s2 σ H2 x y v ov iv u _ I2 r1 r2 r q2) fun _ s3 ⟨H3,I3,q3⟩=>?_))))
  exact wpAny_release ⟨σ,H3,I3,q3⟩
def tAsg (te:TE) (g:TG):TS:=fun D σ H=>te σ H fun x H1=>g x σ H1 D.nx
theorem zaS6 {tg e:Expr} {te:TE} {g:TG} (he:PE X e te) (hg:PG X tg g) (hs:swapsWithSole [tg] e pos.line X.env=pure false:=by rfl) (hw:swappedStores [tg] e X.env=pure none:=by rfl)
    (h1:(assignEach [tg] X.env).map (·.2)=[assign tg X.env]:=by rfl):PS X (.Assign [tg] e pos) (tAsg te g):=by
  intro pins s σ H D I h
  refine wpAny_Assign_stores (thn (he pins s σ H _ I h) fun v s1 ⟨x,H1,I1,r1,q1⟩=>?_) hs hw
  rw [h1]
  exact thn (hg pins s1 σ H1 x v _ I1 r1 q1) fun _ s2 q=>q
theorem zbb3 {i:Nat} {x:Str} {e:Expr} {te:TE} {pos':Pos} (hN:X.N.Nodup) (hi:X.N[i]?=some x) (hx:Loc X.env.scope x) (he:PE X e te) (hs:swapsWith e (some (.Name x pos')) pos.line X.env=pure false:=by rfl) (hf:X.fn x=true∨X.env.scope.names.lookup x=some .local:=by first | exact .inl rfl | exact .inr rfl | assumption) :
    PS X (.Assign [.Name x pos'] e pos) (tAsg te (zbc2 i)):=by
  intro pins s σ H D I h
  refine wpAny_Assign_Name (thn (he pins s σ H _ I h) fun v s1 ⟨y,H1,I1,r1,q1⟩=>?_) hs
  exact zV8 I1 hN hi hx r1 (fun s2 I2=>⟨_,H1,I2,q1⟩) hf
def tPar (i j:Nat) (ta:TA):TS:=fun D σ H=>ta σ H fun vs H1=>∃ v w,vs=[v,w]∧D.nx ((σ.set i (some v)).set j (some w)) H1
theorem zbh3 {i j:Nat} {x y:Str} {a b:Expr} {ta:TA} {px py pt:Pos} {kt k2 pt2} (hc:X.calm=true) (hN:X.N.Nodup) (hi:X.N[i]?=some x) (hj:X.N[j]?=some y) (hij:i≠j)
    (hx:X.env.scope.names.lookup x=some .local) (hy:X.env.scope.names.lookup y=some .local) (ha:PA X [a,b] ta)
    (hw:swappedStores [.Tuple [.Name x px,.Name y py] kt pt] (.Tuple [a,b] k2 pt2) X.env=pure (some [x,y]))
    (hs:swapsWithSole [.Tuple [.Name x px,.Name y py] kt pt] (.Tuple [a,b] k2 pt2) pos.line X.env=pure false:=by rfl) :
    PS X (.Assign [.Tuple [.Name x px,.Name y py] kt pt] (.Tuple [a,b] k2 pt2) pos) (tPar i j ta):=by
  intro pins s σ H D I h
  rw [exec_Assign_arm]
  refine wpAny_bind (wpAny_standAt ?_)
  rw [hs]
  refine wpAny_bind (wpAny_pure ?_)
  rw [if_neg (by decide)]
  refine wpAny_bind (Tuple_ (thn (ha _ pins s σ H _ I h) fun us s1 ⟨vs,H1,I1,r1,q1⟩=>?_))
  obtain ⟨v,w,e1,q1⟩:=q1
  subst e1
  obtain ⟨u1,u2,rfl,rv,rw'⟩:∃ u1 u2,us=[u1,u2]∧RelV v u1∧RelV w u2:=by
    cases r1 with
    | cons p q =>
      cases q with
      | cons p' q' =>
        cases q'
        exact ⟨_,_,rfl,p,p'⟩
  refine wpAny_newObj_type ?_ (by show 2≤sizeLine; decide)
  have I2:Inv X pins σ H1 { s1 with heap:=s1.heap.push { cls:=.type "tuple",data:=.seq [u1,u2].toArray } }:=I1.kept (t':=s1.toks) fun b o e=>Heap.get?_push_of_some _ e
  rw [hw]
  refine wpAny_bind (wpAny_pure ?_)
  show wpAny (model X.prog X.w) X.A (do rule "assign.swapped-stores"; let items ← unpackItems (.ref s1.heap.objs.size) 2 none; assignInOrder [fun v=>bindName X.env y v,fun v=>bindName X.env x v] items.reverse; pure Flow.next) _ _ _
  refine wpAny_bind (wpAny_rule (wpAny_bind (unpackItems_tuple (items:=#[u1,u2]) (I.ok.hd hc) (IsTup.new s1.heap _) fun h' hx'=>?_)))
  have I3:=I2.kept (h':=h') (t':=s1.toks) fun b o e=>hx' b o (Nat.ne_of_lt (Heap.lt_size e)) e
  show wpAny _ _ (assignInOrder [fun v=>bindName X.env y v,fun v=>bindName X.env x v] [u2,u1]>>=fun _=>pure Flow.next) _ _ _
  refine wpAny_bind (assignInOrder_cons (wpAny_bindName (zV8 I3 hN hj (.inl hy) rw' (fun s2 I4=>?_) (.inr hy))))
  refine assignInOrder_cons (wpAny_bindName (zV8 I4 hN hi (.inl hx) rv (fun s3 I5=>assignInOrder_nil (wpAny_pure ?_)) (.inr hx)))
  rw [List.set_comm _ _ (Ne.symm hij)] at I5
  exact ⟨_,H1,I5,q1⟩
end
section
variable {X:Cx} {pos:Pos}
def zbd0 (c:TT) (tb:TS):TS:=fun D σ H=>∃ W:Nat→St→Hp→Prop,(∃ m,W m σ H)∧∀ m σ H,W m σ H →
  c σ H fun b H1=>if b=true then ∃ N:St→Hp→Prop,(∀ σ' H',N σ' H'→∃ m',m' < m∧W m' σ' H')∧tb { D with nx:=N,ct:=N,bk:=D.nx } σ H1 else D.nx σ H1
theorem zaO4 {c:Expr} {body:List Stmt} {tc:TT} {tb:TS} (hp:PassesOwn (model X.prog X.w) X.A X.env X.xe) (hc:PT X c tc) (hb:PSs X body tb):PS X (.While c body [] pos) (zbd0 tc tb):=by
  intro pins s σ H D I h
  obtain ⟨W,⟨m0,w0⟩,turn⟩:=h
  refine wpAny_While (codeAny_whileLoop (fun n s'=>∃ σ' H',Inv X pins σ' H' s'∧W n σ' H') ?_ m0 ⟨σ,H,I,w0⟩)
  rintro n s1 ⟨σ1,H1,I1,w1⟩
  refine wpAny_passesOwn hp (thn (hc pins s1 σ1 H1 _ I1 (turn n σ1 H1 w1)) fun b s2 ⟨H2,I2,q2⟩=>?_)
  cases b with
  | true =>
    obtain ⟨N,hN,q2⟩:=q2
    rw [if_pos rfl]
    refine wpAny_passesOwn hp (thn (hb pins s2 σ1 H2 _ I2 q2) fun f s3 q3=>?_)
    cases f with
    | next =>
      obtain ⟨σ3,H3,I3,n3⟩:=q3
      obtain ⟨m',hm,w3⟩:=hN σ3 H3 n3
      exact ⟨m',hm,σ3,H3,I3,w3⟩
    | cont =>
      obtain ⟨σ3,H3,I3,n3⟩:=q3
      obtain ⟨m',hm,w3⟩:=hN σ3 H3 n3
      exact ⟨m',hm,σ3,H3,I3,w3⟩
    | brk=>exact q3
    | ret v=>exact q3
  | false =>
    rw [if_neg Bool.false_ne_true]
    exact wpAny_execs_nil ⟨σ1,H2,I2,q2⟩
end
structure It where
  go:Nat→Hp→Prop
  yld:Nat→Hp→V→Hp→Prop
  stop:Nat→Hp→Prop
def FpOk (X:Cx) (pins:List (Addr×Obj)) (H:Hp) (b:Addr):Prop :=
  H b=none∧b≠X.env.locals∧b ∉ X.fs∧(b∈X.ex∨X.s₀.heap.objs.size≤b)∧(∀ x c,X.env.cells.lookup x=some c→c≠b)∧∀ p∈X.pn++pins,p.1≠b
theorem Inv.fpOk {X:Cx} {pins:List (Addr×Obj)} {σ:St} {H H':Hp} {s:Shared} {b:Addr} (I:Inv X pins σ H s) (hb:s.heap.objs.size≤b) (hn:H' b=none):FpOk X pins H' b:=by
  refine ⟨hn,Nat.ne_of_gt (Nat.lt_of_lt_of_le I.lt hb),I.nofs hb,.inr (Nat.le_trans I.sz hb),fun x c e z=>?_,fun p hp z=>?_⟩
  · obtain ⟨v,q⟩:=I.cell x c e
    exact absurd (Nat.lt_of_lt_of_le q.lt (by rw [z]; exact hb)) (Nat.lt_irrefl _)
  · exact absurd (Nat.lt_of_lt_of_le (Heap.lt_size (I.pin p hp).1) (by rw [z]; exact hb)) (Nat.lt_irrefl _)
structure Turn (P:Program) (w:World) (K:PySem.W.Frag) (tg:Expr) (J:It) (fp:List Addr) (it:Addr) (tn:Nat→Heap→Prop):Prop where
  mem:it∈fp
  obj:∀ i h,tn i h→∀ b∈fp,∃ o,h.get? b=some o∧∀ v,o.data≠.cell v
  keep:∀ i h h',tn i h→(∀ b∈fp,∀ o,h.get? b=some o→h'.get? b=some o)→tn i h'
  item:∀ (X:Cx),X.prog=P→X.w=w→X.K=K→X.calm=true→∀ (i:Nat) (pins:List (Addr×Obj)) (s:Shared) (σ:St) (H:Hp) (E:Value→Shared→Prop),Inv X pins σ H s→(∀ b∈fp,FpOk X pins H b)→tn i s.heap→J.go i H →
    wpAny (model P w) X.A (pyNext (.ref it)) (fun r s1=>∃ u,r=some u ∧
      wpAny (model P w) X.A (letOwnedTupleGo tg (.ref it) u) (fun _ s2=>∃ x H',Inv X pins σ H' s2∧RelV x u∧J.yld i H x H'∧tn (i + 1) s2.heap∧∀ b∈fp,H' b=none) E s1) E s
  done:∀ (X:Cx),X.prog=P→X.w=w→X.K=K→X.calm=true→∀ (i:Nat) (pins:List (Addr×Obj)) (s:Shared) (σ:St) (H:Hp) (E:Value→Shared→Prop),Inv X pins σ H s→(∀ b∈fp,FpOk X pins H b)→tn i s.heap→J.stop i H →
    wpAny (model P w) X.A (pyNext (.ref it)) (fun r s1=>r=none∧Inv X pins σ H s1) E s
  self:∀ (A:Around) (i:Nat) (s:Shared) (Q:Value→Shared→Prop) (E:Value→Shared→Prop),tn i s.heap→Q (.ref it) s→wpAny (model P w) A (pyIter (.ref it)) Q E s
abbrev TI:=St→Hp→(It→Hp→Prop)→Prop
def PIE (X:Cx) (pins:List (Addr×Obj)) (σ:St) (tg:Expr) (R:It→Hp→Prop) (itv:Value) (s2:Shared):Prop :=
  ∃ (it:Addr) (fp:List Addr) (tn:Nat→Heap→Prop) (J:It) (H':Hp),itv=.ref it∧Inv X pins σ H' s2∧Turn X.prog X.w X.K tg J fp it tn∧tn 0 s2.heap∧(∀ b∈fp,FpOk X pins H' b)∧R J H'
def PI (X:Cx) (tg iter:Expr) (wi:TI):Prop :=
  ∀ (pins:List (Addr×Obj)) (s:Shared) (σ:St) (H:Hp) (R:It→Hp→Prop),Inv X pins σ H s→wi σ H R →
    wpAny (model X.prog X.w) X.A (eval iter X.env) (fun v s1=>wpAny (model X.prog X.w) X.A (pyIter v) (PIE X pins σ tg R) X.xe s1) X.xe s
theorem zaV0 {M:Model} {A:Around} {E:Value→Shared→Prop} {s:Shared} {tg:Expr} {it:Addr} {u:Value} {o:Obj} {n:String} {vs:Array Value} {Q:Unit→Shared→Prop} (ho:s.heap.get? it=some o) (hc:o.cls=.type n) (hd:o.data=.fields vs)
    (hn:["enumerate","zip","dict_itemiterator","dict_reverseitemiterator","odict_iterator","itertools.zip_longest","itertools.pairwise"].contains n=false) (hQ:Q () s):wpAny M A (letOwnedTupleGo tg (.ref it) u) Q E s:=by
  unfold letOwnedTupleGo
  cases tg <;> first
    | exact wpAny_pure hQ
    | (cases u <;> first
        | exact wpAny_pure hQ
        | (refine wpAny_bind (wpAny_load ho ?_)
           rw [hc,hd]
           show wpAny M A (if (["enumerate","zip","dict_itemiterator","dict_reverseitemiterator","odict_iterator","itertools.zip_longest","itertools.pairwise"].contains n && vs[0]? == some (rawInt _))=true then _ else _) Q E s
           rw [if_neg (by intro h; rw [hn,Bool.false_and] at h; cases h)]
           exact wpAny_pure hQ))
def Itl (K:PySem.W.Frag) (a:Addr):It :=
  ⟨fun i H=>∃ xs x,SqL K H a xs∧xs[i]?=some x,fun i H x H'=>H'=H∧∀ xs,SqL K H a xs→xs[i]?=some x,fun i H=>∃ xs,SqL K H a xs∧xs.length≤i⟩
def Itt (K:PySem.W.Frag) (a:Addr):It :=
  ⟨fun i H=>∃ xs x,SqT K H a xs∧xs[i]?=some x,fun i H x H'=>H'=H∧∀ xs,SqT K H a xs→xs[i]?=some x,fun i H=>∃ xs,SqT K H a xs∧xs.length≤i⟩
def Itr (lo:Int) (n:Nat):It:=⟨fun i _=>i < n,fun i H x H'=>H'=H∧x=.int (lo + i),fun i _=>n≤i⟩
theorem zaC0 {P:Program} {w:World} {K:PySem.W.Frag} {tg:Expr} (a it:Addr):Turn P w K tg (Itl K a) [it] it (fun i h=>h.IsListIter it a i) where
  mem:=by simp
  obj:=fun i h st b hb=>by
    have e:b=it:=by simpa using hb
    subst e
    obtain ⟨o,e,c,d⟩:=st
    exact ⟨o,e,fun v z=>by rw [d] at z; cases z⟩
  keep:=fun i h h' st k=>st.at fun o e=>k it (by simp) o e
  item:=by
    intro X hP hw hK hc i pins s σ H E I hf st hg
    subst hP hw hK
    obtain ⟨xs,x,hq,hx⟩:=hg
    obtain ⟨its,rv,p,hz⟩:=I.list hq
    obtain ⟨u,hu,ru⟩:=rv.get hx
    obtain ⟨f0,f1,f2,f3,f4,f5⟩:=hf it (by simp)
    refine wpAny_pyNext_list_item st p.isList (x:=u) (by simpa using hu) fun h' st' sb=>?_
    have I1:Inv X pins σ H { s with heap:=h' }:=I.turned (t':=s.toks) (fun b o hb e=>(sb.2 b hb).trans e) f0 f1 f3 f4 f5
    obtain ⟨o,e,c,d⟩:=id st'
    exact ⟨u,rfl,zaV0 (s:={ s with heap:=h' }) e c d (by decide) ⟨x,H,I1,ru,⟨rfl,fun ys hy=>by rw [I.list_inj hy hq]; exact hx⟩,st',fun b hb=>(hf b hb).1⟩⟩
  done:=by
    intro X hP hw hK hc i pins s σ H E I hf st hg
    subst hP hw hK
    obtain ⟨xs,hq,hx⟩:=hg
    obtain ⟨its,rv,p,hz⟩:=I.list hq
    obtain ⟨f0,f1,f2,f3,f4,f5⟩:=hf it (by simp)
    have hl:=rv.length
    exact wpAny_pyNext_list_end (I.ok.hd hc) st p.isList (by simp; omega) fun h' eb=>⟨rfl,I.turned (t':=s.toks) (fun b o hb e=>eb b o hb e) f0 f1 f3 f4 f5⟩
  self:=fun _ _ _ _ _ st h=>wpAny_pyIter_listiter st h
theorem zax4 {P:Program} {w:World} {K:PySem.W.Frag} {tg:Expr} (a it:Addr):Turn P w K tg (Itt K a) [it] it (fun i h=>h.IsTupleIter it a i) where
  mem:=by simp
  obj:=fun i h st b hb=>by
    have e:b=it:=by simpa using hb
    subst e
    obtain ⟨o,e,c,d⟩:=st
    exact ⟨o,e,fun v z=>by rw [d] at z; cases z⟩
  keep:=fun i h h' st k=>st.at fun o e=>k it (by simp) o e
  item:=by
    intro X hP hw hK hc i pins s σ H E I hf st hg
    subst hP hw hK
    obtain ⟨xs,x,hq,hx⟩:=hg
    obtain ⟨its,rv,p,hz⟩:=I.tuple hq
    obtain ⟨u,hu,ru⟩:=rv.get hx
    obtain ⟨f0,f1,f2,f3,f4,f5⟩:=hf it (by simp)
    refine wpAny_pyNext_tuple_item st (show s.heap.IsTuple a its.toArray from p) (x:=u) (by simpa using hu) fun h' st' sb=>?_
    have I1:Inv X pins σ H { s with heap:=h' }:=I.turned (t':=s.toks) (fun b o hb e=>(sb.2 b hb).trans e) f0 f1 f3 f4 f5
    obtain ⟨o,e,c,d⟩:=id st'
    exact ⟨u,rfl,zaV0 (s:={ s with heap:=h' }) e c d (by decide) ⟨x,H,I1,ru,⟨rfl,fun ys hy=>by rw [I.tuple_inj hy hq]; exact hx⟩,st',fun b hb=>(hf b hb).1⟩⟩
  done:=by
    intro X hP hw hK hc i pins s σ H E I hf st hg
    subst hP hw hK
    obtain ⟨xs,hq,hx⟩:=hg
    obtain ⟨its,rv,p,hz⟩:=I.tuple hq
    obtain ⟨f0,f1,f2,f3,f4,f5⟩:=hf it (by simp)
    have hl:=rv.length
    exact wpAny_pyNext_tuple_end (I.ok.hd hc) st (show s.heap.IsTuple a its.toArray from p) (by simp; omega) fun h' eb=>⟨rfl,I.turned (t':=s.toks) (fun b o hb e=>eb b o hb e) f0 f1 f3 f4 f5⟩
  self:=fun _ _ _ _ _ st h=>wpAny_pyIter_tupleiter st h
theorem zaz5 {P:Program} {w:World} {K:PySem.W.Frag} {tg:Expr} (it:Addr) (lo:Int) (n:Nat):Turn P w K tg (Itr lo n) [it] it (fun i h=>IsRangeIter h it (lo + (i:Nat) * 1) ((n:Int) - (i:Nat)) 1) where
  mem:=by simp
  obj:=fun i h st b hb=>by
    have e:b=it:=by simpa using hb
    subst e
    exact ⟨_,st,fun v z=>by
      have z':Data.fields _=Data.cell v:=z
      cases z'⟩
  keep:=fun i h h' st k=>k it (by simp) _ st
  item:=by
    intro X hP hw hK hc i pins s σ H E I hf st hg
    subst hP hw hK
    obtain ⟨f0,f1,f2,f3,f4,f5⟩:=hf it (by simp)
    have W:=Walks.range (prog:=X.prog) (w:=X.w) (I.ok.hd hc) it lo 1 n
    refine W.item i s _ _ hg st fun v h' tk hv st' kk=>?_
    obtain ⟨t,rfl⟩:=hv
    have I1:Inv X pins σ H { s with heap:=h',toks:=tk }:=I.turned (fun b o hb e=>kk b o (by simpa using hb) e) f0 f1 f3 f4 f5
    refine ⟨_,rfl,zaV0 (s:={ s with heap:=h',toks:=tk }) (n:="range_iterator") st' rfl rfl (by decide) ⟨.int (lo + i),H,I1,⟨t,?_⟩,⟨rfl,rfl⟩,st',fun b hb=>(hf b hb).1⟩⟩
    rw [Int.mul_one]
  done:=by
    intro X hP hw hK hc i pins s σ H E I hf st hg
    subst hP hw hK
    obtain ⟨f0,f1,f2,f3,f4,f5⟩:=hf it (by simp)
    exact wpAny_pyNext_range_end (I.ok.hd hc) st (by have:n≤i:=hg; omega) fun h' eb=>⟨rfl,I.turned (t':=s.toks) (fun b o hb e=>eb b o hb e) f0 f1 f3 f4 f5⟩
  self:=fun _ _ _ _ _ st h=>wpAny_pyIter_rangeiter st h
end L2
namespace L2
open PySem PySem.Spec PyProof.Rows
section
variable {X:Cx} {tg:Expr}
theorem zav0 {pins:List (Addr×Obj)} {σ:St} {H:Hp} {s:Shared} {R:It→Hp→Prop} {E:Value→Shared→Prop} {lo hi:Int} {t u v:Tok} {tk:Nat} (I:Inv X pins σ H s) (h1:-(2 ^ 62)≤lo) (h2:lo < 2 ^ 62) (h3:-(2 ^ 62)≤hi) (h4:hi < 2 ^ 62)
    (q:R (Itr lo (hi - lo).toNat) H):wpAny (model X.prog X.w) X.A (pyIter (.ref s.heap.objs.size)) (PIE X pins σ tg R) E { s with heap:=s.heap.push { cls:=.type "range",data:=.fields #[.int lo t,.int hi u,.int 1 v] },toks:=tk }:=by
  refine wpAny_pyIter_range (IsRange.new ..) (small_one h1 h2 h3 h4) ?_
  have I1:Inv X pins σ H { s with heap:=s.heap.push { cls:=.type "range",data:=.fields #[.int lo t,.int hi u,.int 1 v] },toks:=tk }:=I.kept fun b o e=>Heap.get?_push_of_some _ e
  refine ⟨(s.heap.push { cls:=.type "range",data:=.fields #[.int lo t,.int hi u,.int 1 v] }).objs.size,[(s.heap.push { cls:=.type "range",data:=.fields #[.int lo t,.int hi u,.int 1 v] }).objs.size],_,_,H,rfl,
    I1.kept (t':=tk) fun b o e=>Heap.get?_push_of_some _ e,zaz5 _ lo (hi - lo).toNat,?_,fun b hb=>?_,q⟩
  · have e1:lo + ((0:Nat):Int) * 1=lo:=by simp
    have e2:(((hi - lo).toNat:Nat):Int) - ((0:Nat):Int)=Builtin.Range.rangeSize lo hi 1:=by rw [rangeSize_one]; split <;> omega
    show IsRangeIter _ _ (lo + ((0:Nat):Int) * 1) ((((hi - lo).toNat:Nat):Int) - ((0:Nat):Int)) 1
    rw [e1,e2]
    exact Heap.get?_push_size _ rfl
  · have e:b=(s.heap.push { cls:=.type "range",data:=.fields #[.int lo t,.int hi u,.int 1 v] }).objs.size:=by simpa using hb
    subst e
    exact I1.fpOk (Nat.le_refl _) (I1.hok.fresh (Nat.le_refl _))
def zbk6 (ta:TA):TI:=fun σ H R=>ta σ H fun vs H1=>∃ j:Int,vs=[.int j]∧-(2 ^ 62)≤j∧j < 2 ^ 62∧R (Itr 0 j.toNat) H1
def zbl5 (ta:TA):TI:=fun σ H R=>ta σ H fun vs H1=>∃ i j:Int,vs=[.int i,.int j]∧(-(2 ^ 62)≤i∧i < 2 ^ 62∧-(2 ^ 62)≤j∧j < 2 ^ 62)∧R (Itr i (j - i).toNat) H1
theorem zaI9 {a:Expr} {ta:TA} {p pos:Pos} (hg:Gl X "range") (hm:X.mg "range"=none) (ha:PA X [a] ta) (hs:starEach [a] X.env=[(false,eval a X.env)]:=by rfl):PI X tg (.Call (.Name "range" p) [a] [] pos) (zbk6 ta):=by
  intro pins s σ H R I h
  refine Call_ (zQ8 I hg hm boot_range (PyProof.Rows.callWith_type1 (thn (ha pos pins s σ H _ I h) fun us s1 ⟨vs,H1,I1,r1,q1⟩=>?_) hs rfl))
  obtain ⟨j,e,q1,q2,q⟩:=q1
  subst e
  cases r1 with
  | cons r rr =>
    cases rr
    obtain ⟨t,rfl⟩:=r
    exact call_range_1 (zav0 I1 (by omega) (by omega) q1 q2 (by simpa using q))
theorem zaA9 {a b:Expr} {ta:TA} {p pos:Pos} (hg:Gl X "range") (hm:X.mg "range"=none) (ha:PA X [a,b] ta) (hs:starEach [a,b] X.env=[(false,eval a X.env),(false,eval b X.env)]:=by rfl) (hs2:starEach [b] X.env=[(false,eval b X.env)]:=by rfl) :
    PI X tg (.Call (.Name "range" p) [a,b] [] pos) (zbl5 ta):=by
  intro pins s σ H R I h
  refine Call_ (zQ8 I hg hm boot_range (PyProof.Rows.callWith_type1 (thn (ha pos pins s σ H _ I h) fun us s1 ⟨vs,H1,I1,r1,q1⟩=>?_) (by rw [hs,hs2]) (by rw [hs2]; rfl)))
  obtain ⟨i,j,e,⟨q1,q2,q3,q4⟩,q⟩:=q1
  subst e
  cases r1 with
  | cons r rr =>
    cases rr with
    | cons r' rr =>
      cases rr
      obtain ⟨t,rfl⟩:=r
      obtain ⟨t',rfl⟩:=r'
      exact call_range_2 (zav0 I1 q1 q2 q3 q4 q)
def tFor (wi:TI) (g:TG) (tb:TS):TS:=fun D σ H=>wi σ H fun J H1=>∃ W:Nat→Nat→St→Hp→Prop,(∃ m,W 0 m σ H1)∧∀ i m σ H,W i m σ H →
  (J.stop i H∧D.nx σ H)∨(J.go i H∧∃ N:St→Hp→Prop,(∀ σ' H',N σ' H'→∃ m',m' < m∧W (i + 1) m' σ' H')∧∀ x H',J.yld i H x H'→g x σ H' fun σ2 H2=>tb { D with nx:=N,ct:=N,bk:=D.nx } σ2 H2)
def zaa1 (fp:List Addr) (h:Heap):List (Addr×Obj):=fp.filterMap fun b=>(h.get? b).map fun o=>(b,o)
theorem zo1 {fp:List Addr} {h:Heap} {b:Addr} {o:Obj} (hb:b∈fp) (e:h.get? b=some o):(b,o)∈zaa1 fp h:=List.mem_filterMap.mpr ⟨b,hb,by rw [e]; rfl⟩
theorem zaE9 {fp:List Addr} {h:Heap} {p:Addr×Obj} (hp:p∈zaa1 fp h):p.1∈fp∧h.get? p.1=some p.2:=by
  obtain ⟨b,hb,e⟩:=List.mem_filterMap.mp hp
  cases q:h.get? b with
  | none=>rw [q] at e; cases e
  | some o =>
    rw [q] at e
    have e':(b,o)=p:=Option.some.inj e
    subst e'
    exact ⟨hb,q⟩
theorem Inv.pinned {pins:List (Addr×Obj)} {σ:St} {H:Hp} {s:Shared} {fp:List Addr} (I:Inv X pins σ H s) (hf:∀ b∈fp,FpOk X pins H b) (ho:∀ b∈fp,∃ o,s.heap.get? b=some o∧∀ v,o.data≠.cell v):Inv X (pins++zaa1 fp s.heap) σ H s :=
  I.pins_of fun p hp=>(List.mem_append.mp hp).elim (fun z=>I.pin p (List.mem_append_right _ z)) fun z=>by
    obtain ⟨hb,e⟩:=zaE9 z
    obtain ⟨f0,f1,f2,_⟩:=hf p.1 hb
    obtain ⟨o,e',d⟩:=ho p.1 hb
    rw [e] at e'; cases e'
    exact ⟨e,f0,f1,f2,d⟩
theorem Inv.unpinned {pins pl:List (Addr×Obj)} {σ:St} {H:Hp} {s:Shared} (I:Inv X (pins++pl) σ H s):Inv X pins σ H s:=I.pins_of fun p hp=>I.pin p (List.mem_append_right _ (List.mem_append_left _ hp))
theorem zbe0 {iter:Expr} {body:List Stmt} {wi:TI} {g:TG} {tb:TS} {pos:Pos} (hp:PassesOwn (model X.prog X.w) X.A X.env X.xe) (hc:X.calm=true) (hi:PI X tg iter wi) (hg:PG X tg g) (hb:PSs X body tb)
    (hs:∀ x,foldedSetIterable iter X.env x=pure x:=by intro _; rfl):PS X (.For tg iter body [] pos) (tFor wi g tb):=by
  intro pins s σ H D I h
  refine wpAny_For (thn (hi pins s σ H _ I h) fun v s1 h1=>thn h1 fun itv s2 h2=>?_) hs
  obtain ⟨it,fp,tn,J,H2,e,I2,T,st2,f2,W,⟨m0,w0⟩,turn⟩:=h2
  subst e
  -- what stays true of the iterator's objects through the loop
  have stat:∀ {H':Hp},(∀ b∈fp,H' b=none)→∀ b∈fp,FpOk X pins H' b:=fun hn b hb=>⟨hn b hb,(f2 b hb).2⟩
  refine codeAny_forLoop_any (fun n s'=>∃ i σ' H',Inv X pins σ' H' s'∧tn i s'.heap∧(∀ b∈fp,H' b=none)∧W i n σ' H') ?_ m0 ⟨0,σ,H2,I2,st2,fun b hb=>(f2 b hb).1,w0⟩
  rintro n s3 ⟨i,σ3,H3,I3,st3,fr3,w3⟩
  rcases turn i n σ3 H3 w3 with ⟨stop,qn⟩ | ⟨go,N,hN,step⟩
  · refine wpAny_passesOwn hp (thn (T.done X rfl rfl rfl hc i pins s3 σ3 H3 X.xe I3 (stat fr3) st3 stop) fun r s4 ⟨hr,I4⟩=>?_)
    subst hr
    exact wpAny_execs_nil ⟨σ3,H3,I4,qn⟩
  · refine wpAny_passesOwn hp (thn (T.item X rfl rfl rfl hc i pins s3 σ3 H3 X.xe I3 (stat fr3) st3 go) fun r s4 ⟨u,hr,h4⟩=>?_)
    subst hr
    refine wpAny_passesOwn hp (thn h4 fun _ s5 ⟨x,H5,I5,r5,y5,st5,fr5⟩=>?_)
    have I5':=I5.pinned (stat fr5) (T.obj _ _ st5)
    refine wpAny_passesOwn hp (thn (hg _ s5 σ3 H5 x u _ I5' r5 (step x H5 y5)) fun _ s6 ⟨σ6,H6,I6,q6⟩=>?_)
    refine wpAny_passesOwn hp (thn (hb _ s6 σ6 H6 _ I6 q6) fun f s7 q7=>?_)
    have again:∀ {σ7:St} {H7:Hp},Inv X (pins++zaa1 fp s5.heap) σ7 H7 s7→N σ7 H7→∃ m,m < n∧∃ i σ' H',Inv X pins σ' H' s7∧tn i s7.heap∧(∀ b∈fp,H' b=none)∧W i m σ' H':=fun {σ7 H7} I7 n7=>by
      obtain ⟨m',hm,w7⟩:=hN σ7 H7 n7
      refine ⟨m',hm,i + 1,σ7,H7,I7.unpinned,T.keep _ _ _ st5 fun b hb o e=>(I7.pin (b,o) (List.mem_append_right _ (List.mem_append_right _ (zo1 hb e)))).1,fun b hb=>?_,w7⟩
      obtain ⟨o,e,d⟩:=T.obj _ _ st5 b hb
      exact (I7.pin (b,o) (List.mem_append_right _ (List.mem_append_right _ (zo1 hb e)))).2.1
    cases f with
    | next=>obtain ⟨σ7,H7,I7,n7⟩:=q7; exact again I7 n7
    | cont=>obtain ⟨σ7,H7,I7,n7⟩:=q7; exact again I7 n7
    | brk=>obtain ⟨σ7,H7,I7,q7⟩:=q7; exact ⟨σ7,H7,I7.unpinned,q7⟩
    | ret v=>obtain ⟨x7,σ7,H7,I7,r7,q7⟩:=q7; exact ⟨x7,σ7,H7,I7.unpinned,r7,q7⟩
end
end L2
namespace L2
open PySem PySem.Spec PyProof.Rows
abbrev R2:=V→V→Hp→VK→Prop
def OpR (X:Cx) (f:Value→Value→Sem Value) (r:R2):Prop :=
  ∀ (pins:List (Addr×Obj)) (s:Shared) (σ:St) (H:Hp) (x y:V) (v u:Value) (Q:VK),Inv X pins σ H s→RelV x v→RelV y u→r x y H Q →
    wpAny (model X.prog X.w) X.A (f v u) (EP X pins σ Q) X.xe s
def UnR (X:Cx) (f:Value→Sem Value) (r:V→Hp→VK→Prop):Prop :=
  ∀ (pins:List (Addr×Obj)) (s:Shared) (σ:St) (H:Hp) (x:V) (v:Value) (Q:VK),Inv X pins σ H s→RelV x v→r x H Q →
    wpAny (model X.prog X.w) X.A (f v) (EP X pins σ Q) X.xe s
def CallR (X:Cx) (f:Value) (r:List V→Hp→VK→Prop):Prop :=
  ∀ (pins:List (Addr×Obj)) (s:Shared) (σ:St) (H:Hp) (xs:List V) (us:List Value) (Q:VK),Inv X pins σ H s→Vals xs us→r xs H Q →
    wpAny (model X.prog X.w) X.A (call f us) (EP X pins σ Q) X.xe s
def tOp (r:R2) (ta tb:TE):TE:=fun σ H Q=>ta σ H fun x H1=>tb σ H1 fun y H2=>r x y H2 Q
def tUn (r:V→Hp→VK→Prop) (ta:TE):TE:=fun σ H Q=>ta σ H fun x H1=>r x H1 Q
def rI (C:Int→Int→Prop) (g:Int→Int→V):R2:=fun x y H Q=>∃ i j,x=.int i∧y=.int j∧C i j∧Q (g i j) H
def rI0 (g:Int→Int→V):R2:=fun x y H Q=>∃ i j,x=.int i∧y=.int j∧Q (g i j) H
def rU (g:Int→V):V→Hp→VK→Prop:=fun x H Q=>∃ i,x=.int i∧Q (g i) H
section
variable {X:Cx} {a b c:Expr} {ta tb tc:TE} {pos:Pos}
theorem binT (ha:PE X a ta) (hb:PE X b tb) {pins:List (Addr×Obj)} {s:Shared} {σ:St} {H:Hp} {R:V→V→Hp→Prop} (I:Inv X pins σ H s)
    (h:ta σ H fun x H1=>tb σ H1 fun y H2=>R x y H2) {Q:Value→Shared→Prop} {f:Value→Value→Sem Value}
    (hf:∀ v u s2 x y H2,Inv X pins σ H2 s2→RelV x v→RelV y u→R x y H2→wpAny (model X.prog X.w) X.A (f v u) Q X.xe s2) :
    wpAny (model X.prog X.w) X.A (eval a X.env) (fun v s₁=>wpAny (model X.prog X.w) X.A (eval b X.env) (fun u s₂=>wpAny (model X.prog X.w) X.A (f v u) Q X.xe s₂) X.xe s₁) X.xe s:=by
  refine thn (ha pins s σ H _ I h) fun v s1 ⟨x,H1,I1,r1,q1⟩=>?_
  refine thn (hb pins s1 σ H1 _ I1 q1) fun u s2 ⟨y,H2,I2,r2,q2⟩=>?_
  exact hf v u s2 x y H2 I2 r1 r2 q2
theorem zbm6 {op:UnaryOp} {r:V→Hp→VK→Prop} (ho:UnR X (unaryOp op) r) (ha:PE X a ta):PE X (.UnaryOp op a pos) (tUn r ta):=by
  intro pins s σ H Q I h
  exact UnaryOp_ (thn (ha pins s σ H _ I h) fun v s1 ⟨x,H1,I1,r1,q1⟩=>ho pins s1 σ H1 x v Q I1 r1 q1)
theorem opI {f:Value→Value→Sem Value} {C:Int→Int→Prop} {g:Int→Int→Int}
    (rule:∀ (i j:Int) (t u:Tok) (s:Shared) (Q:Value→Shared→Prop) (E:Value→Shared→Prop),C i j→Q (.int (g i j) s.toks) { s with toks:=s.toks + 1 }→wpAny (model X.prog X.w) X.A (f (.int i t) (.int j u)) Q E s) :
    OpR X f (rI C fun i j=>.int (g i j)):=by
  intro pins s σ H x y v u Q I rx ry h
  obtain ⟨i,j,rfl,rfl,hc,q⟩:=h
  obtain ⟨t,rfl⟩:=rx
  obtain ⟨t',rfl⟩:=ry
  exact rule i j t t' s _ _ hc ⟨.int (g i j),H,I.tok _,⟨_,rfl⟩,q⟩
theorem opI0 {f:Value→Value→Sem Value} {g:Int→Int→Int}
    (rule:∀ (i j:Int) (t u:Tok) (s:Shared) (Q:Value→Shared→Prop) (E:Value→Shared→Prop),Q (.int (g i j) s.toks) { s with toks:=s.toks + 1 }→wpAny (model X.prog X.w) X.A (f (.int i t) (.int j u)) Q E s) :
    OpR X f (rI0 fun i j=>.int (g i j)):=by
  intro pins s σ H x y v u Q I rx ry h
  obtain ⟨i,j,rfl,rfl,q⟩:=h
  obtain ⟨t,rfl⟩:=rx
  obtain ⟨t',rfl⟩:=ry
  exact rule i j t t' s _ _ ⟨.int (g i j),H,I.tok _,⟨_,rfl⟩,q⟩
theorem opB0 {f:Value→Value→Sem Value} {g:Int→Int→Bool}
    (rule:∀ (i j:Int) (t u:Tok) (s:Shared) (Q:Value→Shared→Prop) (E:Value→Shared→Prop),Q (.bool (g i j)) s→wpAny (model X.prog X.w) X.A (f (.int i t) (.int j u)) Q E s) :
    OpR X f (rI0 fun i j=>.bl (g i j)):=by
  intro pins s σ H x y v u Q I rx ry h
  obtain ⟨i,j,rfl,rfl,q⟩:=h
  obtain ⟨t,rfl⟩:=rx
  obtain ⟨t',rfl⟩:=ry
  exact rule i j t t' s _ _ ⟨.bl (g i j),H,I,rfl,q⟩
def CPow (i j:Int):Prop:=0≤j∧j≤1000000∧i.natAbs < 2 ^ 64
def CMul (i j:Int):Prop:=(-(2 ^ 64) < i∧i < 2 ^ 64)∨(-(2 ^ 64) < j∧j < 2 ^ 64)
theorem CMul.ok {i j:Int} (h:CMul i j):IntMulOk i j:=by
  rcases h with ⟨h1,h2⟩ | ⟨h1,h2⟩
  · exact .of_left (intBits_le_64 h1 h2)
  · exact .of_right (intBits_le_64 h1 h2)
theorem zbh5:OpR X (binaryOp .Add) (rI0 fun i j=>.int (i + j)):=opI0 fun _ _ _ _ _ _ _ q=>add_int q
theorem zbf7:OpR X (binaryOp .Sub) (rI0 fun i j=>.int (i - j)):=opI0 fun _ _ _ _ _ _ _ q=>sub_int q
theorem zaT0:OpR X (binaryOp .Mod) (rI (fun _ j=>j≠0) fun i j=>.int (i.fmod j)):=opI fun _ _ _ _ _ _ _ hc q=>mod_int' hc q
theorem zbf0:OpR X (binaryOp .Pow) (rI CPow fun i j=>.int (i ^ j.toNat)):=opI fun _ _ _ _ _ _ _ hc q=>pow_int_small hc.1 hc.2.1 hc.2.2 q
theorem unI {f:Value→Sem Value} {g:Int→Int}
    (rule:∀ (i:Int) (t:Tok) (s:Shared) (Q:Value→Shared→Prop) (E:Value→Shared→Prop),Q (.int (g i) s.toks) { s with toks:=s.toks + 1 }→wpAny (model X.prog X.w) X.A (f (.int i t)) Q E s) :
    UnR X f (rU fun i=>.int (g i)):=by
  intro pins s σ H x v Q I rx h
  obtain ⟨i,rfl,q⟩:=h
  obtain ⟨t,rfl⟩:=rx
  exact rule i t s _ _ ⟨.int (g i),H,I.tok _,⟨_,rfl⟩,q⟩
theorem zbf8:UnR X (unaryOp .USub) (rU fun i=>.int (-i)):=unI fun _ _ _ _ _ q=>neg_int q
end
def scal:V→V→Bool
  | .non,.non=>true | .non,.int _=>true | .int _,.non=>true | .non,.bl _=>true | .bl _,.non=>true | .non,.str _=>true | .str _,.non=>true
  | .int _,.int _=>true | .bl _,.bl _=>true | .str _,.str _=>true | .byt _,.byt _=>true
  | .int _,.str _=>true | .str _,.int _=>true | .bl _,.str _=>true | .str _,.bl _=>true
  | _,_=>false
def rEq:R2:=fun x y H Q=>scal x y=true∧Q (.bl (decide (x=y))) H
def rNe:R2:=fun x y H Q=>scal x y=true∧Q (.bl (!decide (x=y))) H
theorem zaF8 {i j:Int}:decide (V.int i=V.int j)=(i == j):=by
  rw [Bool.eq_iff_iff]
  simp
theorem zaR0 {i j:Bool}:decide (V.bl i=V.bl j)=(i == j):=by
  rw [Bool.eq_iff_iff]
  simp
theorem zaJ3 {i j:Str}:decide (V.str i=V.str j)=(i == j):=by
  rw [Bool.eq_iff_iff]
  simp
theorem zaJ2 {i j:Array UInt8}:decide (V.byt i=V.byt j)=(i.toList == j.toList):=by
  rw [Bool.eq_iff_iff]
  cases i
  cases j
  simp
section
variable {X:Cx} {a b c:Expr} {ta tb tc:TE} {pos:Pos}
theorem zg9 {pins:List (Addr×Obj)} {σ:St} {H:Hp} {s:Shared} {Q:VK} {k k':Bool} (I:Inv X pins σ H s) (q:Q (.bl k) H) (e:k=k'):EP X pins σ Q (.bool k') s:=by
  subst e
  exact ⟨.bl k,H,I,rfl,q⟩
theorem zbn4:OpR X (compareOp .Eq) rEq:=by
  intro pins s σ H x y v u Q I rx ry h
  obtain ⟨hs,q⟩:=h
  cases x with
  | non =>
    cases rx
    cases y with
    | non=>cases ry; exact PySem.EqNone.eq_none_none (zg9 I q (by simp))
    | bl j=>cases ry; exact PySem.EqNone.eq_none_bool (zg9 I q (by simp))
    | int j=>obtain ⟨t',rfl⟩:=ry; exact PySem.EqNone.eq_none_int (zg9 I q (by simp))
    | str j=>obtain ⟨t',rfl⟩:=ry; exact PySem.EqNone.eq_none_str (zg9 I q (by simp))
    | _=>exact absurd (show false=true from hs) Bool.false_ne_true
  | bl i =>
    cases rx
    cases y with
    | non=>cases ry; exact PySem.EqNone.eq_bool_none (zg9 I q (by simp))
    | bl j=>cases ry; exact eq_bool (zg9 I q zaR0)
    | str j=>obtain ⟨t',rfl⟩:=ry; exact PySem.EqMixed.eq_bool_str (zg9 I q (by simp))
    | _=>exact absurd (show false=true from hs) Bool.false_ne_true
  | int i =>
    obtain ⟨t,rfl⟩:=rx
    cases y with
    | non=>cases ry; exact PySem.EqNone.eq_int_none (zg9 I q (by simp))
    | int j=>obtain ⟨t',rfl⟩:=ry; exact eq_int (zg9 I q zaF8)
    | str j=>obtain ⟨t',rfl⟩:=ry; exact PySem.EqMixed.eq_int_str (zg9 I q (by simp))
    | _=>exact absurd (show false=true from hs) Bool.false_ne_true
  | str i =>
    obtain ⟨t,rfl⟩:=rx
    cases y with
    | non=>cases ry; exact PySem.EqNone.eq_str_none (zg9 I q (by simp))
    | bl j=>cases ry; exact PySem.EqMixed.eq_str_bool (zg9 I q (by simp))
    | int j=>obtain ⟨t',rfl⟩:=ry; exact PySem.EqMixed.eq_str_int (zg9 I q (by simp))
    | str j=>obtain ⟨t',rfl⟩:=ry; exact eq_str (zg9 I q zaJ3)
    | _=>exact absurd (show false=true from hs) Bool.false_ne_true
  | byt i =>
    obtain ⟨t,rfl⟩:=rx
    cases y with
    | byt j=>obtain ⟨t',rfl⟩:=ry; exact PySem.W.eq_bytes (zg9 I q zaJ2)
    | _=>exact absurd (show false=true from hs) Bool.false_ne_true
  | _=>cases y <;> exact absurd (show false=true from hs) Bool.false_ne_true
theorem zbo4:OpR X (compareOp .NotEq) rNe:=by
  intro pins s σ H x y v u Q I rx ry h
  obtain ⟨hs,q⟩:=h
  cases x with
  | non =>
    cases rx
    cases y with
    | non=>cases ry; exact PySem.EqNone.ne_none_none (zg9 I q (by simp))
    | bl j=>cases ry; exact PySem.EqNone.ne_none_bool (zg9 I q (by simp))
    | int j=>obtain ⟨t',rfl⟩:=ry; exact PySem.EqNone.ne_none_int (zg9 I q (by simp))
    | str j=>obtain ⟨t',rfl⟩:=ry; exact PySem.EqNone.ne_none_str (zg9 I q (by simp))
    | _=>exact absurd (show false=true from hs) Bool.false_ne_true
  | bl i =>
    cases rx
    cases y with
    | non=>cases ry; exact PySem.EqNone.ne_bool_none (zg9 I q (by simp))
    | bl j=>cases ry; exact ne_bool (zg9 I q (congrArg not zaR0))
    | str j=>obtain ⟨t',rfl⟩:=ry; exact PySem.EqMixed.ne_bool_str (zg9 I q (by simp))
    | _=>exact absurd (show false=true from hs) Bool.false_ne_true
  | int i =>
    obtain ⟨t,rfl⟩:=rx
    cases y with
    | non=>cases ry; exact PySem.EqNone.ne_int_none (zg9 I q (by simp))
    | int j=>obtain ⟨t',rfl⟩:=ry; exact ne_int (zg9 I q (congrArg not zaF8))
    | str j=>obtain ⟨t',rfl⟩:=ry; exact PySem.EqMixed.ne_int_str (zg9 I q (by simp))
    | _=>exact absurd (show false=true from hs) Bool.false_ne_true
  | str i =>
    obtain ⟨t,rfl⟩:=rx
    cases y with
    | non=>cases ry; exact PySem.EqNone.ne_str_none (zg9 I q (by simp))
    | bl j=>cases ry; exact PySem.EqMixed.ne_str_bool (zg9 I q (by simp))
    | int j=>obtain ⟨t',rfl⟩:=ry; exact PySem.EqMixed.ne_str_int (zg9 I q (by simp))
    | str j=>obtain ⟨t',rfl⟩:=ry; exact ne_str (zg9 I q (congrArg not zaJ3))
    | _=>exact absurd (show false=true from hs) Bool.false_ne_true
  | byt i =>
    obtain ⟨t,rfl⟩:=rx
    cases y with
    | byt j=>obtain ⟨t',rfl⟩:=ry; exact PySem.W.ne_bytes (zg9 I q (congrArg not zaJ2))
    | _=>exact absurd (show false=true from hs) Bool.false_ne_true
  | _=>cases y <;> exact absurd (show false=true from hs) Bool.false_ne_true
theorem zbp6:OpR X (compareOp .Lt) (rI0 fun i j=>.bl (decide (i < j))):=opB0 fun _ _ _ _ _ _ _ q=>lt_int q
theorem zbm0:OpR X (compareOp .Gt) (rI0 fun i j=>.bl (decide (j < i))):=opB0 fun _ _ _ _ _ _ _ q=>gt_int q
theorem OpR.or {f:Value→Value→Sem Value} {r r':R2} (h:OpR X f r) (h':OpR X f r'):OpR X f (fun x y H Q=>r x y H Q∨r' x y H Q):=by
  intro pins s σ H x y v u Q I rx ry q
  rcases q with q | q
  · exact h pins s σ H x y v u Q I rx ry q
  · exact h' pins s σ H x y v u Q I rx ry q
theorem zat2 (b:Expr) {op:CmpOp} (h:op≠.In:=by decide) (h2:op≠.NotIn:=by decide):behindInMarks op b=false:=by
  have e1:(op == CmpOp.In)=false:=by cases op <;> first | rfl | exact absurd rfl h
  have e2:(op == CmpOp.NotIn)=false:=by cases op <;> first | rfl | exact absurd rfl h2
  cases b <;> simp [behindInMarks,e1,e2]
theorem zU2:(sizeLine:Nat) < 2 ^ 63:=by rw [sizeLine_eq]; decide
theorem zaz6:OpR X (binaryOp .Add) (fun x y H Q=>∃ i j,x=.str i∧y=.str j∧i.length + j.length≤sizeLine∧Q (.str (i++j)) H):=by
  intro pins s σ H x y v u Q I rx ry h
  obtain ⟨i,j,rfl,rfl,hz,q⟩:=h
  obtain ⟨t,rfl⟩:=rx
  obtain ⟨t',rfl⟩:=ry
  exact add_str (fun t' tk=>⟨.str (i++j),H,I.tok _,⟨_,rfl⟩,q⟩) hz
theorem zN6 {x:V} {us:List Value} (r:Vals [x] us):∃ u,us=[u]∧RelV x u:=by
  cases r with
  | cons r1 r2=>cases r2; exact ⟨_,rfl,r1⟩
theorem zaW3 {x y:V} {us:List Value} (r:Vals [x,y] us):∃ u w',us=[u,w']∧RelV x u∧RelV y w':=by
  cases r with
  | cons r1 r2 =>
    cases r2 with
    | cons r3 r4=>cases r4; exact ⟨_,_,rfl,r1,r3⟩
theorem zaM8:CallR X (.builtin "abs") (fun xs H Q=>∃ i,xs=[.int i]∧Q (.int (if i < 0 then -i else i)) H):=by
  intro pins s σ H xs us Q I r h
  obtain ⟨i,rfl,q⟩:=h
  obtain ⟨u,rfl,t,rfl⟩:=zN6 r
  exact call_abs_int fun u tk=>⟨.int (if i < 0 then -i else i),H,I.tok _,⟨_,rfl⟩,q⟩
theorem zaA3 (hc:X.calm=true):CallR X (.builtin "max") (fun xs H Q=>∃ i j,xs=[.int i,.int j]∧Q (.int (if j > i then j else i)) H):=by
  intro pins s σ H xs us Q I r h
  obtain ⟨i,j,rfl,q⟩:=h
  obtain ⟨u,w',rfl,⟨t,rfl⟩,⟨t',rfl⟩⟩:=zaW3 r
  refine max_two_ints (I.ok.hd hc) fun h' tk k=>⟨_,H,I.kept k,?_,q⟩
  by_cases hj:j > i
  · rw [if_pos hj,if_pos hj]; exact ⟨_,rfl⟩
  · rw [if_neg hj,if_neg hj]; exact ⟨_,rfl⟩
theorem zak4:CallR X (.type "int") (fun xs H Q=>(∃ i,xs=[.int i]∧Q (.int i) H)∨∃ k,xs=[.bl k]∧Q (.int (if k then 1 else 0)) H):=by
  intro pins s σ H xs us Q I r h
  rcases h with ⟨i,rfl,q⟩ | ⟨k,rfl,q⟩
  · obtain ⟨u,rfl,t,rfl⟩:=zN6 r
    exact call_int_int ⟨.int i,H,I,⟨_,rfl⟩,q⟩
  · obtain ⟨u,rfl,r1⟩:=zN6 r
    cases r1
    exact call_int_bool ⟨.int (if k then 1 else 0),H,I.tok _,⟨_,rfl⟩,q⟩
end
end L2
namespace L2
open PySem PySem.Spec PyProof.Rows
structure ObjM (h:Heap) (x dx C:Addr) (mA:Str→Option Value):Prop where
  obj:h.get? x=some (PySem.W.instObj C dx)
  ns:h.Ns1 dx mA
  ne:dx≠x
theorem zaG7 {h:Heap} {dx:Addr} {mA:Str→Option Value} (n:h.Ns1 dx mA):∃ od,h.get? dx=some od∧∀ name,PySem.W.lookIn name od=some (mA name):=by
  obtain ⟨o,es,ep,ho,hd,hk,_,hm⟩:=n
  refine ⟨o,ho,fun name=>?_⟩
  have e:=hm name
  unfold nsFind findBy at e
  rw [← Array.find?_toList] at e
  unfold PySem.W.lookIn
  rw [hd]
  dsimp only
  split
  · rename_i y q
    rw [q] at e
    exact congrArg some e
  · rename_i q
    rw [q] at e
    have a:es.toList.any (·.refKey)=false:=by
      rw [List.any_eq_false]
      intro y hy
      obtain ⟨z,t,hkey⟩:=hk y (Array.mem_toList_iff.mp hy)
      simp [DictEntry.refKey,hkey]
    have a':¬ es.toList.any (·.refKey)=true:=by rw [a]; exact Bool.false_ne_true
    rw [if_neg a']
    exact congrArg some e
theorem ObjM.look {h:Heap} {x dx C:Addr} {mA:Str→Option Value} (I:ObjM h x dx C mA):∃ od,PySem.W.InstAt h x (PySem.W.instObj C dx) C (some od)∧∀ name,PySem.W.lookIn name od=some (mA name) :=
  let ⟨od,ho,hl⟩:=zaG7 I.ns
  ⟨od,⟨I.obj,rfl,rfl,ho⟩,hl⟩
section
variable {prog:Program} {w:World} {A:Around} {E:Value→Shared→Prop} {s:Shared} {K:PySem.W.Frag} {x dx C f:Addr} {mA:Str→Option Value} {name:Str} {v:Value}
theorem zap7 {expr:Bool} {Q:Value→Shared→Prop} (X:K.In s.heap) (I:ObjM s.heap x dx C mA) (hg:PySem.W.plainGet K C name=true) (hh:PySem.W.hasDictIn K C=true)
    (ha:PySem.W.findIn K (.ref C) name=some none) (hv:mA name=some v) (hv':PySem.W.handedIn v=true) (h:Q v { s with toks:=s.toks + 1 }) :
    wpAny (model prog w) A (getAttr (.ref x) name expr) Q E s:=by
  obtain ⟨od,J,hl⟩:=I.look
  exact PySem.W.get_value X J (PySem.W.plainGet_of hg).1 (PySem.W.findObj_own hh ha rfl (by rw [hl,hv])) hv' h
end
theorem RelO.some_of {v:V} {o:Option Value} (r:RelO (some v) o):∃ u,o=some u∧RelV v u:=by
  cases o with
  | none=>exact (show False from r).elim
  | some u=>exact ⟨u,rfl,r⟩
section
variable {P:Program} {w:World} {H H':Hp} {h h':Heap} {a C dx:Addr} {fs fs':List (Str×V)}
end
structure Cls (K:PySem.W.Frag) (C:Addr):Prop where
  pg:PySem.W.plainGet K C Str.empty=true
  hd:PySem.W.hasDictIn K C=true
  po:PySem.W.plainOver K C=true
  sa:PySem.W.findIn K (.ref C) "__setattr__"=some (some (.builtin "object.__setattr__"))
theorem Cls.get {K:PySem.W.Frag} {C:Addr} (c:Cls K C) (f:Str):PySem.W.plainGet K C f=true:=c.pg
section
variable {X:Cx} {pins:List (Addr×Obj)} {σ:St} {H:Hp} {s:Shared} {a C dx:Addr} {fs:List (Str×V)} {f:Str} {v:V} {A:Around} {E:Value→Shared→Prop}
end
section
variable {X:Cx} {o e value:Expr} {f:Str} {pos pos' tpos:Pos} {ta tv:TE}
end
section
variable {X:Cx} {pins:List (Addr×Obj)} {σ:St} {H:Hp} {s:Shared} {A:Around} {E:Value→Shared→Prop} {Q:Value→Shared→Prop} {c:Value} {b:Bool}
end
end L2
namespace L2
open PySem PySem.Spec PyProof.Rows
structure Room (k:Nat) (A:Around):Prop where
  hd:A.handled=none
  gd:A.guards=some []
  dp:A.depth + 3 * k + 5 < recursionLimit
  un:A.units + 16 * k + 200 < cLine
theorem Room.mono {j k:Nat} {A:Around} (r:Room k A) (h:j≤k):Room j A:=⟨r.hd,r.gd,by have:=r.dp; omega,by have:=r.un; omega⟩
theorem Room.deeper {k:Nat} {A:Around} (r:Room (k + 1) A) (env:Env):Room k (A.deeper env) :=
  ⟨r.hd,r.gd,by have:=r.dp; show A.depth + 1 + 3 * k + 5 < _; omega,by have:=r.un; show A.units + 3 + 16 * k + 200 < _; omega⟩
theorem Room.in1 {k:Nat} {A:Around} (r:Room (k + 1) A):Room k A.in1 :=
  ⟨r.hd,r.gd,by have:=r.dp; show A.depth + 3 * k + 5 < _; omega,by have:=r.un; show A.units + 1 + 16 * k + 200 < _; omega⟩
theorem Room.depth {k:Nat} {A:Around} (r:Room k A):A.depth < recursionLimit:=by have:=r.dp; omega
theorem Room.units {k:Nat} {A:Around} (r:Room k A):A.units + 64 < cLine:=by have:=r.un; omega
def tNil:TA:=fun _ H Q=>Q [] H
def zbl7 (ta:TE) (tr:TA):TA:=fun σ H Q=>ta σ H fun x H1=>tr σ H1 fun xs H2=>Q (x :: xs) H2
section
variable {X:Cx} {e:Expr} {es:List Expr} {te:TE} {t:TA} {pos:Pos}
theorem zab0:PA X [] tNil:=fun _ _ _ _ H Q I h=>Calls.spliced_nil ⟨[],H,I,.nil,h⟩
theorem zD4 (ha:PE X e te) (hr:PA X es t) (hs:starEach (e :: es) X.env=(false,eval e X.env) :: starEach es X.env:=by rfl):PA X (e :: es) (zbl7 te t):=by
  intro pos pins s σ H Q I h
  rw [hs]
  show wpAny _ _ (spliced ((false,eval e X.env) :: backTo pos (starEach es X.env))) _ _ s
  refine Calls.spliced_cons (thn (ha pins s σ H _ I h) fun u s1 ⟨x,H1,I1,r1,q1⟩=>?_)
  exact thn (hr pos pins s1 σ H1 _ I1 q1) fun us s2 ⟨xs,H2,I2,r2,q2⟩=>⟨x :: xs,H2,I2,.cons r1 r2,q2⟩
def tTup (t:TA):TE:=fun σ H Q=>t σ H fun xs H1=>xs.length≤sizeLine∧∀ p,H1 p=none→Q (.ref p) (upd H1 p (.tup xs))
theorem zbj1 {x1} (h:PA X es t):PE X (.Tuple es x1 pos) (tTup t):=by
  intro pins s σ H Q I hq
  refine wpAny_Tuple_spliced (thn (h pos pins s σ H _ I hq) fun us s1 ⟨xs,H1,I1,r,z,q⟩=>⟨by rw [← r.length]; exact z,?_⟩)
  have hf:H1 s1.heap.objs.size=none:=I1.hok.fresh (Nat.le_refl _)
  refine ⟨.ref s1.heap.objs.size,upd H1 s1.heap.objs.size (.tup xs),I1.laid (t':=s1.toks) (fun b u e=>Heap.get?_push_of_some _ e) (Nat.le_refl _) ?_,rfl,q _ hf⟩
  exact ⟨⟨z,NoD.new _ _ _⟩,us,r,⟨_,Heap.get?_push_size _ rfl,rfl,_,rfl⟩⟩
end
abbrev Sp:=List V→Hp→VK→XK→Prop
abbrev CXT:=List Env→Hp→Shared→XK→Value→Shared→Prop
structure Env0 (P:Program) (w:World) (K:PySem.W.Frag) (mg:Str→Option Value) (base:Heap) (A:Around) (outer:List Env) (s:Shared) (H:Hp):Prop where
  frames:A.frames=some outer
  mod:Mod K mg base
  bs:∀ b o,base.get? b=some o→s.heap.get? b=some o∧H b=none
  bsz:base.objs.size≤s.heap.objs.size
  funs:s.heap.FunFrames base outer
  frf:∀ b∈frs outer,H b=none
  hok:HOk P w H s.heap
  bare:AllBare s.gens
def CE (outer:List Env) (P:Program) (w:World) (H:Hp) (s:Shared) (Q:VK) (u:Value) (s':Shared):Prop :=
  ∃ v H',s'.os=s.os∧AllBare s'.gens∧Un (frs outer) [] H H' s.heap s'.heap∧HOk P w H' s'.heap∧RelV v u∧Q v H'
def CR (CX:CXT) (outer:List Env) (P:Program) (w:World) (H:Hp) (s:Shared) (Q:VK) (E:XK) (r:Result) (s':Shared):Prop :=
  match r with
  | .ok (.ret u)=>CE outer P w H s Q u s'
  | .ok _=>False
  | .error e=>CX outer H s E e s'
structure FnOk (P:Program) (w:World) (K:PySem.W.Frag) (mg:Str→Option Value) (base:Heap) (CX:CXT) (k:Nat) (f:Addr) (fd:FuncData) (ps:List Str) (sp:Sp):Prop where
  len:∀ vs H Q E,sp vs H Q E→vs.length=ps.length
  run:∀ (A:Around) (outer:List Env) (s:Shared) (H:Hp) (args:Args) (us:List Value) (vs:List V) (Q:VK) (E:XK),Room k A→Env0 P w K mg base A outer s H→BindsTo s fd args (ps.zip us)→Vals vs us→sp vs H Q E →
    codeAny (model P w) A (.call (.ref f) args) (CR CX outer P w H s Q E) s
theorem FnOk.mono {P:Program} {w:World} {K:PySem.W.Frag} {mg:Str→Option Value} {base:Heap} {CX:CXT} {j k:Nat} {f:Addr} {fd:FuncData} {ps:List Str} {sp:Sp} (F:FnOk P w K mg base CX j f fd ps sp) (h:j≤k) :
    FnOk P w K mg base CX k f fd ps sp:=⟨F.len,fun A outer s H args us vs Q E hr=>F.run A outer s H args us vs Q E (hr.mono h)⟩
theorem FnOk.imp {P:Program} {w:World} {K:PySem.W.Frag} {mg:Str→Option Value} {base:Heap} {CX:CXT} {k:Nat} {f:Addr} {fd:FuncData} {ps:List Str} {sp sp':Sp} (F:FnOk P w K mg base CX k f fd ps sp)
    (h:∀ vs H Q E,sp' vs H Q E→sp vs H Q E):FnOk P w K mg base CX k f fd ps sp' :=
  ⟨fun vs H Q E q=>F.len vs H Q E (h _ _ _ _ q),fun A outer s H args us vs Q E hr he hb hv hs=>F.run A outer s H args us vs Q E hr he hb hv (h _ _ _ _ hs)⟩
theorem Env0.in1 {P:Program} {w:World} {K:PySem.W.Frag} {mg:Str→Option Value} {base:Heap} {A:Around} {outer:List Env} {s:Shared} {H:Hp} (e:Env0 P w K mg base A outer s H) :
    Env0 P w K mg base A.in1 outer s H:=⟨e.frames,e.mod,e.bs,e.bsz,e.funs,e.frf,e.hok,e.bare⟩
section
variable {X:Cx} {pins:List (Addr×Obj)} {σ:St} {H:Hp} {s s':Shared}
theorem Inv.env0 (I:Inv X pins σ H s):Env0 X.prog X.w X.K X.mg X.base X.A X.stack s H :=
  ⟨I.ok.frames,I.ok.mod,I.bs,Nat.le_trans I.ok.bsz I.sz,I.stack,I.stkFree,I.hok,I.bare⟩
theorem Inv.after {Q:VK} {u:Value} (I:Inv X pins σ H s) (h:CE X.stack X.prog X.w H s Q u s'):EP X pins σ Q u s':=by
  obtain ⟨v,H',os,bare,un,hok,r,q⟩:=h
  obtain ⟨hh,g,d,t,os'⟩:=s'
  obtain rfl:os'=s.os:=os
  exact ⟨v,H',I.call (h':=hh) (g':=g) (d':=d) (t':=t) (ch:=[]) un hok bare (fun b z=>absurd z (by simp)),r,q⟩
end
def zbn0 (sp:Sp) (dvs:List V) (E:XK) (t:TA):TE:=fun σ H Q=>t σ H fun vs H1=>sp (vs++dvs) H1 Q E
def Binds (K:PySem.W.Frag) (fd:FuncData) (ps:List Str) (ds:List Value):Prop :=
  ∀ (s:Shared) (us:List Value),K.In s.heap→(us++ds).length=ps.length→BindsTo s fd ⟨us,[]⟩ (ps.zip (us++ds))
theorem Binds.all {K:PySem.W.Frag} {fd:FuncData} {ps:List Str} (h:∀ us:List Value,us.length=ps.length→bindArgs fd ⟨us,[]⟩=pure (ps.zip us)):Binds K fd ps []:=fun s us _ hl=>by
  rw [List.append_nil] at hl ⊢
  exact .of_eq (h us hl)
def zaB9 (CX:CXT) (X:Cx) (E:XK):Prop:=∀ (pins:List (Addr×Obj)) (σ:St) (H:Hp) (s:Shared) (e:Value) (s':Shared),Inv X pins σ H s→CX X.stack H s E e s'→X.xe e s'
section
variable {X:Cx} {CX:CXT} {k:Nat} {f C:Addr} {fd:FuncData} {ps:List Str} {sp:Sp} {dvs:List V} {ds:List Value} {E:XK} {x m:Str} {p pos apos:Pos} {e o:Expr} {es:List Expr} {ta:TE} {t:TA}
theorem zbh8 {pins:List (Addr×Obj)} {σ:St} {H:Hp} {s:Shared} {Q:VK} {us:List Value} {vs:List V} (F:FnOk X.prog X.w X.K X.mg X.base CX k f fd ps sp) (hr:Room k X.A) (hb:Binds X.K fd ps ds) (hd:Vals dvs ds) (hx:zaB9 CX X E)
    (I:Inv X pins σ H s) (r:Vals vs us) (h:sp (vs++dvs) H Q E):wpAny (model X.prog X.w) X.A (call (.ref f) us) (EP X pins σ Q) X.xe s:=by
  have r2:Vals (vs++dvs) (us++ds):=r.append hd
  have hl:(us++ds).length=ps.length:=by rw [← r2.length]; exact F.len _ _ _ _ h
  refine wpAny_call (codeAny_mono (F.run X.A X.stack s H ⟨us,[]⟩ (us++ds) (vs++dvs) Q E hr I.env0 (hb s us I.kIn hl) r2 h) fun r s' hq=>?_)
  cases r with
  | error e=>exact hx pins σ H s e s' I hq
  | ok fl =>
    cases fl with
    | ret u=>exact I.after hq
    | next=>exact False.elim hq
    | brk=>exact False.elim hq
    | cont=>exact False.elim hq
theorem zaU3 (F:FnOk X.prog X.w X.K X.mg X.base CX k f fd ps sp) (hr:Room k X.A) (hg:Gl X x) (hm:X.mg x=some (.ref f)) (hk:PySem.W.keepIn X.K (.ref f)=true) (hb:Binds X.K fd ps ds) (hd:Vals dvs ds) (hx:zaB9 CX X E)
    (ha:PA X (e :: es) t) (hdb:(x == ("__debug__" : Str))=false:=by decide) (he:starEach (e :: es) X.env=(false,eval e X.env) :: starEach es X.env:=by rfl) (hpl:(backTo pos (starEach es X.env)).any (·.1)=false:=by rfl) :
    PE X (.Call (.Name x p) (e :: es) [] pos) (zbn0 sp dvs E t):=by
  intro pins s σ H Q I h
  refine wpAny_Call_Name_kw (zaI7 I hg hm ?_ hdb)
  refine PySem.W.callWith_K (h₀:=X.base) I.ok.mod.kin hk (thn (ha pos pins s σ H _ I h) fun us s1 ⟨vs,H1,I1,r,q⟩=>⟨I1.kIn,?_⟩) he hpl
  exact zbh8 F hr hb hd hx I1 r q
end
section
variable {X:Cx} {CX:CXT} {k:Nat} {f C:Addr} {fd:FuncData} {ps ks:List Str} {sp:Sp} {E:XK} {x m:Str} {p pos apos kpos:Pos} {e o:Expr} {es:List Expr} {kws:List Keyword} {te ta:TE} {t tk:TA} {nm:Option Str}
variable {g:List Value→List Value→List Value} {gV:List V→List V→List V}
end
structure FnScope (N P:List Str) (sc:Scope):Prop where
  kind:sc.kind=.function
  co:sc.isCoroutine=false
  gen:sc.isGenerator=false
  nd:N.Nodup
  pre:N.take P.length=P
  par:∀ x∈P,sc.names.lookup x=some .local∨sc.names.lookup x=some .cell
  nofree:∀ y∈sc.names,y.2≠.free
theorem zam9 {kindOf:Str→Option NameKind} {x:Str}:∀ {binds:List (Str×Value)} {m:Str→Option Value},(∀ v,(x,v) ∉ binds)→bindL kindOf binds m x=m x
  | [],_,_=>rfl
  | (n,v) :: r,m,h=>by
    unfold bindL
    rw [zam9 fun w hw=>h w (List.mem_cons_of_mem _ hw)]
    split
    · have:x≠n:=by rintro rfl; exact h v List.mem_cons_self
      simp [this]
    · rfl
theorem zal8 {kindOf:Str→Option NameKind} {x:Str}:∀ {binds:List (Str×Value)} {m:Str→Option Value},(∀ v,(x,v) ∉ binds)→bindC kindOf binds m x=m x
  | [],_,_=>rfl
  | (n,v) :: r,m,h=>by
    unfold bindC
    rw [zal8 fun w hw=>h w (List.mem_cons_of_mem _ hw)]
    split
    · rfl
    · have:x≠n:=by rintro rfl; exact h v List.mem_cons_self
      simp [this]
theorem zal7 {kindOf:Str→Option NameKind} {x:Str} {v:Value}:∀ {P:List Str} {vs:List Value} {i:Nat} {m:Str→Option Value},P.Nodup→P[i]?=some x→vs[i]?=some v→kindOf x=some .local →
    bindL kindOf (P.zip vs) m x=some v
  | [],_,_,_,_,h,_,_=>by simp at h
  | _ :: _,[],_,_,_,_,h,_=>by simp at h
  | p :: P,w :: vs,0,m,nd,h1,h2,hk=>by
    simp at h1 h2; subst h1; subst h2
    show bindL kindOf ((p,w) :: P.zip vs) m p=_
    unfold bindL
    rw [zam9 fun v hv=>(List.nodup_cons.mp nd).1 (List.of_mem_zip hv).1,if_pos hk]
    simp
  | p :: P,w :: vs,i + 1,m,nd,h1,h2,hk=>by
    show bindL kindOf ((p,w) :: P.zip vs) m x=_
    unfold bindL
    exact zal7 (i:=i) (List.nodup_cons.mp nd).2 (by simpa using h1) (by simpa using h2) hk
theorem zam5 {kindOf:Str→Option NameKind} {x:Str} {v:Value}:∀ {P:List Str} {vs:List Value} {i:Nat} {m:Str→Option Value},P.Nodup→P[i]?=some x→vs[i]?=some v→kindOf x≠some .local →
    bindC kindOf (P.zip vs) m x=some v
  | [],_,_,_,_,h,_,_=>by simp at h
  | _ :: _,[],_,_,_,_,h,_=>by simp at h
  | p :: P,w :: vs,0,m,nd,h1,h2,hk=>by
    simp at h1 h2; subst h1; subst h2
    show bindC kindOf ((p,w) :: P.zip vs) m p=_
    unfold bindC
    rw [zal8 fun v hv=>(List.nodup_cons.mp nd).1 (List.of_mem_zip hv).1,if_neg hk]
    simp
  | p :: P,w :: vs,i + 1,m,nd,h1,h2,hk=>by
    show bindC kindOf ((p,w) :: P.zip vs) m x=_
    unfold bindC
    exact zam5 (i:=i) (List.nodup_cons.mp nd).2 (by simpa using h1) (by simpa using h2) hk
def start (N:List Str) (vs:List V):St:=vs.map some++List.replicate (N.length - vs.length) none
def cxOf (CX:CXT) (P:Program) (w:World) (K:PySem.W.Frag) (mg:Str→Option Value) (base:Heap) (N:List Str) (qual:Str) (scope:Scope) (f:Addr) (cd:Value) (A:Around) (outer:List Env) (s:Shared) (H:Hp) (E:XK):Cx where
  prog:=P
  w:=w
  K:=K
  mg:=mg
  base:=base
  A:=A.deeper (envOfC qual scope s.heap.objs.size f cd)
  N:=N
  s₀:=s
  H₀:=H
  env:=envOfC qual scope s.heap.objs.size f cd
  outer:=outer
  stack:=envOfC qual scope s.heap.objs.size f cd :: outer
  ex:=[]
  calm:=true
  fn:=fun _=>true
  pn:=[]
  xe:=fun e s'=>wpAny (model P w) (A.deeper (envOfC qual scope s.heap.objs.size f cd)) («leaving» (envOfC qual scope s.heap.objs.size f cd) e) (fun _ s''=>CX outer H s E e s'') (fun e' s''=>CX outer H s E e' s'') s'
theorem zaw7 {sc:Scope} {n:Nat} {x:Str} (h:sc.names.lookup x=some .cell):∃ c,(cellsFrom n sc.names []).lookup x=some c:=by
  have q:=PySem.W.cellsFrom_some sc.names n [] (.inl h)
  exact Option.isSome_iff_exists.mp q
theorem zaD0 {CX:CXT} {P:Program} {w:World} {K:PySem.W.Frag} {mg:Str→Option Value} {base:Heap} {N ps:List Str} {qual:Str} {scope:Scope} {f:Addr} {cd:Value} {A:Around} {outer:List Env} {s s1:Shared} {H:Hp} {E:XK} {us:List Value} {vs:List V}
    (S:FnScope N ps scope) (hd:A.handled=none) (e0:Env0 P w K mg base A outer s H) (hl:vs.length=ps.length) (r:Vals vs us)
    (x:InCallC s s.heap.objs.size (bindL (envOfC qual scope s.heap.objs.size f cd).kindOf (ps.zip us) fun _=>none) (cellsFrom (s.heap.objs.size + 1) scope.names []) (bindC (envOfC qual scope s.heap.objs.size f cd).kindOf (ps.zip us) fun _=>none) s1) :
    Inv (cxOf CX P w K mg base N qual scope f cd A outer s H E) [] (start N vs) H s1:=by
  have hpl:ps.length≤N.length:=by have:=congrArg List.length S.pre; rw [List.length_take] at this; omega
  obtain ⟨h1,tk,rfl,hk⟩:=x.done
  have noA:∀ b:Addr,b ∉ (cxOf CX P w K mg base N qual scope f cd A outer s H E).ex:=fun b z=>absurd (show b∈([]:List Addr) from z) (by simp)
  refine ⟨⟨e0.mod,S.kind,rfl,rfl,Nat.le_refl _,fun y z c h1 h2=>?_,fun y hy=>?_,fun y c _ h=>?_,fun _=>hd,Around.frames_deeper e0.frames,.inr ⟨rfl,rfl⟩,fun b z=>absurd z (noA b),e0.bs,e0.bsz,fun b _ _=>noA b,fun b z=>absurd z (noA b),e0.funs,e0.frf⟩,
    rfl,e0.bare,Un.kept hk,⟨_,x.toInCall.ns,fun i y v h1 h2 h3=>?_⟩,fun y c h=>⟨_,x.cell y c h⟩,e0.hok.fresh (Nat.le_refl _),fun y c h=>?_,fun p hp=>absurd (show p∈([]:List (Addr×Obj)) from hp) (by simp),e0.hok.kept hk,?_⟩
  · exact name_of_addr x.apart (PySem.mem_of_lookup h1) (PySem.mem_of_lookup h2)
  · have hy:scope.names.lookup y=some .cell∨scope.names.lookup y=some .free:=hy
    rcases hy with hy | hy
    · exact zaw7 hy
    · exact absurd rfl (S.nofree _ (PySem.mem_of_lookup hy))
  · exact Nat.le_of_lt (x.above y c (PySem.mem_of_lookup h))
  · have hi:i < vs.length:=by
      unfold start at h2
      by_cases hi:i < vs.length
      · exact hi
      · rw [List.getElem?_append_right (by simpa using hi)] at h2
        rw [List.getElem?_replicate] at h2
        split at h2 <;> cases h2
    have ha:vs[i]?=some v:=by
      unfold start at h2
      rw [List.getElem?_append_left (by simpa using hi),List.getElem?_map] at h2
      cases e:vs[i]? with
      | none=>rw [e] at h2; cases h2
      | some a=>rw [e] at h2; cases h2; rfl
    obtain ⟨u,hu,rv⟩:=r.get ha
    have hp:ps[i]?=some y:=by
      rw [← S.pre,List.getElem?_take_of_lt (by omega)]; exact h1
    have ndP:ps.Nodup:=by rw [← S.pre]; exact S.nd.sublist (List.take_sublist _ _)
    refine ⟨u,rv,?_⟩
    rcases S.par y (List.mem_of_getElem? hp) with k | k
    · exact .inl ⟨k,zal7 ndP hp hu k⟩
    · obtain ⟨c,e⟩:=zaw7 (n:=s.heap.objs.size + 1) k
      refine .inr ⟨.inl k,c,e,?_⟩
      have q:=x.cell y c e
      rw [zam5 ndP hp hu (by show scope.names.lookup y≠_; rw [k]; decide)] at q
      exact q
  · exact e0.hok.fresh (Nat.le_of_lt (x.above y c (PySem.mem_of_lookup h)))
  · unfold start
    show _=N.length
    rw [List.length_append,List.length_map,List.length_replicate]
    omega
theorem zbm9 {CX:CXT} {P:Program} {w:World} {K:PySem.W.Frag} {mg:Str→Option Value} {base:Heap} {k:Nat} {f:Addr} {name qual:Str} {params:Arguments} {body:List Stmt} {scope:Scope} {dV kV doc pm cdv ct oc:Value} {an od:Option Addr}
    {osl:Array (Option Value)} {N ps:List Str} {sp:Sp} (lk:K.lookup f=some ⟨oc,od,.func (PySem.W.fnOf name qual params body scope dV kV doc pm an cdv ct),osl⟩) (hcd:PySem.W.codeIn K cdv qual=true) (S:FnScope N ps scope)
    (len:∀ vs H Q E,sp vs H Q E→vs.length=ps.length)
    (hbody:∀ (A:Around) (outer:List Env) (s:Shared) (H:Hp) (vs:List V) (Q:VK) (E:XK),Room k (A.deeper (envOfC qual scope s.heap.objs.size f cdv))→sp vs H Q E →
      ∃ t,PSs (cxOf CX P w K mg base N qual scope f cdv A outer s H E) body t∧t { nx:=fun _ H'=>Q .non H',rt:=Q } (start N vs) H) :
    FnOk P w K mg base CX (k + 1) f (PySem.W.fnOf name qual params body scope dV kV doc pm an cdv ct) ps sp:=by
  refine ⟨len,fun A outer s H args us vs Q E hr e0 hb r hsp=>?_⟩
  have hl:=len _ _ _ _ hsp
  have KX:K.In s.heap:=e0.mod.kin.keeps fun b o e=>(e0.bs b o e).1
  have lim:s.heap.NoLimit:=e0.mod.nolimit.keeps fun b o e=>(e0.bs b o e).1
  have hkind:∀ y∈ps.zip us,scope.names.lookup y.1=some .local∨(scope.names.lookup y.1=some .cell∧((cellsFrom (s.heap.objs.size + 1) scope.names []).lookup y.1).isSome=true):=fun ⟨n,v⟩ hy=>by
    rcases S.par n (List.of_mem_zip hy).1 with q | q
    · exact .inl q
    · exact .inr ⟨q,PySem.W.cellsFrom_some _ _ _ (.inl q)⟩
  refine codeAny_call_function hr.depth (KX _ _ lk) rfl S.co S.gen rfl (PySem.W.codeRec_of KX hcd) (hb _ _ _ _ ?_)
  refine wpAny_newFunctionEnv_cells S.kind hkind fun env he s1 x=>?_
  subst he
  refine ⟨lim.keeps x.toInCall.keep,codeAny_func ?_⟩
  obtain ⟨t,ht,hq⟩:=hbody A outer s H vs Q E (hr.deeper _) hsp
  have I:Inv (cxOf CX P w K mg base N qual scope f cdv A outer s H E) [] (start N vs) H s1:=zaD0 S hr.hd e0 hl r x
  refine wpAny_mono (ht [] s1 (start N vs) H _ I hq) (fun fl s' hs=>?_) fun e s' hs=>hs
  have fin:∀ {σ':St} {H':Hp} {v:V} {u:Value},Inv (cxOf CX P w K mg base N qual scope f cdv A outer s H E) [] σ' H' s'→RelV v u→Q v H'→CE outer P w H s Q u s' :=
    fun {σ' H' v u} J rv q=>⟨v,H',J.os,J.bare,J.base,J.hok,rv,q⟩
  cases fl with
  | ret u =>
    obtain ⟨v,σ',H',J,rv,q⟩:=hs
    exact fin J rv q
  | next =>
    obtain ⟨σ',H',J,q⟩:=hs
    exact fin (v:=V.non) (u:=Value.none) J rfl q
  | brk =>
    obtain ⟨_,_,_,q⟩:=hs
    exact False.elim q
  | cont =>
    obtain ⟨_,_,_,q⟩:=hs
    exact False.elim q
end L2
namespace L2
open PySem PySem.Spec PyProof.Rows
section
variable {X:Cx} {x:Str} {p pos:Pos} {e:Expr} {es:List Expr} {t:TA} {id T:String} {r:List V→Hp→VK→Prop}
def tCB (r:List V→Hp→VK→Prop) (t:TA):TE:=fun σ H Q=>t σ H fun vs H1=>r vs H1 Q
theorem zaw8 (hc:CallR X (.builtin id) r) (hg:Gl X x) (hm:X.mg x=none) (hv:bootBuiltins x=some (.builtin id)) (ha:PA X (e :: es) t) (hn:x≠"__name__":=by decide) (hdb:(x == ("__debug__" : Str))=false:=by decide)
    (he:starEach (e :: es) X.env=(false,eval e X.env) :: starEach es X.env:=by rfl) (hpl:(backTo pos (starEach es X.env)).any (·.1)=false:=by rfl):PE X (.Call (.Name x p) (e :: es) [] pos) (tCB r t):=by
  intro pins s σ H Q I h
  refine wpAny_Call_Name_kw (zQ8 I hg hm hv ?_ hn hdb)
  exact PyProof.Rows.callWith_builtin1 (thn (ha pos pins s σ H _ I h) fun us s1 ⟨vs,H1,I1,r1,q1⟩=>hc pins s1 σ H1 vs us Q I1 r1 q1) he hpl
theorem zaF5 (hc:CallR X (.type T) r) (hg:Gl X x) (hm:X.mg x=none) (hv:bootBuiltins x=some (.type T)) (ha:PA X (e :: es) t) (hn:x≠"__name__":=by decide) (hdb:(x == ("__debug__" : Str))=false:=by decide)
    (he:starEach (e :: es) X.env=(false,eval e X.env) :: starEach es X.env:=by rfl) (hpl:(backTo pos (starEach es X.env)).any (·.1)=false:=by rfl):PE X (.Call (.Name x p) (e :: es) [] pos) (tCB r t):=by
  intro pins s σ H Q I h
  refine wpAny_Call_Name_kw (zQ8 I hg hm hv ?_ hn hdb)
  exact PyProof.Rows.callWith_type1 (thn (ha pos pins s σ H _ I h) fun us s1 ⟨vs,H1,I1,r1,q1⟩=>hc pins s1 σ H1 vs us Q I1 r1 q1) he hpl
end
end L2
namespace HT
open PySem PyProof.Rows
section
open PySem.SeqAt
open PySem.AutoSeq1 (wpAny_loadPart')
open PySem.MeetsSeq PySem.MeetsSeq2 PySem.MeetsSeq3
end
section
variable {prog:Program} {w:World} {A:Around} {E:Value→Shared→Prop} {s:Shared}
theorem cat_tup {t b:Addr} {vs ws:List Value} {Q:Value→Shared→Prop} (ht:IsTup s.heap t vs.toArray) (hb:IsTup s.heap b ws.toArray) (hv:vs≠[])
    (h1:ws=[]→Q (.ref t) s) (h2:ws≠[]→Q (.ref s.heap.objs.size) { s with heap:=s.heap.push { cls:=.type "tuple",data:=.seq (vs++ws).toArray } })
    (hsz:vs.length + ws.length≤sizeLine):wpAny (model prog w) A (binaryOp .Add (.ref t) (.ref b)) Q E s:=by
  obtain ⟨⟨cls,dd,data,sl⟩,ho,hc,n,hd⟩:=id ht
  obtain ⟨⟨cls2,dd2,data2,sl2⟩,ho2,hc2,n2,hd2⟩:=id hb
  simp only at hc hd hc2 hd2
  subst hc hd hc2 hd2
  have e:vs.toArray++ws.toArray=(vs++ws).toArray:=by simp
  by_cases hw:ws=[]
  · exact concat_meets ⟨_,ho,rfl⟩ ⟨_,ho2,rfl⟩ noFill_tuple_add seq_tuple_add PySem.F.slot_tuple_add PySem.F.entry_tuple_add (PySem.F.args_tuple_add_2 _ _)
      (tuple_addW1 t b vs.toArray ws.toArray n n2 dd dd2 sl sl2 (by simpa using hv) (by simp [hw])) ⟨ho,ho2,h1 hw⟩
  · refine concat_meets ⟨_,ho,rfl⟩ ⟨_,ho2,rfl⟩ noFill_tuple_add seq_tuple_add PySem.F.slot_tuple_add PySem.F.entry_tuple_add (PySem.F.args_tuple_add_2 _ _)
      (tuple_addW2 t b vs.toArray ws.toArray n n2 dd dd2 sl sl2 (by simpa using hv) (by simpa using hw) (by rw [List.size_toArray,List.size_toArray]; exact hsz)) ⟨ho,ho2,?_⟩
    rw [e]
    exact h2 hw
def sIx (n d:Nat):Option Int→Nat
  | none=>d
  | some v=>if v < 0 then (v + (n:Int)).toNat else min v.toNat n
theorem zba8 (n d:Nat) (hd:d≤n) (o:Option Int):sIx n d o≤n:=by
  cases o with
  | none=>exact hd
  | some v =>
    show (if v < 0 then (v + (n:Int)).toNat else min v.toNat n)≤n
    by_cases hv:v < 0
    · rw [if_pos hv]; omega
    · rw [if_neg hv]; exact Nat.min_le_right _ _
theorem zaC1 (v:Int) (n d:Nat):(if v < 0 then max (v + (n:Int)) 0 else min v (n:Int))=((sIx n d (some v):Nat):Int):=by
  show (if v < 0 then max (v + (n:Int)) 0 else min v (n:Int))=(((if v < 0 then (v + (n:Int)).toNat else min v.toNat n):Nat):Int)
  by_cases hv:v < 0
  · simp only [if_pos hv]; omega
  · simp only [if_neg hv]; omega
theorem zax7 (lo hi:Option Int) (n:Nat):Builtin.Slice.sliceAdjust lo hi 1 (n:Int)=(((sIx n 0 lo:Nat):Int),((sIx n n hi:Nat):Int)):=by
  have h1:¬ ((1:Int) < 0):=by omega
  unfold Builtin.Slice.sliceAdjust
  simp only [h1,if_false]
  refine Prod.ext ?_ ?_
  · cases lo with
    | none=>rfl
    | some v=>exact zaC1 v n 0
  · cases hi with
    | none=>rfl
    | some v=>exact zaC1 v n n
theorem zay4 (i j:Nat):Builtin.Slice.slicePlaces (i:Int) (j:Int) 1=j - i:=by
  unfold Builtin.Slice.slicePlaces
  have h1:(1:Int) > 0:=by omega
  simp only [h1,if_true,Int.ediv_one]
  split <;> omega
theorem zad9 {v:Value} {o:Option Int} {Q:Option Int→Shared→Prop} (p:IsPart v o) (h:Q o s):wpAny (model prog w) A (Builtin.Slice.slicePartIndex v) Q E s:=by
  cases p with
  | none=>exact slicePart_none h
  | int i t=>exact slicePart_int h
theorem sliceApplied_gen {sl:Addr} {vl vu:Value} {lo hi:Option Int} {n:Nat} {Q:Int×Int×Nat→Shared→Prop} (hs:s.heap.IsSliceOf sl vl vu .none) (pl:IsPart vl lo) (pu:IsPart vu hi)
    (h:Q (((sIx n 0 lo:Nat):Int),1,sIx n n hi - sIx n 0 lo) s):wpAny (model prog w) A (Builtin.Slice.sliceApplied (.ref sl) (pure (n:Int))) Q E s:=by
  obtain ⟨os,hos,hcs,hds⟩:=id hs
  unfold Builtin.Slice.sliceApplied Builtin.Slice.sliceFields
  refine wpAny_bind (wpAny_bind (wpAny_field hos hds (x:=vl) rfl (wpAny_bind (wpAny_field hos hds (x:=vu) rfl (wpAny_bind (wpAny_field hos hds (x:=.none) rfl (wpAny_pure ?_)))))))
  refine wpAny_bind (slicePart_none ?_)
  show wpAny _ _ (if ((1:Int) == 0)=true then _ else _) _ _ s
  rw [if_neg (by decide)]
  refine wpAny_bind (zad9 pl (wpAny_bind (zad9 pu (wpAny_bind (wpAny_pure ?_)))))
  show wpAny _ _ (match Builtin.Slice.sliceAdjust lo hi 1 (n:Int) with | (lo,hi)=>pure (lo,(1:Int),Builtin.Slice.slicePlaces lo hi 1)) _ _ s
  rw [zax7 lo hi n]
  show wpAny _ _ (pure (((sIx n 0 lo:Nat):Int),(1:Int),Builtin.Slice.slicePlaces ((sIx n 0 lo:Nat):Int) ((sIx n n hi:Nat):Int) 1)) _ _ s
  rw [zay4]
  exact wpAny_pure h
theorem zaN6 (xs:Array Value) (i k:Nat):((List.range k).filterMap fun (m:Nat)=>xs[((i:Int) + (m:Int) * 1).toNat]?).toArray=((xs.toList.drop i).take k).toArray:=by
  have e:(fun (m:Nat)=>xs[((i:Int) + (m:Int) * 1).toNat]?)=fun m=>xs[i + m]?:=by
    funext m
    have:((i:Int) + (m:Int) * 1).toNat=i + m:=by omega
    rw [this]
  rw [e]
  have:=pick_run xs i k
  rw [List.filterMap_map] at this
  have e2:((fun x=>xs[x]?)∘fun x=>i + x)=fun m=>xs[i + m]?:=rfl
  rw [e2] at this
  rw [this]
theorem getItem_tuple_cut {t sl:Addr} {items:Array Value} {vl vu:Value} {lo hi:Option Int} {Q:Value→Shared→Prop} (ht:IsTup s.heap t items) (hs:s.heap.IsSliceOf sl vl vu .none) (pl:IsPart vl lo) (pu:IsPart vu hi)
    (hw:¬ (sIx items.size 0 lo=0∧sIx items.size items.size hi=items.size))
    (h:Q (.ref s.heap.objs.size) { s with heap:=s.heap.push { cls:=.type "tuple",data:=.seq ((items.toList.drop (sIx items.size 0 lo)).take (sIx items.size items.size hi - sIx items.size 0 lo)).toArray } })
    (hsz:items.size≤sizeLine):wpAny (model prog w) A (getItem (.ref t) (.ref sl)) Q E s:=by
  have htake:sizeOk (.seq ((items.toList.drop (sIx items.size 0 lo)).take (sIx items.size items.size hi - sIx items.size 0 lo)).toArray):=by
    show ((items.toList.drop (sIx items.size 0 lo)).take (sIx items.size items.size hi - sIx items.size 0 lo)).toArray.size≤sizeLine
    rw [List.size_toArray,List.length_take,List.length_drop,Array.length_toList]
    omega
  have hj:sIx items.size items.size hi≤items.size:=zba8 _ _ (Nat.le_refl _) hi
  obtain ⟨os,hos,hcs,hds⟩:=id hs
  have hTs:s.TypeIs (.ref sl) "slice":=⟨os,hos,hcs⟩
  unfold getItem
  try with_reducible refine wpAny_holding ?_
  first | refine wpAny_bind (wpAny_pure ?_) | skip
  refine wpAny_bind (wpAny_sequenceKey ht.typeIs (by decide) ?_)
  refine wpAny_bind (wpAny_callSpecial?_slot (name:=Str.ofString "__getitem__") ht.typeIs PyProof.Rows.slot_tuple_getitem
    (wpAny_call_entry PyProof.Rows.slot_tuple_getitem ht.typeIs entry_tuple_getitem ?_ (args_tuple_getitem _ _)))
  show wpAny _ _ (Builtin.Tuple.tupleItemsOf (.ref t)>>=_) _ _ s
  refine wpAny_bind (tupleItemsOf_ ht ?_)
  refine wpAny_bind (wpAny_typeOf hTs ?_)
  rw [if_pos (by decide)]
  refine wpAny_bind (sliceApplied_gen hs pl pu ?_)
  have hno:¬ ((((sIx items.size 0 lo:Nat):Int) == 0 && (1:Int) == 1 && (sIx items.size items.size hi - sIx items.size 0 lo) == items.size)=true):=by
    intro q
    rw [Bool.and_eq_true,Bool.and_eq_true] at q
    have q1:((sIx items.size 0 lo:Nat):Int)=0:=eq_of_beq q.1.1
    have q2:sIx items.size items.size hi - sIx items.size 0 lo=items.size:=eq_of_beq q.2
    exact hw ⟨by omega,by omega⟩
  show wpAny _ _ (if (((sIx items.size 0 lo:Nat):Int) == 0 && (1:Int) == 1 && (sIx items.size items.size hi - sIx items.size 0 lo) == items.size)=true then _ else _) _ _ s
  rw [if_neg hno,zaN6]
  first
    | exact wpAny_bind (m:=Builtin.Tuple.tupleExact _) (wpAny_newObj_type (wpAny_pure ⟨_,rfl,wpAny_pure h⟩) htake)
    | exact wpAny_bind (m:=Builtin.Tuple.tupleExact _) (wpAny_newObj_type (wpAny_bind (wpAny_pure (wpAny_pure ⟨_,rfl,wpAny_pure h⟩))) htake)
    | exact wpAny_bind (wpAny_bind (m:=Builtin.Tuple.tupleExact _) (wpAny_newObj_type (wpAny_pure (wpAny_pure ⟨_,rfl,wpAny_pure h⟩)) htake))
    | exact wpAny_bind (wpAny_bind (m:=Builtin.Tuple.tupleExact _) (wpAny_newObj_type (wpAny_pure ⟨_,rfl,wpAny_pure h⟩) htake))
end
end HT
namespace L2
open PySem PySem.Spec PyProof.Rows
abbrev TO:=St→Hp→(Option Int→Hp→Prop)→Prop
def PO (X:Cx) (e:Option Expr) (t:TO):Prop :=
  ∀ (pins:List (Addr×Obj)) (s:Shared) (σ:St) (H:Hp) (Q:Option Int→Hp→Prop),Inv X pins σ H s→t σ H Q →
    wpAny (model X.prog X.w) X.A (evalPart e X.env) (fun u s'=>∃ o H',Inv X pins σ H' s'∧IsPart u o∧Q o H') X.xe s
def zaX6:TO:=fun _ H Q=>Q none H
def zbp3 (t:TE):TO:=fun σ H Q=>t σ H fun x H1=>∃ i,x=.int i∧Q (some i) H1
section
variable {X:Cx} {e:Expr} {te:TE} {lo hi:Option Expr} {tl th:TO} {pos p2:Pos}
theorem zaY1:PO X none zaX6:=by
  intro pins s σ H Q I h
  rw [evalPart_none]
  exact wpAny_pure ⟨none,H,I,.none,h⟩
theorem zaU0 (h:PE X e te):PO X (some e) (zbp3 te):=by
  intro pins s σ H Q I hw
  rw [evalPart_some]
  refine thn (h pins s σ H _ I hw) fun u s1 ⟨x,H1,I1,r1,q1⟩=>?_
  obtain ⟨i,rfl,q⟩:=q1
  obtain ⟨t,rfl⟩:=r1
  exact ⟨some i,H1,I1,.int i t,q⟩
def SlR (X:Cx) (r:V→Option Int→Option Int→Hp→VK→Prop):Prop :=
  ∀ (pins:List (Addr×Obj)) (s:Shared) (σ:St) (H:Hp) (x:V) (v vl vu:Value) (lo hi:Option Int) (sl:Addr) (Q:VK),Inv X pins σ H s→RelV x v→s.heap.IsSliceOf sl vl vu .none→IsPart vl lo→IsPart vu hi→r x lo hi H Q →
    ∃ T id,typeLookup (.type T) "__getitem__"=pure (some (.builtin id))∧s.TypeIs v T∧wpAny (model X.prog X.w) X.A (getItem v (.ref sl)) (EP X pins σ Q) X.xe s
theorem SlR.or {r r':V→Option Int→Option Int→Hp→VK→Prop} (h:SlR X r) (h':SlR X r'):SlR X (fun x lo hi H Q=>r x lo hi H Q∨r' x lo hi H Q):=by
  intro pins s σ H x v vl vu lo hi sl Q I rx hs pl pu q
  rcases q with q | q
  · exact h pins s σ H x v vl vu lo hi sl Q I rx hs pl pu q
  · exact h' pins s σ H x v vl vu lo hi sl Q I rx hs pl pu q
def tSl (r:V→Option Int→Option Int→Hp→VK→Prop) (te:TE) (tl th:TO):TE:=fun σ H Q=>te σ H fun x H1=>tl σ H1 fun l H2=>th σ H2 fun u H3=>r x l u H3 Q
theorem zaw3 {r:V→Option Int→Option Int→Hp→VK→Prop} (hr:SlR X r) (he:PE X e te) (hl:PO X lo tl) (hu:PO X hi th):PE X (.Subscript e (.Slice lo hi none p2) pos) (tSl r te tl th):=by
  intro pins s σ H Q I h
  refine Subscript_ (thn (he pins s σ H _ I h) fun v s1 ⟨x,H1,I1,r1,q1⟩=>?_)
  refine wpAny_Slice (thn (hl pins s1 σ H1 _ I1 q1) fun vl s2 ⟨l,H2,I2,pl,q2⟩=>thn (hu pins s2 σ H2 _ I2 q2) fun vu s3 ⟨u,H3,I3,pu,q3⟩=>?_)
  rw [evalPart_none]
  refine wpAny_pure ?_
  have I4:Inv X pins σ H3 { s3 with heap:=s3.heap.push { cls:=.type "slice",data:=.fields #[vl,vu,.none] } }:=I3.kept (t':=s3.toks) fun b ob q=>Heap.get?_push_of_some _ q
  obtain ⟨T,id,hT,ht,hg⟩:=hr pins { s3 with heap:=s3.heap.push { cls:=.type "slice",data:=.fields #[vl,vu,.none] } } σ H3 x v vl vu l u s3.heap.objs.size Q I4 r1 (Heap.IsSliceOf.new ..) pl pu q3
  show wpAny (model X.prog X.w) X.A (subscriptTail e (.Slice lo hi none p2) v (.ref s3.heap.objs.size)) (EP X pins σ Q) X.xe { s3 with heap:=s3.heap.push { cls:=.type "slice",data:=.fields #[vl,vu,.none] } }
  exact tail_any (ops:=[.ref s3.heap.objs.size,v]) ht hT hg (by with_unfolding_all rfl)
def cutV (xs:List V) (lo hi:Option Int):List V:=(xs.drop (HT.sIx xs.length 0 lo)).take (HT.sIx xs.length xs.length hi - HT.sIx xs.length 0 lo)
theorem zW6 (xs:List V) (lo hi:Option Int):(cutV xs lo hi).length≤xs.length:=by
  unfold cutV
  rw [List.length_take,List.length_drop]
  omega
def rSlT (K:PySem.W.Frag):V→Option Int→Option Int→Hp→VK→Prop:=fun x lo hi H Q=>∃ a xs,x=.ref a∧SqT K H a xs ∧
  ¬ (HT.sIx xs.length 0 lo=0∧HT.sIx xs.length xs.length hi=xs.length)∧∀ p,H p=none→Q (.ref p) (upd H p (.tup (cutV xs lo hi)))
theorem zbi0:SlR X (rSlT X.K):=by
  intro pins s σ H x v vl vu lo hi sl Q I rx hs pl pu h
  obtain ⟨a,xs,rfl,hx,hw,q⟩:=h
  cases rx
  obtain ⟨its,r,ht,hz⟩:=I.tuple hx
  have hlen:its.toArray.size=xs.length:=by rw [List.size_toArray]; exact r.length.symm
  refine ⟨"tuple",_,PyProof.Rows.slot_tuple_getitem.lookup,ht.typeIs,?_⟩
  refine HT.getItem_tuple_cut ht hs pl pu (by rw [hlen]; exact hw) ?_ (by rw [hlen]; exact hz)
  rw [hlen]
  refine ⟨.ref s.heap.objs.size,_,I.laid (t':=s.toks) (o:=.tup (cutV xs lo hi)) (fun b ob q=>Heap.get?_push_of_some _ q) (Nat.le_refl _) ?_,rfl,q _ (I.hok.fresh (Nat.le_refl _))⟩
  exact ⟨⟨Nat.le_trans (zW6 xs lo hi) hz,NoD.new _ _ _⟩,_,(r.drop (HT.sIx xs.length 0 lo)).take (HT.sIx xs.length xs.length hi - HT.sIx xs.length 0 lo),IsTup.new _ _⟩
def zbp9 (K:PySem.W.Frag):R2:=fun x y H Q=>∃ a b xs ys,x=.ref a∧y=.ref b∧SqT K H a xs∧SqT K H b ys∧xs≠[]∧xs.length + ys.length≤sizeLine ∧
  (ys=[]→Q (.ref a) H)∧(ys≠[]→∀ p,H p=none→Q (.ref p) (upd H p (.tup (xs++ys))))
theorem Vals.nil_iff {xs:List V} {us:List Value} (r:Vals xs us):us=[] ↔ xs=[]:=by
  cases r with
  | nil=>simp
  | cons _ _=>simp
theorem zaX3:OpR X (binaryOp .Add) (zbp9 X.K):=by
  intro pins s σ H x y v u Q I rx ry h
  obtain ⟨a,b,xs,ys,rfl,rfl,ha,hb,hx,hz,q1,q2⟩:=h
  cases rx
  cases ry
  obtain ⟨its,r1,p1,_⟩:=I.tuple ha
  obtain ⟨its2,r2,p2,_⟩:=I.tuple hb
  refine HT.cat_tup p1 p2 (fun z=>hx (r1.nil_iff.mp z)) (fun z=>⟨.ref a,H,I,rfl,q1 (r2.nil_iff.mp z)⟩) (fun z=>?_) (by rw [← r1.length,← r2.length]; exact hz)
  refine ⟨.ref s.heap.objs.size,_,I.laid (t':=s.toks) (o:=.tup (xs++ys)) (fun b ob q=>Heap.get?_push_of_some _ q) (Nat.le_refl _) ?_,rfl,q2 (fun w=>z (r2.nil_iff.mpr w)) _ (I.hok.fresh (Nat.le_refl _))⟩
  exact ⟨⟨by rw [List.length_append]; exact hz,NoD.new _ _ _⟩,_,r1.append r2,IsTup.new _ _⟩
end
end L2
namespace L2
open PySem PySem.Spec PyProof.Rows
def ixN (n:Nat) (i:Int):Option Nat:=if 0≤i then (if i < n then some i.toNat else none) else if -(n:Int)≤i then some (i + n).toNat else none
def atI {α:Type} (xs:List α) (i:Int):Option α:=(ixN xs.length i).bind fun j=>xs[j]?
theorem zaH7 {n:Nat} {i:Int} {j:Nat} (h:ixN n i=some j):seqIndex? i n=some j∧j < n∧-(n:Int)≤i∧i < n:=by
  unfold ixN at h
  by_cases h0:0≤i
  · rw [if_pos h0] at h
    by_cases h1:i < n
    · rw [if_pos h1] at h
      have e:i.toNat=j:=Option.some.inj h
      exact ⟨by rw [seqIndex_of h0 h1,e],by omega,by omega,h1⟩
    · rw [if_neg h1] at h; cases h
  · rw [if_neg h0] at h
    by_cases h1:-(n:Int)≤i
    · rw [if_pos h1] at h
      have e:(i + n).toNat=j:=Option.some.inj h
      exact ⟨by rw [seqIndex_neg (by omega) h1,e],by omega,h1,by omega⟩
    · rw [if_neg h1] at h; cases h
theorem zaq9 {α:Type} {xs:List α} {i:Int} {v:α} (h:atI xs i=some v):∃ j,seqIndex? i xs.length=some j∧xs[j]?=some v∧j < xs.length∧-(xs.length:Int)≤i∧i < xs.length:=by
  unfold atI at h
  cases e:ixN xs.length i with
  | none=>rw [e] at h; cases h
  | some j =>
    rw [e] at h
    obtain ⟨h1,h2,h3,h4⟩:=zaH7 e
    exact ⟨j,h1,h,h2,h3,h4⟩
theorem zm0 {α:Type} {xs:List α} {j:Nat} {v:α} (h:xs[j]?=some v):atI xs (j:Int)=some v:=by
  have hj:j < xs.length:=(List.getElem?_eq_some_iff.mp h).1
  have e:ixN xs.length (j:Int)=some j:=by
    unfold ixN
    rw [if_pos (by omega),if_pos (by omega)]; simp
  unfold atI; rw [e]; exact h
def zap0 (b:Expr):Prop:=∀ o i,subscripted b false o i=operate [o,i] (getItem o i)
def IxR (X:Cx) (r:R2):Prop :=
  ∀ (value slice:Expr) (pins:List (Addr×Obj)) (s:Shared) (σ:St) (H:Hp) (x y:V) (v u:Value) (Q:VK),Inv X pins σ H s→RelV x v→RelV y u→r x y H Q →
    subscripted slice false v u=operate [v,u] (getItem v u)→wpAny (model X.prog X.w) X.A (subscriptTail value slice v u) (EP X pins σ Q) X.xe s
def MtR (X:Cx) (id:String) (r:V→List V→Hp→VK→Prop):Prop :=
  ∀ (pins:List (Addr×Obj)) (s:Shared) (σ:St) (H:Hp) (x:V) (xs:List V) (v:Value) (us:List Value) (Q:VK),Inv X pins σ H s→RelV x v→Vals xs us→r x xs H Q →
    wpAny (model X.prog X.w) X.A (call (.builtin id) (v :: us)) (EP X pins σ Q) X.xe s
section
variable {X:Cx} {a b:Expr} {ta tb:TE} {pos:Pos}
theorem IxR.or {r r':R2} (h:IxR X r) (h':IxR X r'):IxR X (fun x y H Q=>r x y H Q∨r' x y H Q):=by
  intro value slice pins s σ H x y v u Q I rx ry q hs
  rcases q with q | q
  · exact h value slice pins s σ H x y v u Q I rx ry q hs
  · exact h' value slice pins s σ H x y v u Q I rx ry q hs
theorem MtR.or {id:String} {r r':V→List V→Hp→VK→Prop} (h:MtR X id r) (h':MtR X id r'):MtR X id (fun x xs H Q=>r x xs H Q∨r' x xs H Q):=by
  intro pins s σ H x xs v us Q I rx rs q
  rcases q with q | q
  · exact h pins s σ H x xs v us Q I rx rs q
  · exact h' pins s σ H x xs v us Q I rx rs q
theorem zbq2 {r:R2} (hr:IxR X r) (ha:PE X a ta) (hb:PE X b tb) (hs:zap0 b):PE X (.Subscript a b pos) (tOp r ta tb):=by
  intro pins s σ H Q I h
  exact Subscript_ (binT ha hb I h fun v u s2 x y H2 I2 rx ry q=>hr a b pins s2 σ H2 x y v u Q I2 rx ry q (hs _ _))
def rIxL (K:PySem.W.Frag):R2:=fun x y H Q=>∃ p xs i v,x=.ref p∧y=.int i∧SqL K H p xs∧atI xs i=some v∧Q v H
def rIxT (K:PySem.W.Frag):R2:=fun x y H Q=>∃ p xs i v,x=.ref p∧y=.int i∧SqT K H p xs∧atI xs i=some v∧Q v H
def rIxS:R2:=fun x y H Q=>∃ z i c,x=.str z∧y=.int i∧z.length≤sizeLine∧atI z.cps.toList i=some c∧Q (.str ⟨#[c]⟩) H
theorem zaX5:IxR X (rIxL X.K):=by
  intro value slice pins s σ H x y v u Q I rx ry h hs
  obtain ⟨p,xs,i,z,rfl,rfl,hq,he,q⟩:=h
  cases rx
  obtain ⟨t,rfl⟩:=ry
  obtain ⟨its,r,pl,hz⟩:=I.list hq
  obtain ⟨j,h1,h2,h3,h4,h5⟩:=zaq9 he
  obtain ⟨w,ew,rw'⟩:=r.get h2
  have hl:=r.length
  have hn:=zU2
  have fin:EP X pins σ Q w s:=⟨z,H,I,rw',q⟩
  by_cases h0:0≤i
  · have hj:i.toNat=j:=by
      rw [seqIndex_of h0 h5] at h1
      exact Option.some.inj h1
    exact item_listR pl.isList h0 (by omega) (by rw [hj]; simpa using ew) fin hs
  · have hj:(i + (its.toArray.size:Int)).toNat=j:=by
      rw [seqIndex_neg (by omega) h4] at h1
      rw [List.size_toArray,← hl]
      exact Option.some.inj h1
    exact subscriptTail_builtinR (x:=w) pl.isList.typeIs slot_list_getitem.lookup
      (wpAny_getItem_list_neg (Q:=fun r s'=>r=w∧EP X pins σ Q r s') pl.isList (by omega) (by rw [List.size_toArray] <;> omega) (by omega) (by rw [hj]; simpa using ew) ⟨rfl,fin⟩) hs
theorem zbi4:IxR X (rIxT X.K):=by
  intro value slice pins s σ H x y v u Q I rx ry h hs
  obtain ⟨p,xs,i,z,rfl,rfl,hq,he,q⟩:=h
  cases rx
  obtain ⟨t,rfl⟩:=ry
  obtain ⟨its,r,pl,hz⟩:=I.tuple hq
  obtain ⟨j,h1,h2,h3,h4,h5⟩:=zaq9 he
  obtain ⟨w,ew,rw'⟩:=r.get h2
  have hl:=r.length
  have hn:=zU2
  have fin:EP X pins σ Q w s:=⟨z,H,I,rw',q⟩
  exact subscriptTail_builtinR (x:=w) pl.typeIs slot_tuple_getitem.lookup
    (getItem_tuple (j:=j) (Q:=fun r s'=>r=w∧EP X pins σ Q r s') pl (by omega) (by omega) (by rw [List.size_toArray,← hl]; exact h1) (by simpa using ew) ⟨rfl,fin⟩) hs
theorem zbh1:IxR X rIxS:=by
  intro value slice pins s σ H x y v u Q I rx ry h hs
  obtain ⟨z,i,c,rfl,rfl,hz,he,q⟩:=h
  obtain ⟨t,rfl⟩:=rx
  obtain ⟨t',rfl⟩:=ry
  obtain ⟨j,h1,h2,h3,h4,h5⟩:=zaq9 he
  have hl:z.cps.toList.length=z.length:=by simp [Str.length]
  rw [hl] at h1 h4 h5
  have hn:=zU2
  exact tail_any (typeIs_str s z t) slot_str_getitem.lookup (getItem_str (c:=c) (by
    have e1:decide (i < -(2 ^ 63:Int))=false:=decide_eq_false (by omega)
    have e2:decide (i ≥ 2 ^ 63)=false:=decide_eq_false (by omega)
    rw [e1,e2,Bool.or_false]) (by rw [h1]; simpa using h2) ⟨.str ⟨#[c]⟩,H,I.tok _,⟨_,rfl⟩,q⟩) hs
def rIx (K:PySem.W.Frag):R2:=fun x y H Q=>rIxL K x y H Q∨rIxT K x y H Q∨rIxS x y H Q
theorem zbf2:IxR X (rIx X.K):=zaX5.or (zbi4.or zbh1)
theorem zaz3 (its:List Value) (n j:Nat) (u:Value):Obj.mapSeq (·.setIfInBounds j u) { cls:=.type "list",data:=.seq its.toArray n }={ cls:=.type "list",data:=.seq (its.set j u).toArray n }:=by
  simp [Obj.mapSeq]
theorem Inv.lst {pins:List (Addr×Obj)} {σ:St} {H:Hp} {s:Shared} {p:Addr} {xs:List V} (I:Inv X pins σ H s) (h:H p=some (.lst xs)) :
    ∃ (its:List Value) (n:Nat),Vals xs its∧s.heap.get? p=some { cls:=.type "list",data:=.seq its.toArray n }∧xs.length≤sizeLine:=by
  obtain ⟨z,its,n,r,e⟩:=I.hok p _ h
  exact ⟨its,n,r,e,z⟩
theorem Inv.lstUpd {pins:List (Addr×Obj)} {σ:St} {H:Hp} {s:Shared} {p:Addr} {xs ys:List V} {its its':List Value} {n n':Nat} {f:Obj→Obj} (I:Inv X pins σ H s) (h:H p=some (.lst xs))
    (ho:s.heap.get? p=some { cls:=.type "list",data:=.seq its.toArray n }) (hf:f { cls:=.type "list",data:=.seq its.toArray n }={ cls:=.type "list",data:=.seq its'.toArray n' }) (r:Vals ys its') (hz:ys.length≤sizeLine) (t:Nat) :
    Inv X pins σ (upd H p (.lst ys)) { s with heap:=s.heap.update p f,toks:=t }:=by
  have e:(s.heap.update p f).get? p=some { cls:=.type "list",data:=.seq its'.toArray n' }:=by
    rw [Heap.get?_update_self f ho (by rw [hf] <;> rfl),hf]
  refine I.write (x:=p) (e:=p) (by rw [h]; trivial) (.inl rfl) (fun b u hb q=>(Heap.get?_update_other _ _ (Ne.symm hb)).trans q) ⟨_,e⟩ ?_
  exact ⟨hz,its',n',r,e⟩
def zbl8:V→V→V→Hp→(Hp→Prop)→Prop:=fun o i v H Q=>∃ p xs k j,o=.ref p∧i=.int k∧H p=some (.lst xs)∧ixN xs.length k=some j∧Q (upd H p (.lst (xs.set j v)))
theorem zaM0:PSet X zbl8:=by
  intro pins s σ H o i v ov iv u Q I ro ri rv h
  obtain ⟨p,xs,k,j,rfl,rfl,hp,hj,q⟩:=h
  cases ro
  obtain ⟨t,rfl⟩:=ri
  obtain ⟨its,n,r,ho,hz⟩:=I.lst hp
  obtain ⟨h1,h2,h3,h4⟩:=zaH7 hj
  have hl:=r.length
  have hn:=zU2
  have I':Inv X pins σ (upd H p (.lst (xs.set j v))) { s with heap:=s.heap.update p (Obj.mapSeq (·.setIfInBounds j u)) } :=
    I.lstUpd hp ho (zaz3 its n j u) (r.set rv j) (by rw [List.length_set]; exact hz) s.toks
  by_cases h0:0≤k
  · have hk:k.toNat=j:=by
      rw [seqIndex_of h0 h4] at h1
      exact Option.some.inj h1
    exact PySem.W.ki_setAt ho h0 (by omega) (by rw [List.size_toArray,← hl]; exact h4) (by rw [hk]; exact ⟨_,I',q⟩)
  · have hk:(k + (its.toArray.size:Int)).toNat=j:=by
      rw [seqIndex_neg (by omega) h3] at h1
      rw [List.size_toArray,← hl]
      exact Option.some.inj h1
    exact PySem.W.ki_setBack ho (by omega) (by rw [List.size_toArray,← hl]; exact h3) (by omega) (by rw [hk]; exact ⟨_,I',q⟩)
theorem zam0 (lo hi:Option Int) (n:Nat):(sliceBounds lo hi none n).1=((HT.sIx n 0 lo:Nat):Int)∧(sliceBounds lo hi none n).2.1=((HT.sIx n n hi:Nat):Int)∧(sliceBounds lo hi none n).2.2=1:=by
  refine ⟨?_,?_,rfl⟩
  · cases lo with
    | none=>simp [sliceBounds,HT.sIx]
    | some i =>
      simp only [sliceBounds,HT.sIx,Option.getD_none,show (1:Int) > 0 by decide,if_true]
      by_cases h:i < 0
      · simp only [h,if_true] <;> omega
      · simp only [h,if_false] <;> omega
  · cases hi with
    | none=>simp [sliceBounds,HT.sIx]
    | some i =>
      simp only [sliceBounds,HT.sIx,Option.getD_none,show (1:Int) > 0 by decide,if_true]
      by_cases h:i < 0
      · simp only [h,if_true] <;> omega
      · simp only [h,if_false] <;> omega
theorem zah2 (its:List Value) (lo hi:Option Int):slicePick its.toArray lo hi none=((its.drop (HT.sIx its.length 0 lo)).take (HT.sIx its.length its.length hi - HT.sIx its.length 0 lo)).toArray:=by
  obtain ⟨h1,h2,h3⟩:=zam0 lo hi its.toArray.size
  unfold slicePick
  rw [h1,h2,h3]
  simp only [sliceRange_one,pick_run,List.size_toArray] <;> rfl
def rSlL (K:PySem.W.Frag):V→Option Int→Option Int→Hp→VK→Prop:=fun x lo hi H Q=>∃ a xs,x=.ref a∧SqL K H a xs∧∀ p,H p=none→Q (.ref p) (upd H p (.lst (cutV xs lo hi)))
theorem zba0:SlR X (rSlL X.K):=by
  intro pins s σ H x v vl vu lo hi sl Q I rx hs pl pu h
  obtain ⟨a,xs,rfl,hx,q⟩:=h
  cases rx
  obtain ⟨its,r,ht,hz⟩:=I.list hx
  have hlen:=r.length
  refine ⟨"list",_,slot_list_getitem.lookup,ht.isList.typeIs,?_⟩
  refine wpAny_getItem_list_slice ht.isList hs pl pu .none (by simp) ?_ (by rw [List.size_toArray] <;> omega)
  rw [zah2,← hlen]
  refine ⟨.ref s.heap.objs.size,_,I.laid (t':=s.toks) (o:=.lst (cutV xs lo hi)) (fun b ob q=>Heap.get?_push_of_some _ q) (Nat.le_refl _) ?_,rfl,q _ (I.hok.fresh (Nat.le_refl _))⟩
  exact ⟨Nat.le_trans (zW6 xs lo hi) hz,_,0,(r.drop (HT.sIx xs.length 0 lo)).take (HT.sIx xs.length xs.length hi - HT.sIx xs.length 0 lo),Heap.get?_push_size _ rfl⟩
def zR0:V→Bool
  | .non=>true
  | .bl _=>true
  | .int _=>true
  | .str _=>true
  | _=>false
def eqV:V→V→Bool
  | .non,.non=>true
  | .bl a,.bl b=>a == b
  | .bl a,.int b=>(if a then 1 else 0) == b
  | .int a,.bl b=>a == (if b then 1 else 0)
  | .int a,.int b=>a == b
  | .str a,.str b=>a == b
  | _,_=>false
theorem zbe4 {A:Around} {s:Shared} {y x:V} {u v:Value} (ry:RelV y u) (rx:RelV x v) (fy:zR0 y=true) (fx:zR0 x=true):SeqAt.EqAt A s u v (eqV y x):=by
  cases y with
  | non =>
    cases ry
    cases x with
    | non=>cases rx; exact SeqAt.EqAt.same _
    | bl b=>cases rx; exact SeqAt.EqAt.none_bool b
    | int b=>obtain ⟨t,rfl⟩:=rx; exact SeqAt.EqAt.none_int b t
    | str b=>obtain ⟨t,rfl⟩:=rx; exact SeqAt.EqAt.none_str b t
    | _=>exact absurd (show false=true from fx) Bool.false_ne_true
  | bl a =>
    cases ry
    cases x with
    | non=>cases rx; exact SeqAt.EqAt.bool_none a
    | bl b=>cases rx; exact SeqAt.EqAt.bool_bool a b
    | int b=>obtain ⟨t,rfl⟩:=rx; exact SeqAt.EqAt.bool_int a b t
    | str b=>obtain ⟨t,rfl⟩:=rx; exact SeqAt.EqAt.bool_str a b t
    | _=>exact absurd (show false=true from fx) Bool.false_ne_true
  | int a =>
    obtain ⟨t',rfl⟩:=ry
    cases x with
    | non=>cases rx; exact SeqAt.EqAt.int_none a t'
    | bl b=>cases rx; exact SeqAt.EqAt.int_bool a t' b
    | int b=>obtain ⟨t,rfl⟩:=rx; exact SeqAt.EqAt.int_int a t' b t
    | str b=>obtain ⟨t,rfl⟩:=rx; exact SeqAt.EqAt.int_str a t' b t
    | _=>exact absurd (show false=true from fx) Bool.false_ne_true
  | str a =>
    obtain ⟨t',rfl⟩:=ry
    cases x with
    | non=>cases rx; exact SeqAt.EqAt.str_none a t'
    | bl b=>cases rx; exact SeqAt.EqAt.str_bool a t' b
    | int b=>obtain ⟨t,rfl⟩:=rx; exact SeqAt.EqAt.str_int a t' b t
    | str b=>obtain ⟨t,rfl⟩:=rx; exact SeqAt.EqAt.str_str a t' b t
    | _=>exact absurd (show false=true from fx) Bool.false_ne_true
  | _=>exact absurd (show false=true from fy) Bool.false_ne_true
def eqU (x:V) (u:Value):Bool:=match u with
  | .none=>eqV .non x
  | .bool b=>eqV (.bl b) x
  | .int i _=>eqV (.int i) x
  | .str z _=>eqV (.str z) x
  | _=>false
theorem zaQ9 {x y:V} {u:Value} (r:RelV y u) (f:zR0 y=true):eqU x u=eqV y x:=by
  cases y with
  | non=>cases r; rfl
  | bl b=>cases r; rfl
  | int i=>obtain ⟨t,rfl⟩:=r; rfl
  | str z=>obtain ⟨t,rfl⟩:=r; rfl
  | _=>exact absurd (show false=true from f) Bool.false_ne_true
theorem zar0 {x:V}:∀ {xs:List V} {us:List Value},Vals xs us→xs.all zR0=true→us.any (eqU x)=xs.any fun y=>eqV y x
  | _,_,.nil,_=>rfl
  | y :: xs,u :: us,.cons r t,f=>by
    rw [List.all_cons,Bool.and_eq_true] at f
    rw [List.any_cons,List.any_cons,zaQ9 r f.1,zar0 t f.2]
theorem zP1 {A:Around} {s:Shared} {x:V} {v:Value} (rx:RelV x v) (fx:zR0 x=true):∀ {xs:List V} {us:List Value},Vals xs us→xs.all zR0=true→∀ u∈us,SeqAt.EqAt A s u v (eqU x u)
  | _,_,.nil,_=>fun u hu=>by cases hu
  | y :: xs,u :: us,.cons r t,f=>fun u' hu=>by
    rw [List.all_cons,Bool.and_eq_true] at f
    rcases List.mem_cons.mp hu with rfl | hu
    · rw [zaQ9 r f.1]; exact zbe4 r rx f.1 fx
    · exact zP1 rx fx t f.2 u' hu
def inV (x:V) (xs:List V):Bool:=xs.any fun y=>eqV y x
def rIn (K:PySem.W.Frag) (neg:Bool):R2:=fun x y H Q=>∃ p xs,y=.ref p∧(SqL K H p xs∨SqT K H p xs)∧zR0 x=true∧xs.all zR0=true∧Q (.bl (if neg then !inV x xs else inV x xs)) H
theorem zB4:OpR X (compareOp .In) (rIn X.K false):=by
  intro pins s σ H x y v u Q I rx ry h
  obtain ⟨p,xs,rfl,hq,fx,fs,q⟩:=h
  cases ry
  rcases hq with hq | hq
  · obtain ⟨its,r,pl,hz⟩:=I.list hq
    refine SeqAt.in_listAt (eqU x) pl.isList (fun w hw=>zP1 rx fx r fs w (by simpa using hw)) ⟨.bl _,H,I,rfl,?_⟩
    rw [show its.toArray.any (eqU x)=its.any (eqU x) by simp,zar0 r fs]
    exact q
  · obtain ⟨its,r,pl,hz⟩:=I.tuple hq
    refine SeqAt.in_tupleAt (eqU x) pl (fun w hw=>zP1 rx fx r fs w (by simpa using hw)) ⟨.bl _,H,I,rfl,?_⟩
    rw [show its.toArray.any (eqU x)=its.any (eqU x) by simp,zar0 r fs]
    exact q
theorem zG6:CallR X (.builtin "len") (fun xs H Q=>∃ p ys,xs=[.ref p]∧(SqL X.K H p ys∨SqT X.K H p ys)∧Q (.int ys.length) H):=by
  intro pins s σ H xs us Q I r h
  obtain ⟨p,ys,rfl,hq,q⟩:=h
  obtain ⟨u,rfl,rx⟩:=zN6 r
  cases rx
  have hn:=zU2
  rcases hq with hq | hq
  · obtain ⟨its,r',pl,hz⟩:=I.list hq
    have hlen:=r'.length
    exact Calls.call_len_list pl.isList (by simp only [List.size_toArray] <;> omega) ⟨.int ys.length,H,I.tok _,⟨s.toks + 1,by rw [List.size_toArray,hlen]⟩,q⟩
  · obtain ⟨its,r',pl,hz⟩:=I.tuple hq
    have hlen:=r'.length
    exact len_tuple pl (by simp only [List.size_toArray] <;> omega) ⟨.int ys.length,H,I.tok _,⟨s.toks + 1,by rw [List.size_toArray,hlen]⟩,q⟩
theorem zak6:CallR X (.builtin "len") (fun xs H Q=>∃ z,xs=[.str z]∧z.length≤sizeLine∧Q (.int z.length) H):=by
  intro pins s σ H xs us Q I r h
  obtain ⟨z,rfl,hz,q⟩:=h
  obtain ⟨u,rfl,t,rfl⟩:=zN6 r
  have hn:=zU2
  exact len_str (by omega) ⟨.int z.length,H,I.tok _,⟨_,rfl⟩,q⟩
theorem CallR.or {f:Value} {r r':List V→Hp→VK→Prop} (h:CallR X f r) (h':CallR X f r'):CallR X f (fun xs H Q=>r xs H Q∨r' xs H Q):=by
  intro pins s σ H xs us Q I rs q
  rcases q with q | q
  · exact h pins s σ H xs us Q I rs q
  · exact h' pins s σ H xs us Q I rs q
theorem zD9:CallR X (.type "tuple") (fun xs H Q=>∃ p ys,xs=[.ref p]∧((SqL X.K H p ys∧∀ l,H l=none→Q (.ref l) (upd H l (.tup ys)))∨(SqT X.K H p ys∧Q (.ref p) H))):=by
  intro pins s σ H xs us Q I r h
  obtain ⟨p,ys,rfl,h⟩:=h
  obtain ⟨u,rfl,rx⟩:=zN6 r
  cases rx
  rcases h with ⟨hq,q⟩ | ⟨hq,q⟩
  · obtain ⟨its,r',pl,hz⟩:=I.list hq
    have hlen:=r'.length
    refine call_tuple_list pl.isList (fun h' kp=>?_) (by simp only [List.size_toArray] <;> omega)
    have I1:Inv X pins σ H { s with heap:=h' }:=I.kept (t':=s.toks) kp
    have I2:Inv X pins σ (upd H h'.objs.size (.tup ys)) { s with heap:=h'.push { cls:=.type "tuple",data:=.seq its.toArray } } :=
      I1.laid (t':=s.toks) (fun b o e=>Heap.get?_push_of_some _ e) (Nat.le_refl _) (show ObjOk X.prog X.w _ _ _ (.tup ys) from ⟨⟨hz,NoD.new _ _ _⟩,its,r',IsTup.new _ _⟩)
    exact ⟨.ref h'.objs.size,_,I2,rfl,q _ (I1.hok.fresh (Nat.le_refl _))⟩
  · obtain ⟨its,r',pl,hz⟩:=I.tuple hq
    exact call_tuple_same pl ⟨.ref p,H,I,rfl,q⟩
def tyV (K:PySem.W.Frag) (T:String) (x:V) (H:Hp):Prop:=match x with
  | .str _=>T="str"
  | .int _=>T="int"
  | .ref p=>(T="list"∧∃ xs,SqL K H p xs)∨(T="tuple"∧∃ o,K.lookup p=some o∧o.cls=.type "tuple"∧o.dict=none) ∨
      (T="dict"∧((∃ kvs,H p=some (.dK kvs))∨∃ kvs,H p=some (.dT kvs)))∨(T="set"∧∃ S n,H p=some (.set S n))
  | _=>False
theorem zbd7 {pins:List (Addr×Obj)} {σ:St} {H:Hp} {s:Shared} {T:String} {x:V} {v:Value} (I:Inv X pins σ H s) (r:RelV x v) (ty:tyV X.K T x H) :
    s.TypeIs v T∧∀ a,v=.ref a→∃ ob,s.heap.get? a=some ob∧ob.dict=none:=by
  cases x with
  | str z =>
    obtain ⟨t,rfl⟩:=r
    cases (show T="str" from ty)
    exact ⟨typeIs_str s z t,fun _ e=>nomatch e⟩
  | int i =>
    obtain ⟨t,rfl⟩:=r
    cases (show T="int" from ty)
    exact ⟨typeIs_int s i t,fun _ e=>nomatch e⟩
  | ref p =>
    cases r
    rcases ty with ⟨rfl,xs,hq⟩ | ⟨rfl,o,hk,hc,hd⟩ | ⟨rfl,hk⟩ | ⟨rfl,S,n,hk⟩
    · obtain ⟨its,_,pl,_⟩:=I.list hq
      refine ⟨pl.isList.typeIs,fun a e=>?_⟩
      cases e
      obtain ⟨o,n,e,c,hd,_⟩:=pl
      exact ⟨o,e,hd⟩
    · refine ⟨⟨o,I.kIn p o hk,hc⟩,fun a e=>?_⟩
      cases e
      exact ⟨o,I.kIn _ o hk,hd⟩
    · have z:∃ o,s.heap.get? p=some o∧o.ExactDict:=by
        rcases hk with ⟨kvs,hk⟩ | ⟨kvs,hk⟩
        · obtain ⟨_,_,_,_,o,_,_,e,ex,_⟩:=I.hok p _ hk
          exact ⟨o,e,ex⟩
        · obtain ⟨_,_,_,_,o,_,_,e,ex,_⟩:=I.hok p _ hk
          exact ⟨o,e,ex⟩
      obtain ⟨o,e,ex⟩:=z
      refine ⟨⟨o,e,ex.1⟩,fun a e2=>?_⟩
      cases e2
      exact ⟨o,e,ex.2.1⟩
    · obtain ⟨o,_,_,_,e,ex,_⟩:=I.hok p _ hk
      refine ⟨⟨o,e,ex.1⟩,fun a e2=>?_⟩
      cases e2
      exact ⟨o,e,ex.2.1⟩
  | _=>exact False.elim ty
def tBM (K:PySem.W.Frag) (T:String) (r:V→List V→Hp→VK→Prop) (to:TE) (t:TA):TE:=fun σ H Q=>to σ H fun x H1=>tyV K T x H1∧t σ H1 fun xs H2=>r x xs H2 Q
variable {o e:Expr} {es:List Expr} {to:TE} {t:TA} {name:Str} {apos cpos:Pos} {T id:String} {r:V→List V→Hp→VK→Prop}
theorem zba1 (pa:PlainAttrs T) (slot:Slot T name id) (hty:typeOf (.builtin id)=pure (.type "method_descriptor")) (hm:MtR X id r) (ho:PE X o to) (ha:PA X (e :: es) t)
    (hbase:attributeBase o name X.env (eval o X.env)=eval o X.env:=by rfl)
    (hfew:((backTo cpos (starEach (e :: es) X.env)).all (fun x=>!x.1) && (backToKw cpos (keywordEach [] X.env)).all (fun x=>x.1.isSome)
      && decide ((e :: es).length + ([]:List Keyword).length + (if ([]:List Keyword).isEmpty then 0 else 1) < 30))=true:=by rfl)
    (hline:(apos.endLine == cpos.line)=true:=by rfl) (hs:starEach (e :: es) X.env=(false,eval e X.env) :: starEach es X.env:=by rfl) (hplain:(backTo cpos (starEach es X.env)).any (·.1)=false:=by rfl) :
    PE X (.Call (.Attribute o name apos) (e :: es) [] cpos) (tBM X.K T r to t):=by
  intro pins s σ H Q I h
  refine wpAny_Call_method_late hbase hfew hline rfl (thn (ho pins s σ H _ I h) fun v s1 ⟨x,H1,I1,r1,ty,q1⟩=>?_)
  obtain ⟨h1,h2⟩:=zbd7 I1 r1 ty
  refine ⟨T,id,pa,slot,hty,h1,h2,?_⟩
  have hA:=ha cpos pins s1 σ H1 _ I1 q1
  rw [hs] at hA ⊢
  refine Calls.callWith_builtin (by show (false || (backTo cpos (starEach es X.env)).any (·.1))=false; rw [hplain] <;> rfl) (Calls.evalArgs_plain ?_)
  exact thn hA fun us s2 ⟨vs,H2,I2,r2,q2⟩=>hm pins s2 σ H2 x vs v us Q I2 r1 r2 q2
end
end L2
namespace L2
open PySem PySem.Spec PyProof.Rows
def MtM (X:Cx) (id:String) (r:V→List V→Hp→VK→Prop):Prop :=
  ∀ (pins:List (Addr×Obj)) (s:Shared) (σ:St) (H:Hp) (x:V) (xs:List V) (v:Value) (us:List Value) (Q:VK),Inv X pins σ H s→RelV x v→Vals xs us→r x xs H Q →
    wpAny (model X.prog X.w) X.A (call (.builtin id) (v :: us)) (EP X pins σ Q) X.xe s
theorem Vals.one:∀ {x:V} {us:List Value},Vals [x] us→∃ u,us=[u]∧RelV x u
  | _,_,.cons r .nil=>⟨_,rfl,r⟩
theorem Vals.two:∀ {x y:V} {us:List Value},Vals [x,y] us→∃ u v,us=[u,v]∧RelV x u∧RelV y v
  | _,_,_,.cons r (.cons q .nil)=>⟨_,_,rfl,r,q⟩
theorem Vals.zero:∀ {us:List Value},Vals [] us→us=[]
  | _,.nil=>rfl
theorem Vals.reverse {xs:List V} {us:List Value} (h:Vals xs us):Vals xs.reverse us.reverse:=by
  induction h with
  | nil=>exact .nil
  | cons r t ih=>rw [List.reverse_cons,List.reverse_cons]; exact Vals.append ih (.cons r .nil)
theorem Vals.rep {xs:List V} {us:List Value} (h:Vals xs us):∀ k:Nat,Vals (List.replicate k xs).flatten (List.replicate k us).flatten
  | 0=>.nil
  | k + 1=>by
    rw [List.replicate_succ,List.replicate_succ,List.flatten_cons,List.flatten_cons]
    exact Vals.append h (Vals.rep h k)
section
variable {X:Cx} {pins:List (Addr×Obj)} {σ:St} {H:Hp} {s:Shared} {l b:Addr} {xs ys zs:List V}
theorem Inv.lset {its its':List Value} {n:Nat} {f:Array Value→Array Value} {t':Nat} (I:Inv X pins σ H s) (hH:H l=some (.lst xs))
    (e:s.heap.get? l=some { cls:=.type "list",data:=.seq its.toArray n }) (hf:f its.toArray=its'.toArray) (hv:Vals ys its') (hz:ys.length≤sizeLine) :
    Inv X pins σ (upd H l (.lst ys)) { s with heap:=s.heap.update l (Obj.mapSeq f),toks:=t' }:=by
  have q:=PySem.IsL.update e f
  rw [hf] at q
  refine I.write (x:=l) (e:=l) (by rw [hH]; exact trivial) (.inl rfl) (fun b' u hb hu=>(Heap.get?_update_other s.heap (Obj.mapSeq f) (Ne.symm hb)).trans hu) ⟨_,q⟩ ?_
  exact ⟨hz,its',_,hv,q⟩
theorem Inv.fresh (I:Inv X pins σ H s):H s.heap.objs.size=none:=I.hok.fresh (Nat.le_refl _)
theorem Inv.lstM (I:Inv X pins σ H s) (hH:H l=some (.lst xs)):xs.length≤sizeLine∧∃ (its:List Value) (n:Nat),Vals xs its∧xs.length=its.length∧s.heap.get? l=some { cls:=.type "list",data:=.seq its.toArray n }:=by
  obtain ⟨z,its,n,r,e⟩:=I.hok l _ hH
  exact ⟨z,its,n,r,r.length,e⟩
end
section
variable {X:Cx}
def zaT9:V→List V→Hp→VK→Prop:=fun x vs H Q=>∃ l xs y,x=.ref l∧vs=[y]∧H l=some (.lst xs)∧xs.length < sizeLine∧Q .non (upd H l (.lst (xs++[y])))
theorem zY4:MtM X "list.append" zaT9:=by
  intro pins s σ H x vs v us Q I rx rv h
  obtain ⟨l,xs,y,rfl,rfl,hH,hz,q⟩:=h
  cases rx
  obtain ⟨u,rfl,ru⟩:=rv.one
  obtain ⟨z,its,n,r,hl,e⟩:=I.lstM hH
  refine call_meets F.slot_list_append ⟨_,e,rfl⟩ F.entry_list_append (F.args_list_append_2 _ _) (PySem.list_append l its.toArray n u (by rw [List.size_toArray]; omega)) ⟨e,?_⟩
  refine ⟨.non,_,I.lset (its':=its++[u]) hH e (by simp) (r.append (.cons ru .nil)) ?_,rfl,q⟩
  rw [List.length_append,List.length_singleton]
  omega
end
section
variable {prog:Program} {w:World} {A:Around} {E:Value→Shared→Prop} {s:Shared}
end
section
variable {X:Cx}
end
end L2
namespace Att
open PySem PySem.W PySem.Calls PyProof.Rows
theorem zab6 {P:Params} {h:Heap}:∀ (ns:List Int) (vs:List Value),WellAll P h vs (ns.map WData.int)→IntsAre vs ns:=by
  intro ns
  induction ns with
  | nil =>
    intro vs w
    rw [List.map_nil] at w
    cases w
    exact .nil
  | cons n ns ih =>
    intro vs w
    rw [List.map_cons] at w
    cases w with
    | cons a b =>
      cases a
      exact .cons _ _ (ih _ b)
theorem zaH6 {l:OpenLaw} {n:Nat} (hn:l.most=some n) {P:Params} {h:Heap} {args:List WData} {vals:List Value}
    (hpre:l.row.toRowW.claim.pre args=true) (hwl:WellAll P h vals args) :
    ∃ a vs ns,vals=[Value.ref a]∧args=[WData.list (ns.map WData.int)]∧h.get? a=some { cls:=.type "list",data:=.seq vs.toArray }∧IntsAre vs ns∧ns.length≤n:=by
  have hsh:WShape.hasAll [] args [.list .int]=true:=(pre_splitW hpre).1
  have hc:l.pre.holds [] { args:=args }=true:=(pre_splitW hpre).2
  obtain ⟨d,r,rfl,h1,h2⟩:=hasAllW_cons hsh
  obtain rfl:=hasAllW_nil h2
  obtain ⟨xs,rfl,h3⟩:=hasW_list h1
  obtain ⟨ns,rfl⟩:=items_int h3
  have hlen:ns.length≤n:=by
    unfold OpenLaw.pre at hc
    have h4:(WTm.not (.lt (.lit (.int (n:Int))) (.len (.arg 0)))).holds [] { args:=[.list (ns.map .int)] }=true:=by
      have h4:=(holds_andW hc).1
      rw [hn] at h4
      exact h4
    have h5:=condW_of h4 (w_not (w_lt w_lit (w_len_list (w_arg rfl))))
    rw [List.length_map] at h5
    refine Nat.le_of_not_lt fun q=>?_
    have q':(n:Int) < ((ns.length:Nat):Int):=by omega
    first
      | (rw [decide_eq_true q'] at h5; exact absurd h5 (by decide))
      | (simp at h5; omega)
  cases hwl with
  | cons w1 w2 =>
    cases w2
    cases w1 with
    | list ho hall=>exact ⟨_,_,ns,rfl,rfl,ho,zab6 ns _ hall,hlen⟩
theorem zaD1 (l:OpenLaw) (args:List WData):l.row.toRowW.claim.post args (.bool true) args=true :=
  postW_of (r:=l.row.toRowW) (X:=(true == true))
    (show WShape.has [] (.bool true) .bool=true by first | rfl | decide | simp [WShape.has,WShape.arms,WShape.armsAll])
    (show (WTm.eq .res (.lit (.bool true))).value [] { args:=args,res:=some (.bool true),after:=args }=some (.bool (true == true)) from w_eq_bool (w_res rfl) w_lit) rfl
theorem attach_call {l:OpenLaw} {n:Nat} {q:Program} {loose:List Str} {XP:(Str→Option Value)→Heap→Prop} {YP:World→Heap→Prop} {d:DefRec}
    (hn:l.most=some n) (hdf:d.params.defaults=[])
    (call:∀ (w:World) (s₀ s₁:Shared) (mg mb:Str→Option Value) (fa:Addr) (o:Obj) (pm cd doc:Value) (a:Addr) (vs:List Value) (ns:List Int),
      Ground q loose [] XP w s₀ mg mb s₁.heap→YP w s₁.heap →
      s₁.heap.get? fa=some o→o.data=.func (docDef d.name d.params d.body d.scope pm cd doc)→s₁.heap.CodeRec cd d.name→mg d.name=some (.ref fa) →
      s₁.heap.get? a=some { cls:=.type "list",data:=.seq vs.toArray }→IntsAre vs ns→ns.length≤n→s₁.gens=#[] →
      codeAny (model l.prog w) callerA (.call (.ref fa) ⟨[.ref a],[]⟩) (fun r s'=>r=.ok (.ret (.bool true))∧OldK s₁.heap s'.heap∧s'.os=s₁.os∧AllBare s'.gens) s₁) :
    WalkO q loose XP YP l.row.toRowW d [] (fun f vs=>PySem.call f vs):=by
  intro w s₀ s₁ mg mb G Y fa o pm cd doc dV kV ho hd hcd hD hmg hg args vals as hpre hlay hrd hwl hlo
  obtain rfl:dV=.none:=Dflts.none hD hdf
  obtain rfl:kV=.none:=Dflts.noKw hD
  obtain ⟨a,vs,ns,rfl,rfl,hobj,hints,hlen⟩:=zaH6 hn hpre hwl
  refine enter_call (codeAny_mono (call w s₀ s₁ mg mb fa o pm cd doc a vs ns G Y ho (fd_plain hd) hcd hmg hobj hints hlen hg) fun r s' hq=>?_)
  obtain ⟨rfl,h2,h3,h4⟩:=hq
  exact ⟨.inl ⟨.bool true,.bool true,[],rfl,fun _=>rfl,.bool true,zaD1 l _,fun _=>⟨List.Pairwise.nil,fun _ hm=>(nomatch hm)⟩⟩,h2,h3,h4⟩
section
variable {prog:Program} {w:World} {A:Around} {E:Value→Shared→Prop} {s:Shared} {K:Frag}
end
end Att
namespace L2
open PySem PySem.Spec PyProof.Rows
theorem zak9:∀ {vs:List Value} {ns:List Int},IntsAre vs ns→Vals (ns.map V.int) vs
  | _,_,.nil=>.nil
  | _,_,.cons n t h=>.cons ⟨t,rfl⟩ (zak9 h)
def Only (H:Hp):Prop:=∀ b,H b=none∨∃ o xs,H b=some (.frz o (.lst xs))
theorem zaM2 {P:Program} {w:World} {K:PySem.W.Frag} {mg mb:Str→Option Value} {CX:CXT} {k:Nat} {fa a:Addr} {fd:FuncData} {x:Str} {sp:Sp} {s₁:Shared} {vs:List Value} {ns:List Int}
    (KX:K.In s₁.heap) (hns:s₁.heap.Ns mainGlobals mg) (hb:s₁.heap.Ns builtinsNs mb) (hbb:∀ x:Str,x≠"__name__"→mb x=bootBuiltins x) (hlim:s₁.heap.NoLimit) (hg:s₁.gens=#[])
    (ha:s₁.heap.get? a=some { cls:=.type "list",data:=.seq vs.toArray }) (hi:IntsAre vs ns) (hl:ns.length≤sizeLine) (hr:Room k callerA)
    (F:∀ base:Heap,K.In base→base.Ns mainGlobals mg→FnOk P w K mg base CX k fa fd [x] sp) (hbind:∀ (s:Shared) (u:Value),BindsTo s fd ⟨[u],[]⟩ [(x,u)])
    (hsp:∀ H:Hp,Only H→SqL K H a (ns.map V.int)→sp [.ref a] H (fun v _=>v=.bl true) fun _ _ _=>False)
    (hCX:∀ H e s',CX [] H s₁ (fun _ _ _=>False) e s'→False) :
    codeAny (model P w) callerA (.call (.ref fa) ⟨[.ref a],[]⟩) (fun r s'=>r=.ok (.ret (.bool true))∧OldK s₁.heap s'.heap∧s'.os=s₁.os∧AllBare s'.gens) s₁:=by
  have rv:=zak9 hi
  have lenV:=hi.length
  -- from an abstract heap in which nothing but the script may be tracked
  have core:∀ H:Hp,Only H→SqL K H a (ns.map V.int)→HOk P w H s₁.heap→(∀ b,H b≠none→b=a)→(H a≠none→K.lookup a=none) →
      codeAny (model P w) callerA (.call (.ref fa) ⟨[.ref a],[]⟩) (fun r s'=>r=.ok (.ret (.bool true))∧OldK s₁.heap s'.heap∧s'.os=s₁.os∧AllBare s'.gens) s₁:=by
    intro H hO hS hok hA hK
    have base_of:∀ {b:Addr} {o:Obj},s₁.heap.get? b=some o→H b=none→(hidT s₁.heap H).get? b=some o:=fun e n=>zaM6 e n
    have noA:∀ {b:Addr} {o:Obj} {es:Array DictEntry} {ep:Nat},s₁.heap.get? b=some o→o.data=.dict es ep→H b=none:=fun {b o es ep} e d=>by
      cases q:H b with
      | none=>rfl
      | some u =>
        have e':b=a:=hA b (by rw [q]; simp)
        subst e'
        rw [ha] at e; cases e
        have d':Data.seq vs.toArray _=Data.dict es ep:=d
        cases d'
    have nsK:∀ {b:Addr} {m:Str→Option Value},s₁.heap.Ns b m→(hidT s₁.heap H).Ns b m:=fun {b m} ⟨o,es,ep,e,d,r⟩=>⟨o,es,ep,base_of e (noA e d),d,r⟩
    have hKb:K.In (hidT s₁.heap H):=fun b o e=>base_of (KX b o e) (by
      cases q:H b with
      | none=>rfl
      | some u =>
        have e':b=a:=hA b (by rw [q]; simp)
        subst e'
        rw [hK (by rw [q]; simp)] at e; cases e)
    have hM:Mod K mg (hidT s₁.heap H):=⟨hKb,nsK hns,⟨mb,nsK hb,hbb⟩,let ⟨mc,h1,h2⟩:=hlim; ⟨mc,nsK h1,h2⟩⟩
    have e0:Env0 P w K mg (hidT s₁.heap H) callerA [] s₁ H:=⟨rfl,hM,fun b o e=>zaZ8 e,Nat.le_of_eq (zaD4 _ _),trivial,fun b hb=>absurd (show b∈([]:List Addr) from hb) (by simp),hok,.of_eq hg⟩
    refine codeAny_mono ((F _ hKb (nsK hns)).run callerA [] s₁ H ⟨[.ref a],[]⟩ [.ref a] [.ref a] _ _ hr e0 (hbind s₁ (.ref a)) (.cons rfl .nil) (hsp H hO hS)) fun r s' h=>?_
    cases r with
    | error e=>exact (hCX H e s' h).elim
    | ok fl =>
      cases fl with
      | next=>exact False.elim h
      | brk=>exact False.elim h
      | cont=>exact False.elim h
      | ret u =>
        obtain ⟨v,H',os,bare,un,hok',r',q⟩:=h
        have q':v=.bl true:=q
        subst q'
        obtain rfl:u=Value.bool true:=r'
        refine ⟨rfl,OldK.of_keep fun b o e=>?_,os,bare⟩
        cases q:H b with
        | none=>exact un.keep b o e q (by intro z; exact absurd (show b∈([]:List Addr) from z) (by simp)) (by simp)
        | some u =>
          rcases hO b with z | ⟨ob,xs,z⟩
          · rw [q] at z; cases z
          · have z2:=un.frzs b ob _ z
            obtain ⟨e1,_⟩:=hok b _ z
            obtain ⟨e2,_⟩:=hok' b _ z2
            rw [e] at e1; cases e1
            exact e2
  cases hk:K.lookup a with
  | some o =>
    -- the script is one of the module's own objects
    have e:=KX a o hk
    rw [ha] at e
    cases e
    refine core (fun _=>none) (fun _=>.inl rfl) (.inr ⟨_,vs.toArray,_,hk,rfl,rfl,rfl,by rw [List.size_toArray,lenV]; exact hl,by simpa using rv⟩) (fun b u z=>by have z':(none:Option HO)=some u:=z; cases z') (fun b z=>absurd rfl z) fun z=>absurd rfl z
  | none =>
    refine core (fun b=>if b=a then some (.frz { cls:=.type "list",data:=.seq vs.toArray } (.lst (ns.map V.int))) else none) (fun b=>?_) (.inl (.inr ⟨{ cls:=.type "list",data:=.seq vs.toArray },if_pos rfl⟩)) (fun b u z=>?_) (fun b z=>?_) fun _=>hk
    · by_cases hb:b=a
      · exact .inr ⟨_,_,if_pos hb⟩
      · exact .inl (if_neg hb)
    · by_cases hb:b=a
      · have z':=(if_pos hb).symm.trans z
        cases z'
        subst hb
        exact ⟨ha,by rw [List.length_map]; exact hl,vs,_,rv,ha⟩
      · have z':=(if_neg hb).symm.trans z
        cases z'
    · by_cases hb:b=a
      · exact hb
      · exact absurd (if_neg hb) z
end L2
namespace L2
open PySem PySem.Spec PyProof.Rows
theorem walk_of {l:PySem.W.OpenLaw} {n k:Nat} {q:Program} {loose:List Str} {XP:(Str→Option Value)→Heap→Prop} {YP:World→Heap→Prop} {d:DefRec} {K:Params→PySem.W.Frag} {CX:World→CXT} {sp:World→Sp} {x:Str}
    (hn:l.most=some n) (hn2:n≤sizeLine) (hdf:d.params.defaults=[]) (hr:Room k callerA)
    (hY:∀ (w:World) (h:Heap),YP w h→(K w.params).In h)
    (F:∀ (w:World) (mg:Str→Option Value) (fa:Addr) (h:Heap),(K w.params).In h→h.Ns mainGlobals mg→mg d.name=some (.ref fa) →
      ∃ fd:FuncData,(∀ (s:Shared) (u:Value),BindsTo s fd ⟨[u],[]⟩ [(x,u)]) ∧
        ∀ base:Heap,(K w.params).In base→base.Ns mainGlobals mg→FnOk l.prog w (K w.params) mg base (CX w) k fa fd [x] (sp w))
    (hsp:∀ (w:World) (H:Hp) (a:Addr) (ns:List Int),ns.length≤n→Only H→SqL (K w.params) H a (ns.map V.int)→sp w [.ref a] H (fun v _=>v=.bl true) fun _ _ _=>False)
    (hCX:∀ (w:World) (H:Hp) (s:Shared) (e:Value) (s':Shared),CX w [] H s (fun _ _ _=>False) e s'→False) :
    PySem.W.WalkO q loose XP YP l.row.toRowW d [] (fun f vs=>PySem.call f vs):=by
  refine Att.attach_call hn hdf fun w s₀ s₁ mg mb fa o pm cd doc a vs ns G Y ho hd hcd hmg hobj hints hlen hg=>?_
  have KX:=hY w _ Y
  obtain ⟨fd,hb,hF⟩:=F w mg fa _ KX G.T.g hmg
  exact zaM2 KX G.T.g G.T.b G.T.builtins G.T.nolimit hg hobj hints (Nat.le_trans hlen hn2) hr hF hb (fun H hO hS=>hsp w H a ns hlen hO hS) fun H e s'=>hCX w H s₁ e s'
end L2
namespace L2
open PySem PySem.Spec PyProof.Rows
def zc4 (s:Stmt):Arguments:=match s with
  | .FunctionDef _ a _ _ _ _ _ _ _ _=>a
  | _=>{ posonlyargs:=[],args:=[],vararg:=none,kwonlyargs:=[],kw_defaults:=[],kwarg:=none,defaults:=[] }
def zc1 (s:Stmt):List Stmt:=match s with
  | .FunctionDef _ _ b _ _ _ _ _ _ _=>b
  | _=>[]
def za8 (s:Stmt):Scope:=match s with
  | .FunctionDef _ _ _ _ _ _ sc _ _ _=>sc
  | _=>{ kind:=.function,names:=[],isGenerator:=false,isCoroutine:=false }
abbrev CX0:CXT:=fun _ _ _ _ _ _=>False
abbrev E0:XK:=fun _ _ _=>False
theorem zbo0 {X:Cx}:zaB9 CX0 X E0:=fun _ _ _ _ _ _ _ h=>h.elim
structure Fun (K:PySem.W.Frag) (x qual:Str) (st:Stmt) (f:Addr) (fd:FuncData):Prop where
  ex:∃ (oc:Value) (od:Option Addr) (kV doc pm:Value) (an:Option Addr) (cdv ct:Value) (osl:Array (Option Value)),
    fd=PySem.W.fnOf x qual (zc4 st) (zc1 st) (za8 st) .none kV doc pm an cdv ct∧K.lookup f=some ⟨oc,od,.func fd,osl⟩∧PySem.W.codeIn K cdv qual=true
  kp:PySem.W.keepIn K (.ref f)=true
section
variable {P:Program} {w:World} {K:PySem.W.Frag} {mg:Str→Option Value} {base:Heap}
theorem Fun.ok {x qual:Str} {st:Stmt} {f:Addr} {fd:FuncData} {N ps:List Str} {k:Nat} {sp:Sp} (F:Fun K x qual st f fd) (S:FnScope N ps (za8 st)) (len:∀ vs H Q E,sp vs H Q E→vs.length=ps.length)
    (hbody:∀ (cdv:Value) (A:Around) (outer:List Env) (s:Shared) (H:Hp) (vs:List V) (Q:VK) (E:XK),Room k (A.deeper (envOfC qual (za8 st) s.heap.objs.size f cdv))→sp vs H Q E →
      ∃ t,PSs (cxOf CX0 P w K mg base N qual (za8 st) f cdv A outer s H E).nox (zc1 st) t∧t { nx:=fun _ H'=>Q .non H',rt:=Q } (start N vs) H):FnOk P w K mg base CX0 (k + 1) f fd ps sp:=by
  obtain ⟨oc,od,kV,doc,pm,an,cdv,ct,osl,rfl,lk,hcd⟩:=F.ex
  refine zbm9 lk hcd S len fun A outer s H vs Q E hr hsp=>?_
  obtain ⟨t,h,q⟩:=hbody cdv A outer s H vs Q E hr hsp
  exact ⟨t,h.nox,q⟩
theorem Fun.binds {x qual:Str} {st:Stmt} {f:Addr} {fd:FuncData} {ps:List Str} (F:Fun K x qual st f fd)
    (h:∀ (kV doc pm:Value) (an:Option Addr) (cdv ct:Value) (us:List Value),us.length=ps.length→bindArgs (PySem.W.fnOf x qual (zc4 st) (zc1 st) (za8 st) .none kV doc pm an cdv ct) ⟨us,[]⟩=pure (ps.zip us)):Binds K fd ps []:=by
  obtain ⟨oc,od,kV,doc,pm,an,cdv,ct,osl,rfl,lk,hcd⟩:=F.ex
  exact .all (h kV doc pm an cdv ct)
theorem zd3 {x qual:Str} {st:Stmt} {f:Addr} {oc:Value} {od an:Option Addr} {osl:Array (Option Value)} {kV doc pm cdv ct:Value} (l:K.lookup f=some ⟨oc,od,.func (PySem.W.fnOf x qual (zc4 st) (zc1 st) (za8 st) .none kV doc pm an cdv ct),osl⟩)
    (c:PySem.W.codeIn K cdv qual=true) (k:PySem.W.keepIn K (.ref f)=true):Fun K x qual st f (PySem.W.fnOf x qual (zc4 st) (zc1 st) (za8 st) .none kV doc pm an cdv ct):=⟨⟨oc,od,kV,doc,pm,an,cdv,ct,osl,rfl,l,c⟩,k⟩
end
section
variable {X:Cx}
end
theorem iteF {A B:Prop} (h:B):if false=true then A else B:=by
  rw [if_neg Bool.false_ne_true]
  exact h
theorem iteT {A B:Prop} (h:A):if true=true then A else B:=by
  rw [if_pos rfl]
  exact h
def Same (H H':Hp):Prop:=∀ b o,H b=some o→H' b=some o
theorem Same.refl (H:Hp):Same H H:=fun _ _ h=>h
theorem Same.trans {H H1 H2:Hp} (a:Same H H1) (b:Same H1 H2):Same H H2:=fun c o h=>b c o (a c o h)
theorem Same.free {H H':Hp} (e:Same H H') {l:Addr} (h:H' l=Option.none):H l=Option.none:=by
  cases q:H l with
  | none=>rfl
  | some o =>
    rw [e l o q] at h
    cases h
theorem Same.seq {K:PySem.W.Frag} {H H':Hp} {a:Addr} {xs:List V} (e:Same H H') (h:SqL K H a xs):SqL K H' a xs:=by
  rcases h with (h | ⟨o,h⟩) | h
  · exact .inl (.inl (e _ _ h))
  · exact .inl (.inr ⟨o,e _ _ h⟩)
  · exact .inr h
end L2
set_option Elab.async false
set_option linter.all false
set_option maxRecDepth 100000
namespace L2
open PySem PySem.Spec PyProof.Rows
section
variable {κ:Type} [DecidableEq κ]
def valV (kvs:List (κ×V)) (k:κ):Option V:=(kvs.find? fun kv=>decide (kv.1=k)).map (·.2)
def putK (kvs:List (κ×V)) (k:κ) (v:V):List (κ×V) :=
  if (kvs.any fun kv=>decide (kv.1=k))=true then kvs.map (fun kv=>if kv.1=k then (kv.1,v) else kv) else kvs++[(k,v)]
def zba9 (kvs:List (κ×V)) (k:κ):List (κ×V):=kvs.filter fun kv=>decide (kv.1≠k)
theorem zaf6 {p:κ×V} {r:List (κ×V)} {k:κ} (e:p.1=k):valV (p :: r) k=some p.2:=by simp [valV,List.find?_cons,e]
theorem zah0 {p:κ×V} {r:List (κ×V)} {k:κ} (e:¬ p.1=k):valV (p :: r) k=valV r k:=by simp [valV,List.find?_cons,e]
theorem zaw5 (k:κ):∀ kvs:List (κ×V),(kvs.any fun kv=>decide (kv.1=k))=(valV kvs k).isSome
  | []=>rfl
  | p :: r=>by
    rw [List.any_cons]
    by_cases e:p.1=k
    · simp only [zaf6 e,decide_eq_true e,Bool.true_or,Option.isSome_some]
    · rw [zah0 e,decide_eq_false e,Bool.false_or]; exact zaw5 k r
theorem RelO.isSome_eq {o:Option V} {u:Option Value} (r:RelO o u):o.isSome=u.isSome:=by
  cases o with
  | none=>cases u with
    | none=>rfl
    | some _=>exact (show False from r).elim
  | some _=>cases u with
    | none=>exact (show False from r).elim
    | some _=>rfl
theorem RelO.getD {o:Option V} {u:Option Value} {d:V} {d':Value} (r:RelO o u) (rd:RelV d d'):RelV (o.getD d) (u.getD d'):=by
  cases o with
  | none=>cases u with
    | none=>exact rd
    | some _=>exact (show False from r).elim
  | some _=>cases u with
    | none=>exact (show False from r).elim
    | some _=>exact r
theorem KV.val {kvs:List (κ×V)} {vs:List (κ×Value)} (r:KV kvs vs) (k:κ):RelO (valV kvs k) (valueAt vs k):=by
  unfold KV at r
  induction r with
  | nil=>exact True.intro
  | @cons p q ps qs h t ih =>
    obtain ⟨h1,h2⟩:=h
    by_cases e:p.1=k
    · have e':q.1=k:=h1.symm.trans e
      have b:valueAt (q :: qs) k=some q.2:=by simp [valueAt,List.find?_cons,e']
      rw [zaf6 e,b]; exact h2
    · have e':¬ q.1=k:=fun z=>e (h1.trans z)
      have b:valueAt (q :: qs) k=valueAt qs k:=by simp [valueAt,List.find?_cons,e']
      rw [zah0 e,b]; exact ih
theorem KV.any {kvs:List (κ×V)} {vs:List (κ×Value)} (r:KV kvs vs) (k:κ):(kvs.any fun kv=>decide (kv.1=k))=vs.any fun kv=>decide (kv.1=k):=by
  unfold KV at r
  induction r with
  | nil=>rfl
  | cons h t ih=>rw [List.any_cons,List.any_cons,ih,h.1]
theorem KV.repl {kvs:List (κ×V)} {vs:List (κ×Value)} (r:KV kvs vs) (k:κ) {y:V} {u:Value} (ry:RelV y u) :
    KV (kvs.map fun kv=>if kv.1=k then (kv.1,y) else kv) (vs.map fun kv=>if kv.1=k then (kv.1,u) else kv):=by
  unfold KV at r ⊢
  induction r with
  | nil=>exact .nil
  | @cons p q ps qs h t ih =>
    rw [List.map_cons,List.map_cons]
    refine .cons ?_ ih
    obtain ⟨h1,h2⟩:=h
    by_cases e:p.1=k
    · rw [if_pos e,if_pos (h1.symm.trans e)]; exact ⟨h1,ry⟩
    · rw [if_neg e,if_neg (fun z=>e (h1.trans z))]; exact ⟨h1,h2⟩
theorem KV.put {kvs:List (κ×V)} {vs:List (κ×Value)} (r:KV kvs vs) (k:κ) {y:V} {u:Value} (ry:RelV y u):KV (putK kvs k y) (stored vs k u):=by
  unfold putK stored
  rw [r.any k]
  by_cases e:(vs.any fun kv=>decide (kv.1=k))=true
  · rw [if_pos e,if_pos e]; exact r.repl k ry
  · rw [if_neg e,if_neg e]; exact Paired.snoc r ⟨rfl,ry⟩
theorem KV.drop {kvs:List (κ×V)} {vs:List (κ×Value)} (r:KV kvs vs) (k:κ):KV (zba9 kvs k) (without vs k):=by
  unfold KV at r ⊢
  unfold zba9 without
  induction r with
  | nil=>exact .nil
  | @cons p q ps qs h t ih =>
    obtain ⟨h1,h2⟩:=h
    rw [List.filter_cons,List.filter_cons]
    by_cases e:p.1=k
    · have a:¬ decide (p.1≠k)=true:=by simp [e]
      have b:¬ decide (q.1≠k)=true:=by simp [h1.symm.trans e]
      rw [if_neg a,if_neg b]; exact ih
    · have e':¬ q.1=k:=fun z=>e (h1.trans z)
      have a:decide (p.1≠k)=true:=by simp [e]
      have b:decide (q.1≠k)=true:=by simp [e']
      rw [if_pos a,if_pos b]; exact .cons ⟨h1,h2⟩ ih
theorem KV.keys {kvs:List (κ×V)} {vs:List (κ×Value)} (r:KV kvs vs):kvs.map (·.1)=vs.map (·.1):=by
  unfold KV at r
  induction r with
  | nil=>rfl
  | cons h t ih=>rw [List.map_cons,List.map_cons,ih,h.1]
theorem KV.length {kvs:List (κ×V)} {vs:List (κ×Value)} (r:KV kvs vs):kvs.length=vs.length:=Paired.length r
end
theorem zaL6 {P:Program} {w:World} {k:Key} {u:Value} (r:RelV (kV k) u):(zg6 P w).is k u=true:=by
  cases k with
  | inl i=>obtain ⟨t,e⟩:=(show ∃ t,u=Value.int i t from r); subst e; exact zao4 P w i t
  | inr x=>obtain ⟨t,e⟩:=(show ∃ t,u=Value.str x t from r); subst e; exact zaq7 P w x t
theorem zab2 {P:Program} {w:World}:∀ {ks:List Key} {us:List Value},Vals (ks.map kV) us→ItemsAre (zg6 P w) ks us
  | [],_,r=>by rw [List.map_nil] at r; cases r; exact .nil
  | k :: ks,_,r=>by
    rw [List.map_cons] at r
    cases r with
    | cons h t=>exact .cons (zaL6 h) (zab2 t)
abbrev KT (H:Hp):List (List Key×V)→List (List Key×Addr×Value)→Prop:=Paired fun p q=>p.1=q.1∧H q.2.1=some (.tup (p.1.map kV))∧RelV p.2 q.2.2
theorem KT.val {H:Hp} {kvs:List (List Key×V)} {xs:List (List Key×Addr×Value)} (r:KT H kvs xs) (k:List Key):RelO (valV kvs k) ((atKey xs k).map (·.2)):=by
  induction r with
  | nil=>exact True.intro
  | @cons p q ps qs h t ih =>
    obtain ⟨h1,_,h2⟩:=h
    by_cases e:p.1=k
    · have e':q.1=k:=h1.symm.trans e
      have b:atKey (q :: qs) k=some q.2:=by simp [atKey,List.find?_cons,e']
      rw [zaf6 e,b]; exact h2
    · have e':¬ q.1=k:=fun z=>e (h1.trans z)
      have b:atKey (q :: qs) k=atKey qs k:=by simp [atKey,List.find?_cons,e']
      rw [zah0 e,b]; exact ih
theorem KT.repl {H:Hp} {kvs:List (List Key×V)} {xs:List (List Key×Addr×Value)} (r:KT H kvs xs) (k:List Key) {y:V} {u:Value} (ry:RelV y u) :
    KT H (kvs.map fun kv=>if kv.1=k then (kv.1,y) else kv) (xs.map (putAt k u)):=by
  induction r with
  | nil=>exact .nil
  | @cons p q ps qs h t ih =>
    rw [List.map_cons,List.map_cons]
    refine .cons ?_ ih
    obtain ⟨h1,h2,h3⟩:=h
    unfold putAt
    by_cases e:p.1=k
    · rw [if_pos e,if_pos (h1.symm.trans e)]; exact ⟨h1,h2,ry⟩
    · rw [if_neg e,if_neg (fun z=>e (h1.trans z))]; exact ⟨h1,h2,h3⟩
theorem KT.put {H:Hp} {kvs:List (List Key×V)} {xs:List (List Key×Addr×Value)} (r:KT H kvs xs) (k:List Key) {b:Addr} {y:V} {u:Value} (hb:H b=some (.tup (k.map kV))) (ry:RelV y u) :
    KT H (putK kvs k y) (storedH xs k b u):=by
  have e:(kvs.any fun kv=>decide (kv.1=k))=(atKey xs k).isSome:=by
    rw [zaw5,(r.val k).isSome_eq,Option.isSome_map]
  unfold putK storedH
  rw [e]
  by_cases q:(atKey xs k).isSome=true
  · rw [if_pos q,if_pos q]; exact r.repl k ry
  · rw [if_neg q,if_neg q]; exact Paired.snoc r ⟨rfl,hb,ry⟩
theorem KT.keeps {H H':Hp} {kvs:List (List Key×V)} {xs:List (List Key×Addr×Value)} (r:KT H kvs xs) (ht:∀ b ys,H b=some (.tup ys)→H' b=some (.tup ys)):KT H' kvs xs :=
  Paired.mapP r fun _ _ z=>⟨z.1,ht _ _ z.2.1,z.2.2⟩
section
variable {P:Program} {w:World} {H:Hp} {h:Heap} {a:Addr}
theorem zbe5 {u:HO} (ok:HOk P w H h) (e:Rd H a u):ObjOk P w H h a u:=e.ok ok
theorem zbb8 {kvs:List (Key×V)} (ok:HOk P w H h) (e:Rd H a (.dK kvs)):kvs.length≤sizeLine∧(a == sysModules)=false∧∃ vs,KV kvs vs∧h.DictOf (zg6 P w) a vs :=
  show ObjOk P w H h a (.dK kvs) from zbe5 ok e
theorem zaS0 {ks:List Key} (ok:HOk P w H h) (e:H a=some (.tup (ks.map kV))):(tupleKind (zg6 P w)).is h ks a:=by
  obtain ⟨_,its,r,o,h1,h2,n,h3⟩:=(show ObjOk P w H h a (.tup (ks.map kV)) from ok a _ e)
  exact ⟨o,its.toArray,n,h1,h2,h3,by simpa using zab2 r⟩
theorem zbe8 {kvs:List (List Key×V)} (ok:HOk P w H h) (e:Rd H a (.dT kvs)):kvs.length≤sizeLine∧(a == sysModules)=false ∧
    ∃ xs,KT H kvs xs∧h.DictOfH (tupleKind (zg6 P w)) a xs:=by
  obtain ⟨z,y,xs,r,o,es,ep,h1,h2,h3,h4,h5⟩:=(show ObjOk P w H h a (.dT kvs) from zbe5 ok e)
  refine ⟨z,y,xs,r,o,es,ep,h1,h2,h3,h4,fun x hx=>?_,h5⟩
  have all:∀ {l:List (List Key×V)} {m:List (List Key×Addr×Value)},KT H l m→∀ x∈m,(tupleKind (zg6 P w)).is h x.1 x.2.1:=by
    intro l m q
    induction q with
    | nil=>intro x hx; exact nomatch hx
    | @cons p q ps qs hq t ih =>
      intro x hx
      rcases List.mem_cons.mp hx with e | hx
      · subst e
        exact zaS0 ok (by rw [← hq.1]; exact hq.2.1)
      · exact ih x hx
  exact all r x hx
end
def DGet (H:Hp) (a:Addr) (y:V) (r:Option V):Prop :=
  (∃ kvs k,Rd H a (.dK kvs)∧y=kV k∧r=valV kvs k)∨∃ kvs k b,Rd H a (.dT kvs)∧y=.ref b∧H b=some (.tup (k.map kV))∧r=valV kvs k
def DPut (H:Hp) (a:Addr) (y v:V) (H':Hp):Prop :=
  (∃ kvs k,H a=some (.dK kvs)∧y=kV k∧kvs.length < sizeLine∧H'=upd H a (.dK (putK kvs k v))) ∨
  ∃ kvs k b,H a=some (.dT kvs)∧y=.ref b∧H b=some (.tup (k.map kV))∧kvs.length < sizeLine∧H'=upd H a (.dT (putK kvs k v))
theorem DGet.k {H:Hp} {a:Addr} {kvs:List (Key×V)} {k:Key} (e:H a=some (.dK kvs)):DGet H a (kV k) (valV kvs k):=.inl ⟨kvs,k,.inl e,rfl,rfl⟩
theorem DGet.t {H:Hp} {a b:Addr} {kvs:List (List Key×V)} {k:List Key} (e:H a=some (.dT kvs)) (eb:H b=some (.tup (k.map kV))):DGet H a (.ref b) (valV kvs k):=.inr ⟨kvs,k,b,.inl e,rfl,eb,rfl⟩
theorem DPut.k {H:Hp} {a:Addr} {kvs:List (Key×V)} {k:Key} {v:V} (e:H a=some (.dK kvs)) (hl:kvs.length < sizeLine):DPut H a (kV k) v (upd H a (.dK (putK kvs k v))):=.inl ⟨kvs,k,e,rfl,hl,rfl⟩
theorem DPut.t {H:Hp} {a b:Addr} {kvs:List (List Key×V)} {k:List Key} {v:V} (e:H a=some (.dT kvs)) (eb:H b=some (.tup (k.map kV))) (hl:kvs.length < sizeLine) :
    DPut H a (.ref b) v (upd H a (.dT (putK kvs k v))):=.inr ⟨kvs,k,b,e,rfl,eb,hl,rfl⟩
section
variable {X:Cx} {pins:List (Addr×Obj)} {σ:St} {H:Hp} {s:Shared} {a:Addr} {y v:V} {u r:Value} {o:Option V} {A:Around} {E:Value→Shared→Prop}
theorem Inv.big (I:Inv X pins σ H s):sysModules < s.heap.objs.size:=by
  have h:mainGlobals < s.heap.objs.size:=(I.mod.glob.keeps I.bk).lt
  exact Nat.lt_trans (by decide) h
theorem zaF4 {Q:Value→Shared→Prop} (hu:A.units + 1 < cLine) (I:Inv X pins σ H s) (g:DGet H a y (some v)) (ry:RelV y u) (h:∀ w' s',Inv X pins σ H s'→RelV v w'→Q w' s') :
    wpAny (model X.prog X.w) A (getItem (.ref a) u) Q E s:=by
  rcases g with ⟨kvs,k,e,ey,l⟩ | ⟨kvs,k,b,e,ey,eb,l⟩
  · subst ey
    obtain ⟨z,hd,vs,rel,dd⟩:=zbb8 I.hok e
    obtain ⟨w',hw,rw'⟩:=RelO.some_of (v:=v) (o:=valueAt vs k) (by rw [l]; exact rel.val k)
    exact wpAny_getItem_of (zaL6 ry) dd.mapOf hw (h w' _ (I.tok _) rw')
  · subst ey
    cases (show u=Value.ref b from ry)
    obtain ⟨z,hd,xs,rel,dd⟩:=zbe8 I.hok e
    obtain ⟨w',hw,rw'⟩:=RelO.some_of (v:=v) (o:=(atKey xs k).map (·.2)) (by rw [l]; exact rel.val k)
    obtain ⟨p,hp,hp2⟩:=Option.map_eq_some_iff.mp hw
    refine wpAny_getItem_heap (tupleKind_room_in1 hu) (zaS0 I.hok eb) dd hp ?_
    rw [hp2]
    exact h w' _ (I.tok _) rw'
end
section
variable {X:Cx} {pins:List (Addr×Obj)} {σ:St} {H:Hp} {s:Shared} {a:Addr} {kvs:List (Key×V)} {k:Key} {u:Value} {A:Around} {E:Value→Shared→Prop}
end
def NoSl (i:Expr):Prop:=∀ ov iv,subscripted i false ov iv=operate [ov,iv] (getItem ov iv)
theorem zaE2 {prog:Program} {w:World} {A:Around} {E:Value→Shared→Prop} {s:Shared} {env:Env} {value slice:Expr} {pos:Pos} {T id:String} {Q:Value→Shared→Prop}
    (hl:typeLookup (.type T) "__getitem__"=pure (some (.builtin id))) (hs:NoSl slice)
    (h:wpAny (model prog w) A (eval value env) (fun o s₁=>wpAny (model prog w) A (eval slice env) (fun i s₂=>s₂.TypeIs o T∧wpAny (model prog w) A (getItem o i) Q E s₂) E s₁) E s) :
    wpAny (model prog w) A (eval (.Subscript value slice pos) env) Q E s:=by
  refine Subscript_ (wpAny_mono h (fun o s₁ h₁=>wpAny_mono h₁ (fun i s₂ h₂=>?_) fun _ _ x=>x) fun _ _ x=>x)
  obtain ⟨hT,h₂⟩:=h₂
  unfold subscriptTail
  refine wpAny_bind ?_
  rw [getitemInPython_of_ne hT.not_modules]
  refine wpAny_bind (wpAny_specialOf hT hl ?_)
  have fin:wpAny (model prog w) A (subscripted slice false o i) (fun r s₃=>wpAny (model prog w) A (letTemporaryGo value o r>>=fun _=>pure r) Q E s₃) E s₂:=by
    rw [hs o i]
    exact wpAny_operating (wpAny_mono h₂ (fun r s₃ h₃=>wpAny_bind (wpAny_letTemporaryGo (wpAny_pure h₃))) fun _ _ x=>x)
  first
    | exact wpAny_pure (wpAny_bind fin)
    | exact wpAny_bind (wpAny_pure (wpAny_bind fin))
    | exact wpAny_bind fin
theorem zaq1 {X:Cx} {pins:List (Addr×Obj)} {σ:St} {H:Hp} {s:Shared} {a:Addr} {y:V} {o:Option V} (I:Inv X pins σ H s) (g:DGet H a y o):s.TypeIs (.ref a) "dict":=by
  rcases g with ⟨kvs,k,e,_,_⟩ | ⟨kvs,k,b,e,_,_,_⟩
  · obtain ⟨_,_,vs,_,dd⟩:=zbb8 I.hok e
    exact dd.typeIs
  · obtain ⟨_,_,xs,_,dd⟩:=zbe8 I.hok e
    exact dd.typeIs
def zbn5 (td ty:TE):TE:=fun σ H Q=>td σ H fun x H1=>ty σ H1 fun y H2=>∃ a v,x=.ref a∧DGet H2 a y (some v)∧Q v H2
section
variable {X:Cx} {o i e value:Expr} {pos pos' tpos:Pos} {td ty tv:TE}
theorem zaZ1 (hu:X.A.units + 1 < cLine) (ho:PE X o td) (hi:PE X i ty) (hs:NoSl i):PE X (.Subscript o i pos) (zbn5 td ty):=by
  intro pins s σ H Q I h
  refine zaE2 PySem.F.slot_dict_getitem.lookup hs (thn (ho pins s σ H _ I h) fun u s1 ⟨x,H1,I1,rx,q1⟩=>thn (hi pins s1 σ H1 _ I1 q1) fun iv s2 ⟨y,H2,I2,ry,a,v,ex,g,q2⟩=>?_)
  subst ex
  obtain rfl:u=Value.ref a:=rx
  exact ⟨zaq1 I2 g,zaF4 hu I2 g ry fun w' s3 I3 rw'=>⟨v,H2,I3,rw',q2⟩⟩
end
section
variable {X:Cx} {pos:Pos}
end
section
variable {X:Cx} {pins:List (Addr×Obj)} {σ:St} {H:Hp} {s:Shared} {a:Addr} {y d:V} {u r:Value} {o:Option V} {A:Around} {E:Value→Shared→Prop}
end
section
variable {X:Cx} {o e f:Expr} {apos cpos:Pos} {td ty tx:TE}
end
section
variable {X:Cx} {pins:List (Addr×Obj)} {σ:St} {H:Hp} {s:Shared} {a:Addr} {kvs:List (Key×V)} {A:Around} {E:Value→Shared→Prop}
end
section
variable {X:Cx} {pins:List (Addr×Obj)} {σ:St} {H:Hp} {s:Shared} {a:Addr} {y:V} {u:Value} {A:Around} {E:Value→Shared→Prop}
end
end L2
set_option Elab.async false
set_option linter.all false
set_option maxRecDepth 100000
set_option maxHeartbeats 4000000
namespace DL
open PySem PySem.Spec PyProof.Rows L2
inductive D where
  | dat (p:PyData)
  | cel (a:Addr)
inductive Cel where
  | l (xs:List PyData)
  | d (kvs:List (Key×PyData))
  | t (kvs:List (List Key×PyData))
abbrev Mu:=Addr→Option Cel
abbrev St2:=List (Option D)
mutual
def RP (K:PySem.W.Frag) (Z:Addr→Prop) (m:Mu) (H:Hp):PyData→V→Prop
  | .none,v=>v=.non
  | .bool b,v=>v=.bl b
  | .int i,v=>v=.int i
  | .str x,v=>v=.str x
  | .tuple xs,v=>∃ a vs,v=.ref a∧SqT K H a vs∧RPs K Z m H xs vs
  | .list xs,v=>∃ a vs,v=.ref a∧(m a=none∧¬ Z a)∧SqL K H a vs∧RPs K Z m H xs vs
  | .dict _,_=>False
def RPs (K:PySem.W.Frag) (Z:Addr→Prop) (m:Mu) (H:Hp):List PyData→List V→Prop
  | [],vs=>vs=[]
  | x :: xs,vs=>∃ v r,vs=v :: r∧RP K Z m H x v∧RPs K Z m H xs r
end
def RD (K:PySem.W.Frag) (Z:Addr→Prop) (m:Mu) (H:Hp):D→V→Prop
  | .dat p,v=>RP K Z m H p v
  | .cel a,v=>v=.ref a∧(m a).isSome=true
def RDs (K:PySem.W.Frag) (Z:Addr→Prop) (m:Mu) (H:Hp):List D→List V→Prop
  | [],vs=>vs=[]
  | x :: xs,vs=>∃ v r,vs=v :: r∧RD K Z m H x v∧RDs K Z m H xs r
def RKV {κ:Type} (K:PySem.W.Frag) (Z:Addr→Prop) (m:Mu) (H:Hp):List (κ×PyData)→List (κ×V)→Prop
  | [],vs=>vs=[]
  | (k,p) :: xs,vs=>∃ v r,vs=(k,v) :: r∧RP K Z m H p v∧RKV K Z m H xs r
def RC (K:PySem.W.Frag) (Z:Addr→Prop) (m:Mu) (H:Hp):Cel→HO→Prop
  | .l xs,.lst vs=>RPs K Z m H xs vs
  | .d kvs,.dK vs=>RKV K Z m H kvs vs
  | .t kvs,.dT vs=>RKV K Z m H kvs vs
  | _,_=>False
structure Ok (K:PySem.W.Frag) (Z:Addr→Prop) (m:Mu) (H:Hp):Prop where
  g:∀ a c,m a=some c→∃ o,H a=some o∧RC K Z m H c o
  z:∀ a,Z a→m a=none∧H a≠none
structure Ext (K:PySem.W.Frag) (Z:Addr→Prop) (m:Mu) (H:Hp) (m':Mu) (H':Hp):Prop where
  t:∀ a vs,SqT K H a vs→SqT K H' a vs
  l:∀ a vs,(m a=none∧¬ Z a)→SqL K H a vs→m' a=none∧SqL K H' a vs
  z:∀ a,Z a→H' a=H a
  c:∀ a,(m a).isSome=true→(m' a).isSome=true
section
variable {K:PySem.W.Frag} {Z:Addr→Prop} {m m' m2:Mu} {H H' H2:Hp}
theorem Ext.refl:Ext K Z m H m H:=⟨fun _ _ h=>h,fun _ _ h1 h2=>⟨h1.1,h2⟩,fun _ _=>rfl,fun _ h=>h⟩
theorem Ext.trans (a:Ext K Z m H m' H') (b:Ext K Z m' H' m2 H2):Ext K Z m H m2 H2 :=
  ⟨fun x vs h=>b.t x vs (a.t x vs h),fun x vs h1 h2=>let ⟨q1,q2⟩:=a.l x vs h1 h2; b.l x vs ⟨q1,h1.2⟩ q2,fun x h=>(b.z x h).trans (a.z x h),fun x h=>b.c x (a.c x h)⟩
mutual
theorem RP.ext (e:Ext K Z m H m' H'):∀ (p:PyData) (v:V),RP K Z m H p v→RP K Z m' H' p v
  | .none,v,h=>by simpa only [RP] using h
  | .bool _,v,h=>by simpa only [RP] using h
  | .int _,v,h=>by simpa only [RP] using h
  | .str _,v,h=>by simpa only [RP] using h
  | .tuple xs,v,h=>by
    simp only [RP] at h ⊢
    obtain ⟨a,vs,h1,h2,h3⟩:=h
    exact ⟨a,vs,h1,e.t a vs h2,RPs.ext e xs vs h3⟩
  | .list xs,v,h=>by
    simp only [RP] at h ⊢
    obtain ⟨a,vs,h1,h2,h3,h4⟩:=h
    obtain ⟨q1,q2⟩:=e.l a vs h2 h3
    exact ⟨a,vs,h1,⟨q1,h2.2⟩,q2,RPs.ext e xs vs h4⟩
  | .dict _,v,h=>by simp only [RP] at h
theorem RPs.ext (e:Ext K Z m H m' H'):∀ (xs:List PyData) (vs:List V),RPs K Z m H xs vs→RPs K Z m' H' xs vs
  | [],vs,h=>by simpa only [RPs] using h
  | x :: xs,vs,h=>by
    simp only [RPs] at h ⊢
    obtain ⟨v,r,h1,h2,h3⟩:=h
    exact ⟨v,r,h1,RP.ext e x v h2,RPs.ext e xs r h3⟩
end
theorem RD.ext (e:Ext K Z m H m' H') {d:D} {v:V} (h:RD K Z m H d v):RD K Z m' H' d v:=by
  cases d with
  | dat p=>exact RP.ext e p v h
  | cel a=>exact ⟨h.1,e.c a h.2⟩
theorem RDs.ext (e:Ext K Z m H m' H'):∀ {xs:List D} {vs:List V},RDs K Z m H xs vs→RDs K Z m' H' xs vs
  | [],_,h=>h
  | _ :: _,_,⟨v,r,h1,h2,h3⟩=>⟨v,r,h1,h2.ext e,RDs.ext e h3⟩
theorem RKV.lift {κ:Type} {Z':Addr→Prop} (tr:∀ p v,RP K Z m H p v→RP K Z' m' H' p v):∀ {xs:List (κ×PyData)} {vs:List (κ×V)},RKV K Z m H xs vs→RKV K Z' m' H' xs vs
  | [],_,h=>h
  | _ :: _,_,⟨v,r,h1,h2,h3⟩=>⟨v,r,h1,tr _ _ h2,RKV.lift tr h3⟩
theorem RPs.lift {Z':Addr→Prop} (tr:∀ p v,RP K Z m H p v→RP K Z' m' H' p v):∀ {ps:List PyData} {vs:List V},RPs K Z m H ps vs→RPs K Z' m' H' ps vs
  | [],_,h=>by simpa only [RPs] using h
  | _ :: _,_,h=>by
    simp only [RPs] at h ⊢
    obtain ⟨v,r,h1,h2,h3⟩:=h
    exact ⟨v,r,h1,tr _ _ h2,RPs.lift tr h3⟩
theorem RC.lift {Z':Addr→Prop} {c:Cel} {o:HO} (tr:∀ p v,RP K Z m H p v→RP K Z' m' H' p v) (h:RC K Z m H c o):RC K Z' m' H' c o:=by
  cases c <;> cases o <;> first | exact RPs.lift tr h | exact RKV.lift tr h | exact h
theorem RC.ext {c:Cel} {o:HO} (e:Ext K Z m H m' H') (h:RC K Z m H c o):RC K Z m' H' c o:=h.lift fun p v q=>RP.ext e p v q
theorem RC.mut {c:Cel} {o:HO} (h:RC K Z m H c o):(∀ xs,o≠.tup xs)∧(∀ a b,o≠.frz a b):=by
  cases c <;> cases o <;> first | exact h.elim | exact ⟨fun _ e=>(nomatch e),fun _ _ e=>(nomatch e)⟩
theorem Ok.l {a:Addr} {xs:List PyData} (ok:Ok K Z m H) (h:m a=some (.l xs)):∃ vs,H a=some (.lst vs)∧RPs K Z m H xs vs:=by
  obtain ⟨o,h1,h2⟩:=ok.g a _ h
  cases o <;> first | exact ⟨_,h1,h2⟩ | exact h2.elim
theorem Ok.d {a:Addr} {xs:List (Key×PyData)} (ok:Ok K Z m H) (h:m a=some (.d xs)):∃ vs,H a=some (.dK vs)∧RKV K Z m H xs vs:=by
  obtain ⟨o,h1,h2⟩:=ok.g a _ h
  cases o <;> first | exact ⟨_,h1,h2⟩ | exact h2.elim
theorem Ok.t {a:Addr} {xs:List (List Key×PyData)} (ok:Ok K Z m H) (h:m a=some (.t xs)):∃ vs,H a=some (.dT vs)∧RKV K Z m H xs vs:=by
  obtain ⟨o,h1,h2⟩:=ok.g a _ h
  cases o <;> first | exact ⟨_,h1,h2⟩ | exact h2.elim
theorem RPs.length:∀ {xs:List PyData} {vs:List V},RPs K Z m H xs vs→vs.length=xs.length
  | [],_,h=>by simp only [RPs] at h; subst h; rfl
  | _ :: xs,_,h=>by
    simp only [RPs] at h
    obtain ⟨v,r,h1,_,h3⟩:=h
    subst h1
    rw [List.length_cons,List.length_cons,RPs.length h3]
theorem RDs.length:∀ {xs:List D} {vs:List V},RDs K Z m H xs vs→vs.length=xs.length
  | [],_,h=>by cases (show _=[] from h); rfl
  | _ :: xs,_,⟨v,r,h1,_,h3⟩=>by
    subst h1
    rw [List.length_cons,List.length_cons,RDs.length h3]
theorem RPs.get:∀ {xs:List PyData} {vs:List V} {i:Nat} {p:PyData},RPs K Z m H xs vs→xs[i]?=some p→∃ v,vs[i]?=some v∧RP K Z m H p v
  | [],_,_,_,_,e=>by simp at e
  | x :: xs,_,0,p,h,e=>by
    simp only [RPs] at h
    obtain ⟨v,r,h1,h2,_⟩:=h
    simp at e
    subst h1 e
    exact ⟨v,rfl,h2⟩
  | x :: xs,_,i + 1,p,h,e=>by
    simp only [RPs] at h
    obtain ⟨v,r,h1,_,h3⟩:=h
    obtain ⟨u,q1,q2⟩:=RPs.get (i:=i) (p:=p) h3 (by simpa using e)
    subst h1
    exact ⟨u,by simpa using q1,q2⟩
theorem RPs.set:∀ {xs:List PyData} {vs:List V} {i:Nat} {p:PyData} {v:V},RPs K Z m H xs vs→RP K Z m H p v→RPs K Z m H (xs.set i p) (vs.set i v)
  | [],_,_,_,_,h,_=>by simp only [RPs] at h; subst h; simp [RPs]
  | x :: xs,_,0,p,v,h,q=>by
    simp only [RPs] at h
    obtain ⟨w,r,h1,_,h3⟩:=h
    subst h1
    simp only [List.set_cons_zero,RPs]
    exact ⟨v,r,rfl,q,h3⟩
  | x :: xs,_,i + 1,p,v,h,q=>by
    simp only [RPs] at h
    obtain ⟨w,r,h1,h2,h3⟩:=h
    subst h1
    simp only [List.set_cons_succ,RPs]
    exact ⟨w,_,rfl,h2,RPs.set h3 q⟩
theorem RPs.append:∀ {xs ys:List PyData} {vs ws:List V},RPs K Z m H xs vs→RPs K Z m H ys ws→RPs K Z m H (xs++ys) (vs++ws)
  | [],_,_,_,h,q=>by simp only [RPs] at h; subst h; simpa using q
  | x :: xs,_,_,_,h,q=>by
    simp only [RPs] at h
    obtain ⟨w,r,h1,h2,h3⟩:=h
    subst h1
    simp only [List.cons_append,RPs]
    exact ⟨w,_,rfl,h2,RPs.append h3 q⟩
theorem RPs.drop:∀ {xs:List PyData} {vs:List V} (n:Nat),RPs K Z m H xs vs→RPs K Z m H (xs.drop n) (vs.drop n)
  | _,_,0,h=>by simpa using h
  | [],_,n + 1,h=>by simp only [RPs] at h; subst h; simp [RPs]
  | x :: xs,_,n + 1,h=>by
    simp only [RPs] at h
    obtain ⟨w,r,h1,h2,h3⟩:=h
    subst h1
    simpa using RPs.drop n h3
theorem RPs.take:∀ {xs:List PyData} {vs:List V} (n:Nat),RPs K Z m H xs vs→RPs K Z m H (xs.take n) (vs.take n)
  | _,_,0,h=>by simp [RPs]
  | [],_,n + 1,h=>by simp only [RPs] at h; subst h; simp [RPs]
  | x :: xs,_,n + 1,h=>by
    simp only [RPs] at h
    obtain ⟨w,r,h1,h2,h3⟩:=h
    subst h1
    simp only [List.take_succ_cons,RPs]
    exact ⟨w,_,rfl,h2,RPs.take n h3⟩
theorem RPs.reverse:∀ {xs:List PyData} {vs:List V},RPs K Z m H xs vs→RPs K Z m H xs.reverse vs.reverse
  | [],_,h=>by simp only [RPs] at h; subst h; simp [RPs]
  | x :: xs,_,h=>by
    simp only [RPs] at h
    obtain ⟨w,r,h1,h2,h3⟩:=h
    subst h1
    rw [List.reverse_cons,List.reverse_cons]
    exact (RPs.reverse h3).append (by simp only [RPs]; exact ⟨w,[],rfl,h2,rfl⟩)
@[simp] def pds:List D→Option (List PyData)
  | []=>some []
  | .dat p :: r=>(pds r).map (p :: ·)
  | .cel _ :: _=>none
theorem RDs.pds:∀ {xs:List D} {vs:List V} {ps:List PyData},RDs K Z m H xs vs→DL.pds xs=some ps→RPs K Z m H ps vs
  | [],vs,ps,h,e=>by
    cases (show vs=[] from h)
    cases (show some []=some ps from e)
    simp [RPs]
  | .dat p :: r,vs,ps,⟨v,w,h1,h2,h3⟩,e=>by
    simp only [DL.pds] at e
    cases q:DL.pds r with
    | none=>rw [q] at e; cases e
    | some qs =>
      rw [q] at e
      cases e
      simp only [RPs]
      exact ⟨v,w,h1,h2,RDs.pds h3 q⟩
  | .cel a :: r,_,_,_,e=>by simp only [DL.pds] at e; cases e
theorem SqT.same {a:Addr} {xs:List V} (e:Same H H') (h:SqT K H a xs):SqT K H' a xs:=by
  rcases h with (h | ⟨o,h⟩) | h
  · exact .inl (.inl (e _ _ h))
  · exact .inl (.inr ⟨o,e _ _ h⟩)
  · exact .inr h
theorem Ext.grow (s:Same H H') (hz:∀ a,Z a→H a≠none):Ext K Z m H m H':=⟨fun _ _ h=>SqT.same s h,fun _ _ h1 h2=>⟨h1.1,s.seq h2⟩,fun a h=>by
  cases q:H a with
  | none=>exact absurd q (hz a h)
  | some o=>exact s a o q,fun _ h=>h⟩
theorem Ok.grow (s:Same H H') (ok:Ok K Z m H):Ok K Z m H':=by
  have e:Ext K Z m H m H':=Ext.grow s fun a h=>(ok.z a h).2
  refine ⟨fun a c h=>?_,fun a h=>⟨(ok.z a h).1,by rw [e.z a h]; exact (ok.z a h).2⟩⟩
  obtain ⟨o,h1,h2⟩:=ok.g a c h
  exact ⟨o,s _ _ h1,h2.ext e⟩
theorem Ok.ext (s:Same H H') (ok:Ok K Z m H):Ext K Z m H m H':=Ext.grow s fun a h=>(ok.z a h).2
theorem zf9 {p:Addr} {o:HO} (h:H p=none):Same H (upd H p o):=fun b u q=>by rw [zd6 (zt8 q h)]; exact q
def updM (m:Mu) (a:Addr) (c:Cel):Mu:=fun b=>if b=a then some c else m b
theorem zd0 {a:Addr} {c:Cel}:updM m a c a=some c:=by unfold updM; rw [if_pos rfl]
theorem zi7 {a b:Addr} {c:Cel} (h:b≠a):updM m a c b=m b:=by unfold updM; rw [if_neg h]
theorem zab1 {a:Addr} {x y:Cel}:updM (updM m a x) a y=updM m a y:=by funext b; unfold updM; split <;> rfl
theorem SqL.ne {p a:Addr} {xs:List V} (hp:H p=none) (hk:K.lookup p=none) (h:SqL K H a xs):a≠p:=by
  rintro rfl
  rcases h with (h | ⟨o,h⟩) | ⟨o,_,_,h,_⟩
  · rw [hp] at h; cases h
  · rw [hp] at h; cases h
  · rw [hk] at h; cases h
theorem Ext.cell {p:Addr} {o:HO} {c:Cel} (ok:Ok K Z m H) (hp:H p=none) (hk:K.lookup p=none):Ext K Z m H (updM m p c) (upd H p o):=by
  refine ⟨fun _ _ h=>SqT.same (zf9 hp) h,fun a xs h1 h2=>?_,fun a h=>?_,fun a h=>?_⟩
  · have ne:=SqL.ne hp hk h2
    exact ⟨by rw [zi7 ne]; exact h1.1,(zf9 hp).seq h2⟩
  · have ne:a≠p:=fun e=>(ok.z a h).2 (by rw [e]; exact hp)
    exact zd6 ne
  · by_cases e:a=p
    · subst e; rw [zd0]; rfl
    · rw [zi7 e]; exact h
theorem Ok.updC {p:Addr} {o:HO} {c:Cel} (ok:Ok K Z m H) (hz:¬ Z p) (e:Ext K Z m H (updM m p c) (upd H p o)) (r:RC K Z m H c o):Ok K Z (updM m p c) (upd H p o):=by
  refine ⟨fun a x h=>?_,fun a h=>?_⟩
  · by_cases q:a=p
    · subst q
      rw [zd0] at h
      cases h
      exact ⟨o,zf4,r.ext e⟩
    · rw [zi7 q] at h
      obtain ⟨w,h1,h2⟩:=ok.g a x h
      exact ⟨w,by rw [zd6 q]; exact h1,h2.ext e⟩
  · have ne:a≠p:=fun e=>hz (e ▸ h)
    exact ⟨by rw [zi7 ne]; exact (ok.z a h).1,by rw [zd6 ne]; exact (ok.z a h).2⟩
theorem Ok.cell {p:Addr} {o:HO} {c:Cel} (ok:Ok K Z m H) (hp:H p=none) (hk:K.lookup p=none) (r:RC K Z m H c o):Ok K Z (updM m p c) (upd H p o) :=
  ok.updC (fun h=>(ok.z p h).2 hp) (Ext.cell ok hp hk) r
theorem Ext.put {a:Addr} {o o0:HO} {c c0:Cel} (ok:Ok K Z m H) (hm:m a=some c0) (hH:H a=some o0):Ext K Z m H (updM m a c) (upd H a o):=by
  have mu:(∀ xs,o0≠.tup xs)∧(∀ a b,o0≠.frz a b):=by
    obtain ⟨w,h1,h2⟩:=ok.g a c0 hm
    rw [hH] at h1
    cases h1
    exact h2.mut
  refine ⟨fun b xs h=>?_,fun b xs h1 h2=>?_,fun b h=>?_,fun b h=>?_⟩
  · rcases h with (h | ⟨w,h⟩) | h
    · have ne:b≠a:=by rintro rfl; rw [hH] at h; cases h; exact absurd rfl (mu.1 _)
      exact .inl (.inl (by rw [zd6 ne]; exact h))
    · have ne:b≠a:=by rintro rfl; rw [hH] at h; cases h; exact absurd rfl (mu.2 _ _)
      exact .inl (.inr ⟨w,by rw [zd6 ne]; exact h⟩)
    · exact .inr h
  · have ne:b≠a:=by rintro rfl; rw [hm] at h1; cases h1.1
    refine ⟨by rw [zi7 ne]; exact h1.1,?_⟩
    rcases h2 with (h | ⟨w,h⟩) | h
    · exact .inl (.inl (by rw [zd6 ne]; exact h))
    · exact .inl (.inr ⟨w,by rw [zd6 ne]; exact h⟩)
    · exact .inr h
  · have ne:b≠a:=by rintro rfl; have:=(ok.z b h).1; rw [hm] at this; cases this
    exact zd6 ne
  · by_cases e:b=a
    · subst e; rw [zd0]; rfl
    · rw [zi7 e]; exact h
theorem Ok.put {a:Addr} {o o0:HO} {c c0:Cel} (ok:Ok K Z m H) (hm:m a=some c0) (hH:H a=some o0) (r:RC K Z m H c o):Ok K Z (updM m a c) (upd H a o) :=
  ok.updC (fun h=>by have:=(ok.z a h).1; rw [hm] at this; cases this) (Ext.put ok hm hH) r
def RS (K:PySem.W.Frag) (Z:Addr→Prop) (m:Mu) (H:Hp) (d:St2) (s:L2.St):Prop:=d.length=s.length∧∀ (i:Nat) (x:D),d[i]?=some (some x)→∃ v,s[i]?=some (some v)∧RD K Z m H x v
theorem RS.ext {d:St2} {s:L2.St} (r:RS K Z m H d s) (e:Ext K Z m H m' H'):RS K Z m' H' d s:=⟨r.1,fun i x h=>let ⟨v,h1,h2⟩:=r.2 i x h; ⟨v,h1,h2.ext e⟩⟩
theorem RS.set {d:St2} {s:L2.St} {i:Nat} {x:D} {v:V} (r:RS K Z m H d s) (h:RD K Z m H x v):RS K Z m H (d.set i (some x)) (s.set i (some v)):=by
  refine ⟨by rw [List.length_set,List.length_set]; exact r.1,fun j y q=>?_⟩
  by_cases e:j=i
  · subst e
    rw [List.getElem?_set] at q
    simp only [if_true] at q
    split at q
    · rename_i hl
      cases q
      refine ⟨v,?_,h⟩
      rw [List.getElem?_set]
      simp only [if_true]
      rw [if_pos (by rw [← r.1]; exact hl)]
    · cases q
  · rw [List.getElem?_set_ne (Ne.symm e)] at q
    obtain ⟨w,h1,h2⟩:=r.2 j y q
    exact ⟨w,by rw [List.getElem?_set_ne (Ne.symm e)]; exact h1,h2⟩
end
abbrev DK:=D→Mu→Prop
abbrev DE:=St2→Mu→DK→Prop
abbrev DT:=St2→Mu→(Bool→Mu→Prop)→Prop
abbrev DA:=St2→Mu→(List D→Mu→Prop)→Prop
structure Ends2 where
  nx:St2→Mu→Prop
  rt:DK
  bk:St2→Mu→Prop:=fun _ _=>False
  ct:St2→Mu→Prop:=fun _ _=>False
abbrev DS:=Ends2→St2→Mu→Prop
def LE (K:PySem.W.Frag) (f:DE):TE:=fun s H Q=>∃ (Z:Addr→Prop) (d:St2) (m:Mu) (R:DK),Ok K Z m H∧RS K Z m H d s∧f d m R ∧
  ∀ x m' v H',R x m'→Ext K Z m H m' H'→Ok K Z m' H'→RD K Z m' H' x v→Q v H'
def LT (K:PySem.W.Frag) (f:DT):TT:=fun s H Q=>∃ (Z:Addr→Prop) (d:St2) (m:Mu) (R:Bool→Mu→Prop),Ok K Z m H∧RS K Z m H d s∧f d m R ∧
  ∀ b m' H',R b m'→Ext K Z m H m' H'→Ok K Z m' H'→Q b H'
def LA (K:PySem.W.Frag) (f:DA):TA:=fun s H Q=>∃ (Z:Addr→Prop) (d:St2) (m:Mu) (R:List D→Mu→Prop),Ok K Z m H∧RS K Z m H d s∧f d m R ∧
  ∀ xs m' vs H',R xs m'→Ext K Z m H m' H'→Ok K Z m' H'→RDs K Z m' H' xs vs→Q vs H'
def LS (K:PySem.W.Frag) (f:DS):TS:=fun E s H=>∃ (Z:Addr→Prop) (d:St2) (m:Mu) (R:Ends2),Ok K Z m H∧RS K Z m H d s∧f R d m ∧
  (∀ d' m' s' H',R.nx d' m'→Ext K Z m H m' H'→Ok K Z m' H'→RS K Z m' H' d' s'→E.nx s' H') ∧
  (∀ x m' v H',R.rt x m'→Ext K Z m H m' H'→Ok K Z m' H'→RD K Z m' H' x v→E.rt v H') ∧
  (∀ d' m' s' H',R.bk d' m'→Ext K Z m H m' H'→Ok K Z m' H'→RS K Z m' H' d' s'→E.bk s' H') ∧
  (∀ d' m' s' H',R.ct d' m'→Ext K Z m H m' H'→Ok K Z m' H'→RS K Z m' H' d' s'→E.ct s' H')
theorem PE.imp {X:Cx} {e:Expr} {t t':TE} (h:PE X e t) (q:∀ s H Q,t' s H Q→t s H Q):PE X e t':=fun pins s d H Q I w=>h pins s d H Q I (q _ _ _ w)
theorem PT.imp {X:Cx} {e:Expr} {t t':TT} (h:PT X e t) (q:∀ s H Q,t' s H Q→t s H Q):PT X e t':=fun pins s d H Q I w=>h pins s d H Q I (q _ _ _ w)
theorem PA.imp {X:Cx} {e:List Expr} {t t':TA} (h:PA X e t) (q:∀ s H Q,t' s H Q→t s H Q):PA X e t':=fun pos pins s d H Q I w=>h pos pins s d H Q I (q _ _ _ w)
theorem PS.imp {X:Cx} {e:Stmt} {t t':TS} (h:PS X e t) (q:∀ E s H,t' E s H→t E s H):PS X e t':=fun pins s d H E I w=>h pins s d H E I (q _ _ _ w)
theorem PSs.imp {X:Cx} {e:List Stmt} {t t':TS} (h:PSs X e t) (q:∀ E s H,t' E s H→t E s H):PSs X e t':=fun pins s d H E I w=>h pins s d H E I (q _ _ _ w)
section
variable {X:Cx} {pos:Pos}
@[simp] def dVar (i:Nat):DE:=fun d m Q=>∃ x,d[i]?=some (some x)∧Q x m
theorem zba4 (i:Nat) {x:Str} (hN:X.N[i]?=some x:=by rfl) (hv:Vis X.env.scope x:=by first | exact Or.inl rfl | exact Or.inr (Or.inl rfl) | exact Or.inr (Or.inr rfl)) (hd:(x == ("__debug__" : Str))=false:=by decide)
    (hcd:(x == ("__classdict__" : Str))=false:=by decide):PE X (.Name x pos) (LE X.K (dVar i)) :=
  PE.imp (zbd1 hN hv hd hcd) fun s H Q h=>by
    obtain ⟨Z,d,m,R,ok,rs,⟨x,h1,h2⟩,k⟩:=h
    obtain ⟨v,q1,q2⟩:=rs.2 i x h1
    exact ⟨v,q1,k x m v H h2 Ext.refl ok q2⟩
@[simp] def dCon (p:PyData):DE:=fun _ m Q=>Q (.dat p) m
theorem zau0 {e:Expr} {p:PyData} {v:V} (h:PE X e (tC v)) (r:∀ Z m H,RP X.K Z m H p v):PE X e (LE X.K (dCon p)) :=
  PE.imp h fun s H Q ⟨Z,d,m,R,ok,rs,h2,k⟩=>k _ m v H h2 Ext.refl ok (r Z m H)
theorem zbb1 {i:Int} {j:Nat}:PE X (.Constant (.int i) j pos) (LE X.K (dCon (.int i))):=zau0 zbh7 fun Z m H=>by simp only [RP]
theorem zbk9 {b:Bool} {j:Nat}:PE X (.Constant (.bool b) j pos) (LE X.K (dCon (.bool b))):=zau0 zbn7 fun Z m H=>by simp only [RP]
theorem zbd5 {j:Nat}:PE X (.Constant .none j pos) (LE X.K (dCon .none)):=zau0 zbc8 fun Z m H=>by simp only [RP]
theorem zbc9 {x:Str} {j:Nat}:PE X (.Constant (.str x) j pos) (LE X.K (dCon (.str x))):=zau0 zaR8 fun Z m H=>by simp only [RP]
end
end DL
set_option Elab.async false
set_option linter.all false
set_option maxRecDepth 100000
set_option maxHeartbeats 4000000
namespace DL
open PySem PySem.Spec PyProof.Rows L2
section
variable {X:Cx} {pins:List (Addr×Obj)} {σ:L2.St} {H:Hp} {s:Shared} {Z:Addr→Prop} {m:Mu}
mutual
theorem RP.reads (I:Inv X pins σ H s):∀ (p:PyData) (v:V) (u:Value),RP X.K Z m H p v→RelV v u→∃ as,Reads s.heap u p as
  | .none,v,u,h,r=>by simp only [RP] at h; subst h; cases r; exact ⟨_,.none⟩
  | .bool b,v,u,h,r=>by simp only [RP] at h; subst h; cases r; exact ⟨_,.bool b⟩
  | .int i,v,u,h,r=>by simp only [RP] at h; subst h; obtain ⟨t,rfl⟩:=r; exact ⟨_,.int i t⟩
  | .str x,v,u,h,r=>by simp only [RP] at h; subst h; obtain ⟨t,rfl⟩:=r; exact ⟨_,.str x t⟩
  | .tuple xs,v,u,h,r=>by
    simp only [RP] at h
    obtain ⟨a,vs,rfl,h2,h3⟩:=h
    cases r
    obtain ⟨its,rv,⟨o,e,c,n,d⟩,_⟩:=I.tuple h2
    obtain ⟨as,q⟩:=RPs.reads I xs vs its h3 rv
    exact ⟨_,.tuple e c d (by simpa using q)⟩
  | .list xs,v,u,h,r=>by
    simp only [RP] at h
    obtain ⟨a,vs,rfl,_,h2,h3⟩:=h
    cases r
    obtain ⟨its,rv,⟨o,n,e,c,_,d⟩,_⟩:=I.list h2
    obtain ⟨as,q⟩:=RPs.reads I xs vs its h3 rv
    exact ⟨_,.list e c d (by simpa using q)⟩
  | .dict _,v,u,h,r=>by simp only [RP] at h
theorem RPs.reads (I:Inv X pins σ H s):∀ (xs:List PyData) (vs:List V) (us:List Value),RPs X.K Z m H xs vs→Vals vs us→∃ as,ReadsAll s.heap us xs as
  | [],vs,us,h,r=>by simp only [RPs] at h; subst h; cases r; exact ⟨_,.nil⟩
  | x :: xs,vs,us,h,r=>by
    simp only [RPs] at h
    obtain ⟨v,w,rfl,h1,h2⟩:=h
    cases r with
    | cons r1 r2 =>
      obtain ⟨as,q1⟩:=RP.reads I x v _ h1 r1
      obtain ⟨bs,q2⟩:=RPs.reads I xs w _ h2 r2
      exact ⟨_,.cons q1 q2⟩
end
theorem RP.noDict (K:PySem.W.Frag):∀ (p:PyData) (v:V),RP K Z m H p v→p.hasDict=false
  | .none,_,_=>rfl
  | .bool _,_,_=>rfl
  | .int _,_,_=>rfl
  | .str _,_,_=>rfl
  | .tuple xs,v,h=>by
    simp only [RP] at h
    obtain ⟨_,vs,_,_,h⟩:=h
    simp only [PyData.hasDict]
    exact go xs vs h
  | .list xs,v,h=>by
    simp only [RP] at h
    obtain ⟨_,vs,_,_,_,h⟩:=h
    simp only [PyData.hasDict]
    exact go xs vs h
  | .dict _,v,h=>by simp only [RP] at h
where go:∀ (xs:List PyData) (vs:List V),RPs K Z m H xs vs→PyData.hasDictAll xs=false
  | [],_,_=>rfl
  | x :: xs,vs,h=>by
    simp only [RPs] at h
    obtain ⟨v,w,rfl,h1,h2⟩:=h
    simp only [PyData.hasDictAll,RP.noDict K x v h1,go xs w h2,Bool.or_self]
end
abbrev D2:=D→D→Mu→DK→Prop
def OpD (X:Cx) (op:Value→Value→Sem Value) (r:D2):Prop :=
  ∀ (pins:List (Addr×Obj)) (s:Shared) (σ:L2.St) (H:Hp) (Z:Addr→Prop) (m:Mu) (x y:V) (dx dy:D) (v u:Value) (R:DK) (Q:VK),Inv X pins σ H s→Ok X.K Z m H→RelV x v→RelV y u→RD X.K Z m H dx x→RD X.K Z m H dy y→r dx dy m R →
    (∀ d m' v' H',R d m'→Ext X.K Z m H m' H'→Ok X.K Z m' H'→RD X.K Z m' H' d v'→Q v' H')→wpAny (model X.prog X.w) X.A (op v u) (EP X pins σ Q) X.xe s
@[simp] def dBin (r:D2) (f g:DE):DE:=fun d m Q=>f d m fun x m1=>g d m1 fun y m2=>r x y m2 Q
section
variable {X:Cx} {a b c:Expr} {f g:DE} {pos:Pos}
theorem le2 {op:Value→Value→Sem Value} {r:D2} (ho:OpD X op r) (ha:PE X a (LE X.K f)) (hb:PE X b (LE X.K g)) {pins:List (Addr×Obj)} {s:Shared} {σ:L2.St} {H:Hp} {Q:VK} (I:Inv X pins σ H s)
    (h:LE X.K (dBin r f g) σ H Q) :
    wpAny (model X.prog X.w) X.A (eval a X.env) (fun v s₁=>wpAny (model X.prog X.w) X.A (eval b X.env) (fun u s₂=>wpAny (model X.prog X.w) X.A (op v u) (EP X pins σ Q) X.xe s₂) X.xe s₁) X.xe s:=by
  obtain ⟨Z,d,m,R,ok,rs,hf,k⟩:=h
  refine binT ha hb I (R:=fun x y H2=>∃ m2 dx dy,Ok X.K Z m2 H2∧Ext X.K Z m H m2 H2∧RD X.K Z m2 H2 dx x∧RD X.K Z m2 H2 dy y∧r dx dy m2 R) ?_ fun v u s2 x y H2 I2 rx ry ⟨m2,dx,dy,ok2,e2,r1,r2,q⟩=>?_
  · exact ⟨Z,d,m,_,ok,rs,hf,fun x m1 v H1 q e1 ok1 r1=>⟨Z,d,m1,_,ok1,rs.ext e1,q,fun y m2 v2 H2 q2 e2 ok2 r2=>⟨m2,x,y,ok2,e1.trans e2,r1.ext e2,r2,q2⟩⟩⟩
  · exact ho pins s2 σ H2 Z m2 x y dx dy v u R Q I2 ok2 rx ry r1 r2 q fun d' m' v' H' h1 h2 h3 h4=>k d' m' v' H' h1 (e2.trans h2) h3 h4
theorem zbc6 {op:Operator} {r:D2} (ho:OpD X (binaryOp op) r) (ha:PE X a (LE X.K f)) (hb:PE X b (LE X.K g)):PE X (.BinOp a op b pos) (LE X.K (dBin r f g)) :=
  fun _ _ _ _ _ I h=>wpAny_BinOp (le2 ho ha hb I h)
theorem zbb7 {op:CmpOp} {r:D2} (ho:OpD X (compareOp op) r) (ha:PE X a (LE X.K f)) (hb:PE X b (LE X.K g)) (hm:behindInMarks op b=false:=by exact zat2 _):PE X (.Compare a [op] [b] pos) (LE X.K (dBin r f g)) :=
  fun _ _ _ _ _ I h=>wpAny_Compare1 (le2 ho ha hb I h) hm
@[simp] def dTst (f:DE):DT:=fun d m Q=>f d m fun x m1=>∃ b,x=.dat (.bool b)∧Q b m1
theorem LT.le {K:PySem.W.Frag} {σ:L2.St} {H:Hp} {Q:Bool→Hp→Prop} (h:LT K (dTst f) σ H Q):LE K f σ H (fun x H'=>∃ k,x=.bl k∧Q k H'):=by
  obtain ⟨Z,d,m,R,ok,rs,hf,k⟩:=h
  refine ⟨Z,d,m,_,ok,rs,hf,fun x m' v H' ⟨b,e,q⟩ e1 ok1 rd=>⟨b,?_,k b m' H' q e1 ok1⟩⟩
  subst e
  simpa only [RD,RP] using rd
theorem zbj8 {op:CmpOp} {r:D2} (ho:OpD X (compareOp op) r) (ha:PE X a (LE X.K f)) (hb:PE X b (LE X.K g)) (hm:behindInMarks op b=false:=by exact zat2 _):PT X (.Compare a [op] [b] pos) (LT X.K (dTst (dBin r f g))):=by
  intro pins s σ H Q I h
  refine wpAny_isTrue_Compare1 (thn (le2 ho ha hb I h.le) fun v s1 h1=>thn h1 fun u s2 h2=>thn h2 fun c s3 ⟨z,H3,I3,r3,k,e,q3⟩=>?_) hm
  subst e
  cases r3
  exact wpAny_truthy_bool ⟨H3,I3,q3⟩
theorem zbk0 (h:PE X a (LE X.K f)) (he:∀ whole,isTrue a X.env whole=(do let v ← whole; standAt a.pos; holding [v] (truthy v)):=by intro _; rfl):PT X a (LT X.K (dTst f)) :=
  PT.imp (zbf9 h he) fun _ _ _ q=>q.le
end
section
variable {X:Cx} {a b c:Expr} {rest:List Expr} {f g:DE} {t u:DT} {pos:Pos}
@[simp] def zaF7 (t u:DT):DT:=fun d m Q=>t d m fun k m1=>if k=true then u d m1 Q else Q false m1
@[simp] def dOrT (t u:DT):DT:=fun d m Q=>t d m fun k m1=>if k=true then Q true m1 else u d m1 Q
@[simp] def zay3 (t:DT):DT:=fun d m Q=>t d m fun k m1=>Q (!k) m1
theorem PW.imp {e:Expr} {t t':TT} (h:PW X e t) (q:∀ s H Q,t' s H Q→t s H Q):PW X e t':=fun wh pins s d H Q I w=>h wh pins s d H Q I (q _ _ _ w)
theorem zaX9 (ha:PT X a (LT X.K t)):PW X (.BoolOp .And [a] pos) (LT X.K t):=zaT8 ha
theorem zbc0 (ha:PT X a (LT X.K t)):PW X (.BoolOp .Or [a] pos) (LT X.K t):=zbk1 ha
theorem zbc5 (ha:PT X a (LT X.K t)) (hb:PW X (.BoolOp .And (b :: rest) pos) (LT X.K u)):PW X (.BoolOp .And (a :: b :: rest) pos) (LT X.K (zaF7 t u)) :=
  PW.imp (zbi6 ha hb) fun s H Q ⟨Z,d,m,R,ok,rs,h,k⟩=>⟨Z,d,m,_,ok,rs,h,fun b m1 H1 q e1 ok1=>by
    cases b with
    | true=>rw [if_pos rfl] at q ⊢; exact ⟨Z,d,m1,R,ok1,rs.ext e1,q,fun b' m2 H2 q2 e2 ok2=>k b' m2 H2 q2 (e1.trans e2) ok2⟩
    | false=>rw [if_neg Bool.false_ne_true] at q ⊢; exact k false m1 H1 q e1 ok1⟩
theorem zbp7 (ha:PT X a (LT X.K t)) (hb:PW X (.BoolOp .Or (b :: rest) pos) (LT X.K u)):PW X (.BoolOp .Or (a :: b :: rest) pos) (LT X.K (dOrT t u)) :=
  PW.imp (zbn2 ha hb) fun s H Q ⟨Z,d,m,R,ok,rs,h,k⟩=>⟨Z,d,m,_,ok,rs,h,fun b m1 H1 q e1 ok1=>by
    cases b with
    | false=>rw [if_neg Bool.false_ne_true] at q ⊢; exact ⟨Z,d,m1,R,ok1,rs.ext e1,q,fun b' m2 H2 q2 e2 ok2=>k b' m2 H2 q2 (e1.trans e2) ok2⟩
    | true=>rw [if_pos rfl] at q ⊢; exact k true m1 H1 q e1 ok1⟩
theorem zbe1 (ha:PT X a (LT X.K t)):PT X (.UnaryOp .Not a pos) (LT X.K (zay3 t)) :=
  PT.imp (zbd6 ha) fun s H Q ⟨Z,d,m,R,ok,rs,h,k⟩=>⟨Z,d,m,_,ok,rs,h,fun b m1 H1 q e1 ok1=>k (!b) m1 H1 q e1 ok1⟩
@[simp] def dAnd (f g:DE):DE:=fun d m Q=>f d m fun x m1=>∃ b,x=.dat (.bool b)∧if b=true then g d m1 Q else Q (.dat (.bool false)) m1
@[simp] def dNot (f:DE):DE:=fun d m Q=>f d m fun x m1=>∃ b,x=.dat (.bool b)∧Q (.dat (.bool (!b))) m1
theorem RD.bl {K:PySem.W.Frag} {Z:Addr→Prop} {m:Mu} {H:Hp} {b:Bool} {v:V} (h:RD K Z m H (.dat (.bool b)) v):v=.bl b:=by simpa only [RD,RP] using h
theorem RD.ofBl {K:PySem.W.Frag} {Z:Addr→Prop} {m:Mu} {H:Hp} {b:Bool}:RD K Z m H (.dat (.bool b)) (.bl b):=by simp only [RD,RP]
theorem zbb9 {op:BoolOp} (h:PE X a (LE X.K f)):PE X (.BoolOp op [a] pos) (LE X.K f):=zba5 h
theorem zbi1 (ha:PE X a (LE X.K f)) (hb:PE X (.BoolOp .And (b :: rest) pos) (LE X.K g)):PE X (.BoolOp .And (a :: b :: rest) pos) (LE X.K (dAnd f g)) :=
  PE.imp (zbc3 ha hb) fun s H Q ⟨Z,d,m,R,ok,rs,h,k⟩=>⟨Z,d,m,_,ok,rs,h,fun x m1 v H1 ⟨b,e,q⟩ e1 ok1 rd=>by
    subst e
    refine ⟨b,rd.bl,?_⟩
    cases b with
    | true=>rw [if_pos rfl] at q ⊢; exact ⟨Z,d,m1,R,ok1,rs.ext e1,q,fun x2 m2 v2 H2 q2 e2 ok2 r2=>k x2 m2 v2 H2 q2 (e1.trans e2) ok2 r2⟩
    | false=>rw [if_neg Bool.false_ne_true] at q ⊢; exact k _ m1 _ H1 q e1 ok1 .ofBl⟩
theorem zbi5 (ha:PE X a (LE X.K f)):PE X (.UnaryOp .Not a pos) (LE X.K (dNot f)) :=
  PE.imp (zbg8 ha) fun s H Q ⟨Z,d,m,R,ok,rs,h,k⟩=>⟨Z,d,m,_,ok,rs,h,fun x m1 v H1 ⟨b,e,q⟩ e1 ok1 rd=>by
    subst e
    exact ⟨b,rd.bl,k _ m1 _ H1 q e1 ok1 .ofBl⟩⟩
@[simp] def dIte (t:DT) (f g:DE):DE:=fun d m Q=>t d m fun k m1=>if k=true then f d m1 Q else g d m1 Q
theorem zbg3 (hc:PT X c (LT X.K t)) (ha:PE X a (LE X.K f)) (hb:PE X b (LE X.K g)):PE X (.IfExp c a b pos) (LE X.K (dIte t f g)) :=
  PE.imp (zaP3 hc ha hb) fun s H Q ⟨Z,d,m,R,ok,rs,h,k⟩=>⟨Z,d,m,_,ok,rs,h,fun b m1 H1 q e1 ok1=>by
    cases b with
    | true=>rw [if_pos rfl] at q ⊢; exact ⟨Z,d,m1,R,ok1,rs.ext e1,q,fun x2 m2 v2 H2 q2 e2 ok2 r2=>k x2 m2 v2 H2 q2 (e1.trans e2) ok2 r2⟩
    | false=>rw [if_neg Bool.false_ne_true] at q ⊢; exact ⟨Z,d,m1,R,ok1,rs.ext e1,q,fun x2 m2 v2 H2 q2 e2 ok2 r2=>k x2 m2 v2 H2 q2 (e1.trans e2) ok2 r2⟩⟩
end
section
variable {X:Cx} {e:Expr} {es:List Expr} {f:DE} {g:DA} {pos:Pos}
@[simp] def dNil:DA:=fun _ m Q=>Q [] m
@[simp] def za3 (f:DE) (g:DA):DA:=fun d m Q=>f d m fun x m1=>g d m1 fun xs m2=>Q (x :: xs) m2
theorem zav2:PA X [] (LA X.K dNil):=PA.imp zab0 fun s H Q ⟨Z,d,m,R,ok,rs,h,k⟩=>k [] m [] H h Ext.refl ok rfl
theorem zZ0 (ha:PE X e (LE X.K f)) (hr:PA X es (LA X.K g)) (hs:starEach (e :: es) X.env=(false,eval e X.env) :: starEach es X.env:=by rfl):PA X (e :: es) (LA X.K (za3 f g)) :=
  PA.imp (zD4 ha hr hs) fun s H Q ⟨Z,d,m,R,ok,rs,h,k⟩=>⟨Z,d,m,_,ok,rs,h,fun x m1 v H1 q e1 ok1 r1=>⟨Z,d,m1,_,ok1,rs.ext e1,q,fun xs m2 vs H2 q2 e2 ok2 r2 =>
    k (x :: xs) m2 (v :: vs) H2 q2 (e1.trans e2) ok2 ⟨v,vs,rfl,r1.ext e2,r2⟩⟩⟩
@[simp] def dTup (g:DA):DE:=fun d m Q=>g d m fun xs m1=>∃ ps,pds xs=some ps∧ps.length≤sizeLine∧Q (.dat (.tuple ps)) m1
theorem zbg1 {j:Nat} (h:PA X es (LA X.K g)):PE X (.Tuple es j pos) (LE X.K (dTup g)) :=
  PE.imp (zbj1 h) fun s H Q ⟨Z,d,m,R,ok,rs,h,k⟩=>⟨Z,d,m,_,ok,rs,h,fun xs m1 vs H1 ⟨ps,e,hz,q⟩ e1 ok1 r1=>by
    have rp:=r1.pds e
    refine ⟨by rw [rp.length]; exact hz,fun p hp=>?_⟩
    have sm:Same H1 (upd H1 p (.tup vs)):=zf9 hp
    refine k _ m1 _ _ q (e1.trans (ok1.ext sm)) (ok1.grow sm) ?_
    simp only [RD,RP]
    exact ⟨p,vs,rfl,.inl (.inl zf4),RPs.ext (ok1.ext sm) _ _ rp⟩⟩
@[simp] def dLst (g:DA):DE:=fun d m Q=>g d m fun xs m1=>∃ ps,pds xs=some ps∧ps.length≤sizeLine∧Q (.dat (.list ps)) m1
@[simp] def zae7 (g:DA):DE:=fun d m Q=>g d m fun xs m1=>∃ ps,pds xs=some ps∧ps.length≤sizeLine∧∀ a,m1 a=none→Q (.cel a) (updM m1 a (.l ps))
theorem zaI1 {t:TA} (h:PA X es t):PE X (.List es pos) (fun s H Q=>t s H fun xs H1=>xs.length≤sizeLine∧∀ p,H1 p=none→X.K.lookup p=none→Q (.ref p) (upd H1 p (.lst xs))):=by
  intro pins s σ H Q I hq
  refine wpAny_List_spliced (thn (h pos pins s σ H _ I hq) fun us s1 ⟨xs,H1,I1,r,z,q⟩=>⟨by rw [← r.length]; exact z,?_⟩)
  have hf:H1 s1.heap.objs.size=none:=I1.hok.fresh (Nat.le_refl _)
  have hk:X.K.lookup s1.heap.objs.size=none:=by
    cases e:X.K.lookup s1.heap.objs.size with
    | none=>rfl
    | some o=>exact absurd (Heap.lt_size (I1.kIn _ o e)) (Nat.lt_irrefl _)
  refine ⟨.ref s1.heap.objs.size,upd H1 s1.heap.objs.size (.lst xs),I1.laid (t':=s1.toks) (fun b u e=>Heap.get?_push_of_some _ e) (Nat.le_refl _) ?_,rfl,q _ hf hk⟩
  exact ⟨z,us,0,r,Heap.get?_push_size _ rfl⟩
theorem zF8 {K:PySem.W.Frag} {Z:Addr→Prop} {m:Mu} {H:Hp} {p:Addr} (ok:Ok K Z m H) (hp:H p=none):m p=none∧¬ Z p:=by
  refine ⟨?_,fun h=>(ok.z p h).2 hp⟩
  cases e:m p with
  | none=>rfl
  | some ds =>
    obtain ⟨vs,h1,_⟩:=ok.g p ds e
    rw [hp] at h1
    cases h1
theorem zbf1 (h:PA X es (LA X.K g)):PE X (.List es pos) (LE X.K (dLst g)) :=
  PE.imp (zaI1 h) fun s H Q ⟨Z,d,m,R,ok,rs,h,k⟩=>⟨Z,d,m,_,ok,rs,h,fun xs m1 vs H1 ⟨ps,e,hz,q⟩ e1 ok1 r1=>by
    have rp:=r1.pds e
    refine ⟨by rw [rp.length]; exact hz,fun p hp hk=>?_⟩
    have sm:Same H1 (upd H1 p (.lst vs)):=zf9 hp
    refine k _ m1 _ _ q (e1.trans (ok1.ext sm)) (ok1.grow sm) ?_
    simp only [RD,RP]
    exact ⟨p,vs,rfl,zF8 ok1 hp,.inl (.inl zf4),RPs.ext (ok1.ext sm) _ _ rp⟩⟩
theorem zaT1 (h:PA X es (LA X.K g)):PE X (.List es pos) (LE X.K (zae7 g)) :=
  PE.imp (zaI1 h) fun s H Q ⟨Z,d,m,R,ok,rs,h,k⟩=>⟨Z,d,m,_,ok,rs,h,fun xs m1 vs H1 ⟨ps,e,hz,q⟩ e1 ok1 r1=>by
    have rp:=r1.pds e
    refine ⟨by rw [rp.length]; exact hz,fun p hp hk=>?_⟩
    refine k _ _ _ _ (q p (zF8 ok1 hp).1) (e1.trans (Ext.cell ok1 hp hk)) (ok1.cell hp hk rp) ⟨rfl,?_⟩
    rw [zd0]
    rfl⟩
end
end DL
set_option Elab.async false
set_option linter.all false
set_option maxRecDepth 100000
set_option maxHeartbeats 4000000
namespace DL
open PySem PySem.Spec PyProof.Rows L2
theorem zU6:fillsNumberSlot (.type "tuple") "mul"=pure false:=PySem.fillsNumberSlot_seq (id:="tuple.__mul__") (r:=some (.builtin "tuple.__rmul__")) PySem.F.slot_tuple_mul.lookup (by decide +kernel) PySem.F.slot_tuple_rmul.lookup (by decide +kernel)
theorem zan6:seqRepeat? (.type "tuple")=pure (some (.builtin "tuple.__mul__")):=by
  unfold seqRepeat?
  rw [PySem.seqSlot_of (T:="tuple") (name:="__mul__") (id:="tuple.__mul__") PySem.F.slot_tuple_mul.lookup (by decide +kernel),PySem.seqSlot_of (T:="tuple") (name:="__rmul__") (id:="tuple.__rmul__") PySem.F.slot_tuple_rmul.lookup (by decide +kernel)]
  rfl
theorem zay1 (a:Int) (t:Tok) (l:Addr) (its:Array Value) (n:Nat) (dd:Option Addr) (sl:Array (Option Value)):Meets (Builtin.«int.__rmul__» ⟨[.int a t,.ref l],[]⟩) (fun _ R s=>s.heap.get? l=some { cls:=.type "tuple",dict:=dd,data:=.seq its n,slots:=sl }∧R (.ok (.ret Value.notImplemented)) s) :=
  .of_wp fun prog w A R s hs=>by
    obtain ⟨hp,g,d,tk,os⟩:=s; obtain ⟨hl,h⟩:=hs
    wp_walk
    exact ⟨_,rfl,h⟩
theorem zag8 (vs:List Value):∀ (n:Nat) (acc:List Value),(List.replicate n vs.toArray).foldl (·++·) acc.toArray=(acc++(List.replicate n vs).flatten).toArray
  | 0,acc=>by simp
  | n + 1,acc=>by
    rw [List.replicate_succ,List.foldl_cons,List.replicate_succ,List.flatten_cons]
    have:=zag8 vs n (acc++vs)
    rw [← List.append_assoc,← this]
    simp
theorem zaf3 {α:Type} (xs:List α):∀ n:Nat,(List.replicate n xs).flatten.length=xs.length * n
  | 0=>by simp
  | n + 1=>by rw [List.replicate_succ,List.flatten_cons,List.length_append,zaf3 xs n,Nat.mul_succ,Nat.add_comm]
theorem zah3 (t:Addr) (its:Array Value) (k:Int) (tok:Tok) (h1:its.size≠0) (h2:2≤k) (h3:k≤100) (h4:its.size * k.toNat≤sizeLine):Meets (Builtin.«tuple.__mul__» ⟨[.ref t,.int k tok],[]⟩)
    (fun _ R s=>IsTup s.heap t its∧R (.ok (.ret (.ref s.heap.objs.size))) { s with heap:=s.heap.push { cls:=.type "tuple",data:=.seq ((List.replicate k.toNat its).foldl (·++·) #[]) } }) :=
  .of_wp fun prog w A R s hs=>by
    obtain ⟨ht,h⟩:=hs
    show wpAny _ _ (asIndex (.int k tok)>>=_) _ _ _
    refine wpAny_bind (wpAny_pure ?_)
    show wpAny _ _ (if (decide (k < -(2 ^ 63)) || decide (k ≥ 2 ^ 63))=true then _ else _) _ _ _
    rw [if_neg (by simp; omega)]
    show wpAny _ _ (Builtin.Tuple.tupleItemsOf (.ref t)>>=_) _ _ _
    refine wpAny_bind (tupleItemsOf_ ht ?_)
    have e1:its.isEmpty=false:=by
      rw [Array.isEmpty_eq_false_iff]
      rintro rfl
      exact h1 rfl
    have e2:(k == 1)=false:=by
      rw [beq_eq_false_iff_ne]
      omega
    show wpAny _ _ (if (its.isEmpty || k == 1)=true then _ else _) _ _ _
    rw [e1,e2,if_neg (by simp)]
    show wpAny _ _ (if (decide (k≤0) || false)=true then _ else _) _ _ _
    rw [if_neg (by simp; omega)]
    have hk:((its.size:Nat):Int) * k=((its.size * k.toNat:Nat):Int):=by
      push_cast
      rw [Int.toNat_of_nonneg (by omega)]
    have hs:=zU2
    show wpAny _ _ (if ((its.size:Nat):Int) * k > (2 ^ 63 - 1) / 8 then _ else _) _ _ _
    rw [if_neg ?c1]
    case c1 =>
      rw [hk]
      have:(sizeLine:Nat)≤(2 ^ 63 - 1) / 8:=by decide
      omega
    show wpAny _ _ (if (decide (((its.size:Nat):Int) * k > (sizeLine:Int)))=true then _ else _) _ _ _
    rw [if_neg ?c2]
    case c2 =>
      rw [hk]
      intro q
      have q':=of_decide_eq_true q
      omega
    show wpAny _ _ (Builtin.Tuple.tupleExact ((List.replicate k.toNat its).foldl (·++·) #[])>>=_) _ _ _
    refine wpAny_bind (m:=Builtin.Tuple.tupleExact _) (wpAny_newObj_type (wpAny_pure ⟨_,rfl,h⟩) ?_)
    show ((List.replicate k.toNat its).foldl (·++·) #[]).size≤sizeLine
    have e:=zag8 its.toList k.toNat []
    rw [List.nil_append] at e
    have e':(List.replicate k.toNat its).foldl (·++·) #[]=(List.replicate k.toNat its.toList).flatten.toArray:=e
    rw [e',List.size_toArray,zaf3,Array.length_toList]
    exact h4
theorem Vals.rep {xs:List V} {us:List Value} (h:Vals xs us):∀ n:Nat,Vals (List.replicate n xs).flatten (List.replicate n us).flatten
  | 0=>.nil
  | n + 1=>by
    rw [List.replicate_succ,List.replicate_succ,List.flatten_cons,List.flatten_cons]
    exact h.append (Vals.rep h n)
theorem RPs.rep {K:PySem.W.Frag} {Z:Addr→Prop} {m:Mu} {H:Hp} {xs:List PyData} {vs:List V} (h:RPs K Z m H xs vs):∀ n:Nat,RPs K Z m H (List.replicate n xs).flatten (List.replicate n vs).flatten
  | 0=>by simp [RPs]
  | n + 1=>by
    rw [List.replicate_succ,List.replicate_succ,List.flatten_cons,List.flatten_cons]
    exact h.append (RPs.rep h n)
section
variable {X:Cx}
theorem zaW1 {pins:List (Addr×Obj)} {s:Shared} {σ:L2.St} {H:Hp} {Q:VK} {a:Addr} {xs:List V} {k:Int} {t:Tok} (I:Inv X pins σ H s) (ha:SqT X.K H a xs) (h1:xs≠[]) (h2:2≤k) (h3:k≤100) (h4:xs.length * k.toNat≤sizeLine)
    (q:∀ p,H p=none→Q (.ref p) (upd H p (.tup (List.replicate k.toNat xs).flatten))):wpAny (model X.prog X.w) X.A (binaryOp .Mult (.ref a) (.int k t)) (EP X pins σ Q) X.xe s:=by
  obtain ⟨its,r,p,hz⟩:=I.tuple ha
  have hl:=r.length
  obtain ⟨⟨cls,dd,data,sl⟩,ho,hc,n,hd⟩:=id p
  simp only at hc hd
  subst hc hd
  refine wpAny_binaryOp_repeat_ref (T:="tuple") (U:="int") (by decide) ⟨_,ho,rfl⟩ (fun s'=>typeIs_int s' k t) zU6 PySem.F.fills_int_mul PySem.F.slot_int_rmul zan6 PySem.F.slot_int_index.lookup
    (call_meets PySem.F.slot_int_rmul (typeIs_int s k t) PySem.F.entry_int_rmul (PySem.F.args_int_rmul_2 _ _) (zay1 k t a its.toArray n dd sl) ⟨ho,rfl,⟨_,ho,rfl⟩,call_meets PySem.F.slot_tuple_mul ⟨_,ho,rfl⟩ PySem.F.entry_tuple_mul (PySem.F.args_tuple_mul_2 _ _) (zah3 a its.toArray k t ?_ h2 h3 ?_) ⟨p,?_⟩⟩)
  · rw [List.size_toArray,← hl]
    intro e
    exact h1 (List.length_eq_zero_iff.mp e)
  · rw [List.size_toArray,← hl]
    exact h4
  · have e:=zag8 its k.toNat []
    rw [List.nil_append] at e
    rw [e]
    exact ⟨.ref s.heap.objs.size,_,I.laid (t':=s.toks) (o:=.tup (List.replicate k.toNat xs).flatten) (fun b ob q=>Heap.get?_push_of_some _ q) (Nat.le_refl _) ⟨⟨by rw [zaf3]; exact h4,NoD.new _ _ _⟩,_,Vals.rep r k.toNat,IsTup.new _ _⟩,rfl,q _ (I.hok.fresh (Nat.le_refl _))⟩
end
end DL
set_option Elab.async false
set_option linter.all false
set_option maxRecDepth 100000
set_option maxHeartbeats 4000000
namespace DL
open PySem PySem.Spec PyProof.Rows L2
@[simp] def aAdd:D2
  | .dat (.int i),.dat (.int j),m,Q=>Q (.dat (.int (i + j))) m
  | .dat (.str a),.dat (.str b),m,Q=>a.length + b.length≤sizeLine∧Q (.dat (.str (a++b))) m
  | .dat (.tuple a),.dat (.tuple b),m,Q=>a.length + b.length≤sizeLine∧Q (.dat (.tuple (a++b))) m
  | .dat (.list a),.dat (.list b),m,Q=>a.length + b.length≤sizeLine∧Q (.dat (.list (a++b))) m
  | .cel c,.dat (.list b),m,Q=>∃ a,m c=some (.l a)∧a.length + b.length≤sizeLine∧Q (.dat (.list (a++b))) m
  | _,_,_,_=>False
@[simp] def aSub:D2
  | .dat (.int i),.dat (.int j),m,Q=>Q (.dat (.int (i - j))) m
  | _,_,_,_=>False
@[simp] def aMul:D2
  | .dat (.int i),.dat (.int j),m,Q=>IntMulOk i j∧Q (.dat (.int (i * j))) m
  | .dat (.tuple a),.dat (.int k),m,Q=>a≠[]∧2≤k∧k≤100∧a.length * k.toNat≤sizeLine∧Q (.dat (.tuple (List.replicate k.toNat a).flatten)) m
  | _,_,_,_=>False
@[simp] def aDiv:D2
  | .dat (.int i),.dat (.int j),m,Q=>j≠0∧j.natAbs.log2 < 9000∧Q (.dat (.int (i.fdiv j))) m
  | _,_,_,_=>False
@[simp] def aMod:D2
  | .dat (.int i),.dat (.int j),m,Q=>j≠0∧Q (.dat (.int (i.fmod j))) m
  | _,_,_,_=>False
@[simp] def aPow:D2
  | .dat (.int i),.dat (.int j),m,Q=>(0≤j∧j≤1000000∧i.natAbs < 2 ^ 64)∧Q (.dat (.int (i ^ j.toNat))) m
  | _,_,_,_=>False
@[simp] def aLt:D2
  | .dat (.int i),.dat (.int j),m,Q=>Q (.dat (.bool (decide (i < j)))) m
  | _,_,_,_=>False
@[simp] def aGt:D2
  | .dat (.int i),.dat (.int j),m,Q=>Q (.dat (.bool (decide (j < i)))) m
  | _,_,_,_=>False
@[simp] def aEq:D2
  | .dat (.str a),.dat (.str b),m,Q=>Q (.dat (.bool (decide (a=b)))) m
  | .dat p,.dat q,m,Q=>p.canLay0=true∧q.canLay0=true∧p.depth≤100∧Q (.dat (.bool (PyData.eqv p q))) m
  | _,_,_,_=>False
@[simp] def aNe:D2
  | .dat (.str a),.dat (.str b),m,Q=>Q (.dat (.bool (!decide (a=b)))) m
  | .dat p,.dat q,m,Q=>p.canLay0=true∧q.canLay0=true∧p.depth≤100∧Q (.dat (.bool (!PyData.eqv p q))) m
  | _,_,_,_=>False
section
variable {X:Cx}
theorem RD.int {K:PySem.W.Frag} {Z:Addr→Prop} {m:Mu} {H:Hp} {i:Int} {v:V} (h:RD K Z m H (.dat (.int i)) v):v=.int i:=by simpa only [RD,RP] using h
theorem RD.ofInt {K:PySem.W.Frag} {Z:Addr→Prop} {m:Mu} {H:Hp} {i:Int}:RD K Z m H (.dat (.int i)) (.int i):=by simp only [RD,RP]
theorem RD.str {K:PySem.W.Frag} {Z:Addr→Prop} {m:Mu} {H:Hp} {i:Str} {v:V} (h:RD K Z m H (.dat (.str i)) v):v=.str i:=by simpa only [RD,RP] using h
theorem RD.ofStr {K:PySem.W.Frag} {Z:Addr→Prop} {m:Mu} {H:Hp} {i:Str}:RD K Z m H (.dat (.str i)) (.str i):=by simp only [RD,RP]
theorem zF5:OpD X (binaryOp .Sub) aSub:=by
  intro pins s σ H Z m x y dx dy v u R Q I ok rx ry r1 r2 h k
  unfold aSub at h
  split at h
  · cases r1.int; cases r2.int
    exact zbf7 pins s σ H _ _ v u Q I rx ry ⟨_,_,rfl,rfl,k _ m _ H h Ext.refl ok .ofInt⟩
  · exact h.elim
theorem zh5:OpD X (binaryOp .Mult) aMul:=by
  intro pins s σ H Z m x y dx dy v u R Q I ok rx ry r1 r2 h k
  unfold aMul at h
  split at h
  · cases r1.int; cases r2.int
    obtain ⟨t,rfl⟩:=rx
    obtain ⟨t',rfl⟩:=ry
    exact mul_int ⟨.int _,H,I.tok _,⟨_,rfl⟩,k _ m _ H h.2 Ext.refl ok .ofInt⟩ h.1
  · rename_i a j
    obtain ⟨h1,h2,h3,h4,h5⟩:=h
    cases r2.int
    simp only [RD,RP] at r1
    obtain ⟨p,vs,rfl,g1,g2⟩:=r1
    cases rx
    obtain ⟨t',rfl⟩:=ry
    have hl:=g2.length
    refine zaW1 I g1 (fun e=>h1 ?_) h2 h3 (by rw [hl]; exact h4) fun t ht=>?_
    · subst e
      cases a with
      | nil=>rfl
      | cons _ _=>simp at hl
    · have sm:Same H (upd H t (.tup (List.replicate j.toNat vs).flatten)):=zf9 ht
      refine k _ m _ _ h5 (ok.ext sm) (ok.grow sm) ?_
      simp only [RD,RP]
      exact ⟨t,_,rfl,.inl (.inl zf4),RPs.ext (ok.ext sm) _ _ (g2.rep _)⟩
  · exact h.elim
theorem zan8:OpD X (binaryOp .FloorDiv) aDiv:=by
  intro pins s σ H Z m x y dx dy v u R Q I ok rx ry r1 r2 h k
  unfold aDiv at h
  split at h
  · cases r1.int; cases r2.int
    obtain ⟨t,rfl⟩:=rx
    obtain ⟨t',rfl⟩:=ry
    exact floordiv_int h.1 ⟨.int _,H,I.tok _,⟨_,rfl⟩,k _ m _ H h.2.2 Ext.refl ok .ofInt⟩ (.inl (PyProof.noPylong_of_log2 h.2.1))
  · exact h.elim
theorem zB7:OpD X (binaryOp .Mod) aMod:=by
  intro pins s σ H Z m x y dx dy v u R Q I ok rx ry r1 r2 h k
  unfold aMod at h
  split at h
  · cases r1.int; cases r2.int
    exact zaT0 pins s σ H _ _ v u Q I rx ry ⟨_,_,rfl,rfl,h.1,k _ m _ H h.2 Ext.refl ok .ofInt⟩
  · exact h.elim
theorem zbh6:OpD X (binaryOp .Pow) aPow:=by
  intro pins s σ H Z m x y dx dy v u R Q I ok rx ry r1 r2 h k
  unfold aPow at h
  split at h
  · cases r1.int; cases r2.int
    exact zbf0 pins s σ H _ _ v u Q I rx ry ⟨_,_,rfl,rfl,h.1,k _ m _ H h.2 Ext.refl ok .ofInt⟩
  · exact h.elim
theorem zax2:OpD X (compareOp .Lt) aLt:=by
  intro pins s σ H Z m x y dx dy v u R Q I ok rx ry r1 r2 h k
  unfold aLt at h
  split at h
  · cases r1.int; cases r2.int
    exact zbp6 pins s σ H _ _ v u Q I rx ry ⟨_,_,rfl,rfl,k _ m _ H h Ext.refl ok .ofBl⟩
  · exact h.elim
theorem zah7:OpD X (compareOp .Gt) aGt:=by
  intro pins s σ H Z m x y dx dy v u R Q I ok rx ry r1 r2 h k
  unfold aGt at h
  split at h
  · cases r1.int; cases r2.int
    exact zbm0 pins s σ H _ _ v u Q I rx ry ⟨_,_,rfl,rfl,k _ m _ H h Ext.refl ok .ofBl⟩
  · exact h.elim
theorem zo3 (hu:X.A.units + 100 < cLine):OpD X (compareOp .Eq) aEq:=by
  intro pins s σ H Z m x y dx dy v u R Q I ok rx ry r1 r2 h k
  unfold aEq at h
  split at h
  · cases r1.str; cases r2.str
    refine zbn4 pins s σ H _ _ v u Q I rx ry ⟨rfl,?_⟩
    have e:∀ a b:Str,decide (V.str a=V.str b)=decide (a=b):=fun a b=>by
      rw [Bool.eq_iff_iff]
      simp
    rw [e]
    exact k _ m _ H h Ext.refl ok .ofBl
  · rename_i p q hne
    obtain ⟨h1,h2,h3,h4⟩:=h
    obtain ⟨as,ra⟩:=RP.reads I p x v r1 rx
    obtain ⟨bs,rb⟩:=RP.reads I q y u r2 ry
    exact SeqAt.compareEq_reads ra rb h1 h2 (by omega) ⟨.bl _,H,I,rfl,k _ m _ H h4 Ext.refl ok .ofBl⟩
  · exact h.elim
theorem zaO0 (hu:X.A.units + 100 < cLine):OpD X (compareOp .NotEq) aNe:=by
  intro pins s σ H Z m x y dx dy v u R Q I ok rx ry r1 r2 h k
  unfold aNe at h
  split at h
  · cases r1.str; cases r2.str
    refine zbo4 pins s σ H _ _ v u Q I rx ry ⟨rfl,?_⟩
    have e:∀ a b:Str,decide (V.str a=V.str b)=decide (a=b):=fun a b=>by
      rw [Bool.eq_iff_iff]
      simp
    rw [e]
    exact k _ m _ H h Ext.refl ok .ofBl
  · rename_i p q hne
    obtain ⟨h1,h2,h3,h4⟩:=h
    obtain ⟨as,ra⟩:=RP.reads I p x v r1 rx
    obtain ⟨bs,rb⟩:=RP.reads I q y u r2 ry
    exact SeqAt.compareNe_reads ra rb h1 h2 (by omega) ⟨.bl _,H,I,rfl,k _ m _ H h4 Ext.refl ok .ofBl⟩
  · exact h.elim
theorem zaN4 {pins:List (Addr×Obj)} {s:Shared} {σ:L2.St} {H:Hp} {Q:VK} {a b:Addr} {ys:List V} (I:Inv X pins σ H s) (ha:SqT X.K H a []) (hb:SqT X.K H b ys) (q:Q (.ref b) H) :
    wpAny (model X.prog X.w) X.A (binaryOp .Add (.ref a) (.ref b)) (EP X pins σ Q) X.xe s:=by
  obtain ⟨its,r1,p1,_⟩:=I.tuple ha
  obtain ⟨its2,r2,p2,_⟩:=I.tuple hb
  cases r1
  obtain ⟨⟨cls,dd,data,sl⟩,ho,hc,n,hd⟩:=id p1
  obtain ⟨⟨cls2,dd2,data2,sl2⟩,ho2,hc2,n2,hd2⟩:=id p2
  simp only at hc hd hc2 hd2
  subst hc hd hc2 hd2
  exact concat_meets ⟨_,ho,rfl⟩ ⟨_,ho2,rfl⟩ noFill_tuple_add seq_tuple_add PySem.F.slot_tuple_add PySem.F.entry_tuple_add (PySem.F.args_tuple_add_2 _ _)
      (tuple_addW0 a b _ _ n n2 dd dd2 sl sl2 (by simp)) ⟨ho,ho2,⟨.ref b,H,I,rfl,q⟩⟩
theorem zaB0:OpR X (binaryOp .Add) (fun x y H Q=>∃ a b xs ys,x=.ref a∧y=.ref b∧SqL X.K H a xs∧SqL X.K H b ys∧xs.length + ys.length≤sizeLine∧∀ p,H p=none→Q (.ref p) (upd H p (.lst (xs++ys)))):=by
  intro pins s σ H x y v u Q I rx ry h
  obtain ⟨a,b,xs,ys,rfl,rfl,ha,hb,hz,q⟩:=h
  cases rx
  cases ry
  obtain ⟨its,r1,p1,_⟩:=I.list ha
  obtain ⟨its2,r2,p2,_⟩:=I.list hb
  obtain ⟨⟨cls,dd,data,sl⟩,ho,hc,n,hd⟩:=id p1.isList
  obtain ⟨⟨cls2,dd2,data2,sl2⟩,ho2,hc2,n2,hd2⟩:=id p2.isList
  simp only at hc hd hc2 hd2
  subst hc hd hc2 hd2
  have l1:=r1.length
  have l2:=r2.length
  have e:its.toArray++its2.toArray=(its++its2).toArray:=by simp
  refine concat_meets ⟨_,ho,rfl⟩ ⟨_,ho2,rfl⟩ noFill_list_add seq_list_add PySem.F.slot_list_add PySem.F.entry_list_add (PySem.F.args_list_add_2 _ _)
      (list_addW a b its.toArray its2.toArray n n2 dd dd2 sl sl2 (by rw [List.size_toArray,List.size_toArray]; omega)) ⟨ho,ho2,?_⟩
  rw [e]
  exact ⟨.ref s.heap.objs.size,_,I.laid (t':=s.toks) (o:=.lst (xs++ys)) (fun b ob q=>Heap.get?_push_of_some _ q) (Nat.le_refl _) ⟨by rw [List.length_append]; omega,_,0,r1.append r2,Heap.get?_push_size _ rfl⟩,rfl,q _ (I.hok.fresh (Nat.le_refl _))⟩
theorem zf2:OpD X (binaryOp .Add) aAdd:=by
  intro pins s σ H Z m x y dx dy v u R Q I ok rx ry r1 r2 h k
  unfold aAdd at h
  split at h
  · cases r1.int; cases r2.int
    exact zbh5 pins s σ H _ _ v u Q I rx ry ⟨_,_,rfl,rfl,k _ m _ H h Ext.refl ok .ofInt⟩
  · cases r1.str; cases r2.str
    exact zaz6 pins s σ H _ _ v u Q I rx ry ⟨_,_,rfl,rfl,h.1,k _ m _ H h.2 Ext.refl ok .ofStr⟩
  · rename_i a b
    simp only [RD,RP] at r1 r2
    obtain ⟨p,vs,rfl,h1,h2⟩:=r1
    obtain ⟨q,ws,rfl,g1,g2⟩:=r2
    have l1:=h2.length
    have l2:=g2.length
    by_cases e1:a=[]
    · subst e1
      simp only [RPs] at h2
      subst h2
      cases rx; cases ry
      refine zaN4 I h1 g1 (k _ m _ H h.2 Ext.refl ok ?_)
      simp only [RD,RP]
      exact ⟨q,ws,rfl,g1,by simpa using g2⟩
    · refine zaX3 pins s σ H _ _ v u Q I rx ry ⟨p,q,vs,ws,rfl,rfl,h1,g1,?_,by omega,fun e2=>?_,fun e2 t ht=>?_⟩
      · rintro rfl
        cases a with
        | nil=>exact e1 rfl
        | cons _ _=>simp at l1
      · subst e2
        have e3:b=[]:=by cases b with | nil=>rfl | cons _ _=>simp at l2
        subst e3
        refine k _ m _ H h.2 Ext.refl ok ?_
        simp only [RD,RP]
        exact ⟨p,vs,rfl,h1,by simpa using h2⟩
      · have sm:Same H (upd H t (.tup (vs++ws))):=zf9 ht
        refine k _ m _ _ h.2 (ok.ext sm) (ok.grow sm) ?_
        simp only [RD,RP]
        exact ⟨t,_,rfl,.inl (.inl zf4),RPs.ext (ok.ext sm) _ _ (h2.append g2)⟩
  · rename_i a b
    simp only [RD,RP] at r1 r2
    obtain ⟨p,vs,rfl,h0,h1,h2⟩:=r1
    obtain ⟨q,ws,rfl,g0,g1,g2⟩:=r2
    have l1:=h2.length
    have l2:=g2.length
    refine zaB0 pins s σ H _ _ v u Q I rx ry ⟨p,q,vs,ws,rfl,rfl,h1,g1,by omega,fun t ht=>?_⟩
    have sm:Same H (upd H t (.lst (vs++ws))):=zf9 ht
    refine k _ m _ _ h.2 (ok.ext sm) (ok.grow sm) ?_
    simp only [RD,RP]
    exact ⟨t,_,rfl,zF8 ok ht,.inl (.inl zf4),RPs.ext (ok.ext sm) _ _ (h2.append g2)⟩
  · rename_i c b
    obtain ⟨aa,hm,hz,hq⟩:=h
    obtain ⟨rfl,_⟩:=r1
    obtain ⟨vs,g0,g3⟩:=ok.l hm
    simp only [RD,RP] at r2
    obtain ⟨q,ws,rfl,_,g1,g2⟩:=r2
    have l1:=g3.length
    have l2:=g2.length
    refine zaB0 pins s σ H _ _ v u Q I rx ry ⟨c,q,vs,ws,rfl,rfl,.inl (.inl g0),g1,by omega,fun t ht=>?_⟩
    have sm:Same H (upd H t (.lst (vs++ws))):=zf9 ht
    refine k _ m _ _ hq (ok.ext sm) (ok.grow sm) ?_
    simp only [RD,RP]
    exact ⟨t,_,rfl,zF8 ok ht,.inl (.inl zf4),RPs.ext (ok.ext sm) _ _ (g3.append g2)⟩
  · exact h.elim
end
end DL
set_option Elab.async false
set_option linter.all false
set_option maxRecDepth 100000
set_option maxHeartbeats 4000000
namespace DL
open PySem PySem.Spec PyProof.Rows L2
section
variable {X:Cx} {a b c e:Expr} {es:List Expr} {f g:DE} {ga:DA} {pos p2 p:Pos}
@[simp] def dNeg (f:DE):DE:=fun d m Q=>f d m fun x m1=>∃ i,x=.dat (.int i)∧Q (.dat (.int (-i))) m1
theorem zbh9 (ha:PE X a (LE X.K f)):PE X (.UnaryOp .USub a pos) (LE X.K (dNeg f)) :=
  PE.imp (zbm6 zbf8 ha) fun s H Q h=>by
    obtain ⟨Z,d,m,R,ok,rs,h,k⟩:=h
    refine ⟨Z,d,m,_,ok,rs,h,fun x m1 v H1 ⟨i,e,q⟩ e1 ok1 rd=>?_⟩
    subst e
    exact ⟨i,rd.int,k _ m1 _ H1 q e1 ok1 .ofInt⟩
@[simp] def aIx:D2
  | .dat (.tuple xs),.dat (.int i),m,Q=>∃ p,atI xs i=some p∧Q (.dat p) m
  | .dat (.list xs),.dat (.int i),m,Q=>∃ p,atI xs i=some p∧Q (.dat p) m
  | .cel a,.dat (.int i),m,Q=>∃ xs p,m a=some (.l xs)∧atI xs i=some p∧Q (.dat p) m
  | .dat (.str z),.dat (.int i),m,Q=>∃ c,z.length≤sizeLine∧atI z.cps.toList i=some c∧Q (.dat (.str ⟨#[c]⟩)) m
  | _,_,_,_=>False
theorem RPs.at {K:PySem.W.Frag} {Z:Addr→Prop} {m:Mu} {H:Hp} {xs:List PyData} {vs:List V} {i:Int} {p:PyData} (h:RPs K Z m H xs vs) (e:atI xs i=some p):∃ v,atI vs i=some v∧RP K Z m H p v:=by
  unfold atI at e ⊢
  rw [h.length]
  cases q:ixN xs.length i with
  | none=>rw [q] at e; cases e
  | some j =>
    rw [q] at e
    exact h.get (i:=j) e
theorem zbp4 (ha:PE X a (LE X.K f)) (hb:PE X b (LE X.K g)) (hs:zap0 b:=by exact fun _ _=>rfl):PE X (.Subscript a b pos) (LE X.K (dBin aIx f g)) :=
  PE.imp (zbq2 zbf2 ha hb hs) fun s H Q h=>by
    obtain ⟨Z,d,m,R,ok,rs,h,k⟩:=h
    refine ⟨Z,d,m,_,ok,rs,h,fun x m1 v H1 q e1 ok1 rx=>⟨Z,d,m1,_,ok1,rs.ext e1,q,fun y m2 w H2 q2 e2 ok2 ry=>?_⟩⟩
    have rx2:=rx.ext e2
    have e12:=e1.trans e2
    unfold aIx at q2
    split at q2
    · obtain ⟨p,ep,q⟩:=q2
      cases ry.int
      simp only [RD,RP] at rx2
      obtain ⟨a,vs,rfl,h1,h2⟩:=rx2
      obtain ⟨z,ez,rz⟩:=h2.at ep
      exact .inr (.inl ⟨a,vs,_,z,rfl,rfl,h1,ez,k _ m2 z H2 q e12 ok2 rz⟩)
    · obtain ⟨p,ep,q⟩:=q2
      cases ry.int
      simp only [RD,RP] at rx2
      obtain ⟨a,vs,rfl,_,h1,h2⟩:=rx2
      obtain ⟨z,ez,rz⟩:=h2.at ep
      exact .inl ⟨a,vs,_,z,rfl,rfl,h1,ez,k _ m2 z H2 q e12 ok2 rz⟩
    · obtain ⟨xs,p,hm,ep,q⟩:=q2
      cases ry.int
      obtain ⟨rfl,_⟩:=rx2
      obtain ⟨vs,h1,h2⟩:=ok2.l hm
      obtain ⟨z,ez,rz⟩:=h2.at ep
      exact .inl ⟨_,vs,_,z,rfl,rfl,.inl (.inl h1),ez,k _ m2 z H2 q e12 ok2 rz⟩
    · obtain ⟨c,hz,ec,q⟩:=q2
      cases ry.int
      cases rx2.str
      exact .inr (.inr ⟨_,_,c,rfl,rfl,hz,ec,k _ m2 _ H2 q e12 ok2 .ofStr⟩)
    · exact q2.elim
abbrev DO:=St2→Mu→(Option Int→Mu→Prop)→Prop
def LO (K:PySem.W.Frag) (f:DO):TO:=fun s H Q=>∃ (Z:Addr→Prop) (d:St2) (m:Mu) (R:Option Int→Mu→Prop),Ok K Z m H∧RS K Z m H d s∧f d m R ∧
  ∀ x m' H',R x m'→Ext K Z m H m' H'→Ok K Z m' H'→Q x H'
@[simp] def dNoP:DO:=fun _ m Q=>Q none m
@[simp] def zag9 (f:DE):DO:=fun d m Q=>f d m fun x m1=>∃ i,x=.dat (.int i)∧Q (some i) m1
theorem PO.imp {e:Option Expr} {t t':TO} (h:PO X e t) (q:∀ s H Q,t' s H Q→t s H Q):PO X e t':=fun pins s d H Q I w=>h pins s d H Q I (q _ _ _ w)
theorem zaZ5:PO X none (LO X.K dNoP):=PO.imp zaY1 fun s H Q h=>by
  obtain ⟨Z,d,m,R,ok,rs,h,k⟩:=h
  exact k none m H h Ext.refl ok
theorem zaX4 (ha:PE X a (LE X.K f)):PO X (some a) (LO X.K (zag9 f)):=PO.imp (zaU0 ha) fun s H Q h=>by
  obtain ⟨Z,d,m,R,ok,rs,h,k⟩:=h
  refine ⟨Z,d,m,_,ok,rs,h,fun x m1 v H1 ⟨i,e,q⟩ e1 ok1 rd=>?_⟩
  subst e
  exact ⟨i,rd.int,k _ m1 H1 q e1 ok1⟩
def cutP {α:Type} (xs:List α) (lo hi:Option Int):List α:=(xs.drop (HT.sIx xs.length 0 lo)).take (HT.sIx xs.length xs.length hi - HT.sIx xs.length 0 lo)
theorem RPs.cut {K:PySem.W.Frag} {Z:Addr→Prop} {m:Mu} {H:Hp} {xs:List PyData} {vs:List V} {lo hi:Option Int} (h:RPs K Z m H xs vs):RPs K Z m H (cutP xs lo hi) (cutV vs lo hi):=by
  unfold cutP cutV
  rw [h.length]
  exact (h.drop _).take _
theorem zaG0 {α:Type} (xs:List α) {lo hi:Option Int} (h:HT.sIx xs.length 0 lo=0∧HT.sIx xs.length xs.length hi=xs.length):cutP xs lo hi=xs:=by
  unfold cutP
  rw [h.1,h.2]
  simp
def rSlW (K:PySem.W.Frag):V→Option Int→Option Int→Hp→VK→Prop:=fun x lo hi H Q=>∃ a xs,x=.ref a∧SqT K H a xs ∧
  (HT.sIx xs.length 0 lo=0∧HT.sIx xs.length xs.length hi=xs.length)∧Q (.ref a) H
theorem zM4 {prog:Program} {w:World} {A:Around} {E:Value→Shared→Prop} {s:Shared} {t sl:Addr} {items:Array Value} {vl vu:Value} {lo hi:Option Int} {Q:Value→Shared→Prop} (ht:IsTup s.heap t items) (hs:s.heap.IsSliceOf sl vl vu .none) (pl:IsPart vl lo) (pu:IsPart vu hi)
    (hw:HT.sIx items.size 0 lo=0∧HT.sIx items.size items.size hi=items.size)
    (h:Q (.ref t) s):wpAny (model prog w) A (getItem (.ref t) (.ref sl)) Q E s:=by
  obtain ⟨os,hos,hcs,hds⟩:=id hs
  have hTs:s.TypeIs (.ref sl) "slice":=⟨os,hos,hcs⟩
  unfold getItem
  try with_reducible refine wpAny_holding ?_
  first | refine wpAny_bind (wpAny_pure ?_) | skip
  refine wpAny_bind (wpAny_sequenceKey ht.typeIs (by decide) ?_)
  refine wpAny_bind (wpAny_callSpecial?_slot (name:=Str.ofString "__getitem__") ht.typeIs PyProof.Rows.slot_tuple_getitem
    (wpAny_call_entry PyProof.Rows.slot_tuple_getitem ht.typeIs entry_tuple_getitem ?_ (args_tuple_getitem _ _)))
  show wpAny _ _ (Builtin.Tuple.tupleItemsOf (.ref t)>>=_) _ _ s
  refine wpAny_bind (tupleItemsOf_ ht ?_)
  refine wpAny_bind (wpAny_typeOf hTs ?_)
  rw [if_pos (by decide)]
  refine wpAny_bind (HT.sliceApplied_gen hs pl pu ?_)
  have hyes:(((HT.sIx items.size 0 lo:Nat):Int) == 0 && (1:Int) == 1 && (HT.sIx items.size items.size hi - HT.sIx items.size 0 lo) == items.size)=true:=by
    rw [hw.1,hw.2]
    simp
  show wpAny _ _ (if (((HT.sIx items.size 0 lo:Nat):Int) == 0 && (1:Int) == 1 && (HT.sIx items.size items.size hi - HT.sIx items.size 0 lo) == items.size)=true then _ else _) _ _ s
  rw [if_pos hyes]
  refine wpAny_bind ?_
  unfold Builtin.Tuple.tupleIsExact
  refine wpAny_bind (wpAny_typeOf ht.typeIs (wpAny_pure ?_))
  rw [if_pos (by decide)]
  first
    | exact wpAny_bind (wpAny_rule (wpAny_pure ⟨_,rfl,wpAny_pure h⟩))
    | exact wpAny_bind (wpAny_rule (wpAny_bind (wpAny_pure (wpAny_pure ⟨_,rfl,wpAny_pure h⟩))))
theorem zaK4:SlR X (rSlW X.K):=by
  intro pins s σ H x v vl vu lo hi sl Q I rx hs pl pu h
  obtain ⟨a,xs,rfl,hx,hw,q⟩:=h
  cases rx
  obtain ⟨its,r,ht,hz⟩:=I.tuple hx
  have hlen:its.toArray.size=xs.length:=by rw [List.size_toArray]; exact r.length.symm
  refine ⟨"tuple",_,PyProof.Rows.slot_tuple_getitem.lookup,ht.typeIs,?_⟩
  exact zM4 ht hs pl pu (by rw [hlen]; exact hw) ⟨.ref a,H,I,rfl,q⟩
abbrev DC:=List D→Mu→DK→Prop
def CallD (X:Cx) (fn:Value) (r:DC):Prop :=
  ∀ (pins:List (Addr×Obj)) (s:Shared) (σ:L2.St) (H:Hp) (Z:Addr→Prop) (m:Mu) (xs:List V) (ds:List D) (us:List Value) (R:DK) (Q:VK),Inv X pins σ H s→Ok X.K Z m H→Vals xs us→RDs X.K Z m H ds xs→r ds m R →
    (∀ d m' v' H',R d m'→Ext X.K Z m H m' H'→Ok X.K Z m' H'→RD X.K Z m' H' d v'→Q v' H')→wpAny (model X.prog X.w) X.A (call fn us) (EP X pins σ Q) X.xe s
theorem CallD.cr {fn:Value} {r:DC} (h:CallD X fn r):CallR X fn (fun vs H Q=>∃ Z m ds R,Ok X.K Z m H∧RDs X.K Z m H ds vs∧r ds m R∧∀ d m' v' H',R d m'→Ext X.K Z m H m' H'→Ok X.K Z m' H'→RD X.K Z m' H' d v'→Q v' H'):=by
  intro pins s σ H xs us Q I r1 ⟨Z,m,ds,R,ok,rd,q,k⟩
  exact h pins s σ H Z m xs ds us R Q I ok r1 rd q k
@[simp] def zc6 (r:DC) (g:DA):DE:=fun d m Q=>g d m fun xs m1=>r xs m1 Q
theorem LE.call {r:DC} {H:Hp} {σ:L2.St} {Q:VK} (h:LE X.K (zc6 r ga) σ H Q) :
    LA X.K ga σ H fun vs H1=>∃ Z m ds R,Ok X.K Z m H1∧RDs X.K Z m H1 ds vs∧r ds m R∧∀ d m' v' H',R d m'→Ext X.K Z m H1 m' H'→Ok X.K Z m' H'→RD X.K Z m' H' d v'→Q v' H':=by
  obtain ⟨Z,d,m,R,ok,rs,h,k⟩:=h
  exact ⟨Z,d,m,_,ok,rs,h,fun xs m1 vs H1 q e1 ok1 r1=>⟨Z,m1,xs,R,ok1,r1,q,fun d' m' v' H' h1 h2 h3 h4=>k d' m' v' H' h1 (e1.trans h2) h3 h4⟩⟩
theorem zaO1 {x:Str} {id:String} {r:DC} (hc:CallD X (.builtin id) r) (hg:Gl X x) (hm:X.mg x=none) (hv:bootBuiltins x=some (.builtin id)) (ha:PA X (e :: es) (LA X.K ga)) (hn:x≠"__name__":=by decide) (hdb:(x == ("__debug__" : Str))=false:=by decide)
    (he:starEach (e :: es) X.env=(false,eval e X.env) :: starEach es X.env:=by rfl) (hpl:(backTo pos (starEach es X.env)).any (·.1)=false:=by rfl):PE X (.Call (.Name x p) (e :: es) [] pos) (LE X.K (zc6 r ga)) :=
  PE.imp (zaw8 hc.cr hg hm hv ha hn hdb he hpl) fun s H Q h=>h.call
theorem zaE7 {x:Str} {T:String} {r:DC} (hc:CallD X (.type T) r) (hg:Gl X x) (hm:X.mg x=none) (hv:bootBuiltins x=some (.type T)) (ha:PA X (e :: es) (LA X.K ga)) (hn:x≠"__name__":=by decide) (hdb:(x == ("__debug__" : Str))=false:=by decide)
    (he:starEach (e :: es) X.env=(false,eval e X.env) :: starEach es X.env:=by rfl) (hpl:(backTo pos (starEach es X.env)).any (·.1)=false:=by rfl):PE X (.Call (.Name x p) (e :: es) [] pos) (LE X.K (zc6 r ga)) :=
  PE.imp (zaF5 hc.cr hg hm hv ha hn hdb he hpl) fun s H Q h=>h.call
theorem RDs.one {K:PySem.W.Frag} {Z:Addr→Prop} {m:Mu} {H:Hp} {x:D} {vs:List V} (h:RDs K Z m H [x] vs):∃ v,vs=[v]∧RD K Z m H x v:=by
  obtain ⟨v,r,h1,h2,h3⟩:=h
  cases (show r=[] from h3)
  exact ⟨v,h1,h2⟩
theorem RDs.two {K:PySem.W.Frag} {Z:Addr→Prop} {m:Mu} {H:Hp} {x y:D} {vs:List V} (h:RDs K Z m H [x,y] vs):∃ v w,vs=[v,w]∧RD K Z m H x v∧RD K Z m H y w:=by
  obtain ⟨v,r,h1,h2,h3⟩:=h
  obtain ⟨w,rfl,h4⟩:=RDs.one h3
  exact ⟨v,w,h1,h2,h4⟩
@[simp] def bLen:DC
  | [.dat (.tuple xs)],m,Q=>Q (.dat (.int xs.length)) m
  | [.dat (.list xs)],m,Q=>Q (.dat (.int xs.length)) m
  | [.dat (.str z)],m,Q=>z.length≤sizeLine∧Q (.dat (.int z.length)) m
  | [.cel a],m,Q=>∃ xs,m a=some (.l xs)∧Q (.dat (.int xs.length)) m
  | _,_,_=>False
theorem zp5:CallD X (.builtin "len") bLen:=by
  intro pins s σ H Z m xs ds us R Q I ok rv rd h k
  unfold bLen at h
  split at h
  · obtain ⟨v,rfl,r1⟩:=rd.one
    simp only [RD,RP] at r1
    obtain ⟨a,vs,rfl,h1,h2⟩:=r1
    refine zG6 pins s σ H _ us Q I rv ⟨a,vs,rfl,.inr h1,?_⟩
    rw [h2.length]
    exact k _ m _ H h Ext.refl ok .ofInt
  · obtain ⟨v,rfl,r1⟩:=rd.one
    simp only [RD,RP] at r1
    obtain ⟨a,vs,rfl,_,h1,h2⟩:=r1
    refine zG6 pins s σ H _ us Q I rv ⟨a,vs,rfl,.inl h1,?_⟩
    rw [h2.length]
    exact k _ m _ H h Ext.refl ok .ofInt
  · obtain ⟨v,rfl,r1⟩:=rd.one
    cases r1.str
    exact zak6 pins s σ H _ us Q I rv ⟨_,rfl,h.1,k _ m _ H h.2 Ext.refl ok .ofInt⟩
  · obtain ⟨v,rfl,r1⟩:=rd.one
    obtain ⟨rfl,_⟩:=r1
    obtain ⟨ys,hm,q⟩:=h
    obtain ⟨vs,h1,h2⟩:=ok.l hm
    refine zG6 pins s σ H _ us Q I rv ⟨_,vs,rfl,.inl (.inl (.inl h1)),?_⟩
    rw [h2.length]
    exact k _ m _ H q Ext.refl ok .ofInt
  · exact h.elim
@[simp] def bAbs:DC
  | [.dat (.int i)],m,Q=>Q (.dat (.int (if i < 0 then -i else i))) m
  | _,_,_=>False
theorem zaF1:CallD X (.builtin "abs") bAbs:=by
  intro pins s σ H Z m xs ds us R Q I ok rv rd h k
  unfold bAbs at h
  split at h
  · obtain ⟨v,rfl,r1⟩:=rd.one
    cases r1.int
    exact zaM8 pins s σ H _ us Q I rv ⟨_,rfl,k _ m _ H h Ext.refl ok .ofInt⟩
  · exact h.elim
@[simp] def bMax:DC
  | [.dat (.int i),.dat (.int j)],m,Q=>Q (.dat (.int (if j > i then j else i))) m
  | _,_,_=>False
theorem zbj6 (hc:X.calm=true):CallD X (.builtin "max") bMax:=by
  intro pins s σ H Z m xs ds us R Q I ok rv rd h k
  unfold bMax at h
  split at h
  · obtain ⟨v,w,rfl,r1,r2⟩:=rd.two
    cases r1.int
    cases r2.int
    exact zaA3 hc pins s σ H _ us Q I rv ⟨_,_,rfl,k _ m _ H h Ext.refl ok .ofInt⟩
  · exact h.elim
@[simp] def bInt:DC
  | [.dat (.int i)],m,Q=>Q (.dat (.int i)) m
  | [.dat (.bool b)],m,Q=>Q (.dat (.int (if b then 1 else 0))) m
  | _,_,_=>False
theorem zaQ8:CallD X (.type "int") bInt:=by
  intro pins s σ H Z m xs ds us R Q I ok rv rd h k
  unfold bInt at h
  split at h
  · obtain ⟨v,rfl,r1⟩:=rd.one
    cases r1.int
    exact zak4 pins s σ H _ us Q I rv (.inl ⟨_,rfl,k _ m _ H h Ext.refl ok .ofInt⟩)
  · obtain ⟨v,rfl,r1⟩:=rd.one
    cases r1.bl
    exact zak4 pins s σ H _ us Q I rv (.inr ⟨_,rfl,k _ m _ H h Ext.refl ok .ofInt⟩)
  · exact h.elim
@[simp] def zU5:DC
  | [.dat p],m,Q=>p.showable=true∧p.shown.length≤sizeLine∧p.depth≤100∧Q (.dat (.str p.shown)) m
  | _,_,_=>False
theorem zz6 (hu:X.A.units + 200 < cLine) (hg:X.A.guards=some []):CallD X (.builtin "repr") zU5:=by
  intro pins s σ H Z m xs ds us R Q I ok rv rd h k
  unfold zU5 at h
  split at h
  · rename_i p
    obtain ⟨v,rfl,r1⟩:=rd.one
    obtain ⟨u,rfl,ru⟩:=zN6 rv
    obtain ⟨h1,h2,h3,h4⟩:=h
    have fin:∀ (tk tk':Nat),EP X pins σ Q (.str p.shown tk) { s with toks:=tk' }:=fun tk tk'=>⟨.str p.shown,H,I.tok _,⟨_,rfl⟩,k _ m _ H h4 Ext.refl ok .ofStr⟩
    obtain ⟨as,rd⟩:=RP.reads I p v u r1 ru
    have nd:=RP.noDict X.K p v r1
    cases rd with
    | none=>exact PySem.P.repr_of_none (fin _ _)
    | bool b=>exact PySem.P.repr_of_bool (by simpa only [PyData.shown] using fin _ _)
    | int i t=>exact PySem.P.repr_of_int (by simpa [PyData.showable] using h1) (by simpa only [PyData.shown] using fin _ _)
    | str x t=>exact PySem.P.repr_of_str (by simpa only [PyData.shown] using fin _ _) (by simpa only [PyData.shown] using h2)
    | list q1 q2 q3 q4 =>
      refine repr_of_reads' (.list q1 q2 q3 q4) h1 (PyData.noDict_hsm nd) hg (by omega) (fun _ _ e=>e) (fun h' u tk kp=>⟨.str _,H,I.kept kp,⟨_,rfl⟩,k _ m _ H h4 Ext.refl ok .ofStr⟩) h2
    | tuple q1 q2 q3 q4 =>
      refine repr_of_reads' (.tuple q1 q2 q3 q4) h1 (PyData.noDict_hsm nd) hg (by omega) (fun _ _ e=>e) (fun h' u tk kp=>⟨.str _,H,I.kept kp,⟨_,rfl⟩,k _ m _ H h4 Ext.refl ok .ofStr⟩) h2
    | dict q1 q2 q3 q4 q5=>simp only [PyData.hasDict] at nd; cases nd
  · exact h.elim
end
end DL
set_option Elab.async false
set_option linter.all false
set_option maxRecDepth 100000
set_option maxHeartbeats 4000000
namespace DL
open PySem PySem.Spec PyProof.Rows L2
section
variable {X:Cx} {st:Stmt} {rest body orelse:List Stmt} {t u b:DS} {e c tg iter:Expr} {f:DE} {tc:DT} {pos:Pos}
@[simp] def zb7:DS:=fun E d m=>E.nx d m
@[simp] def dSeq (t u:DS):DS:=fun E d m=>t { E with nx:=u E } d m
theorem zaT3:PSs X [] (LS X.K zb7):=PSs.imp zaY9 fun E s H h=>by
  obtain ⟨Z,d,m,R,ok,rs,h,k,_⟩:=h
  exact k d m s H h Ext.refl ok rs
theorem zaM1 (h1:PS X st (LS X.K t)) (h2:PSs X rest (LS X.K u)):PSs X (st :: rest) (LS X.K (dSeq t u)):=PSs.imp (zaP6 h1 h2) fun E s H h=>by
  obtain ⟨Z,d,m,R,ok,rs,h,kn,kr,kb,kc⟩:=h
  refine ⟨Z,d,m,_,ok,rs,h,fun d' m' s' H' q e1 ok1 rs1=>⟨Z,d',m',R,ok1,rs1,q,?_,?_,?_,?_⟩,kr,kb,kc⟩
  · exact fun d2 m2 s2 H2 q2 e2 ok2 rs2=>kn d2 m2 s2 H2 q2 (e1.trans e2) ok2 rs2
  · exact fun x m2 v H2 q2 e2 ok2 r2=>kr x m2 v H2 q2 (e1.trans e2) ok2 r2
  · exact fun d2 m2 s2 H2 q2 e2 ok2 rs2=>kb d2 m2 s2 H2 q2 (e1.trans e2) ok2 rs2
  · exact fun d2 m2 s2 H2 q2 e2 ok2 rs2=>kc d2 m2 s2 H2 q2 (e1.trans e2) ok2 rs2
@[simp] def zac3 (f:DE):DS:=fun E d m=>f d m fun _ m1=>E.nx d m1
theorem zaV2 (he:PE X e (LE X.K f)) (hs:swapsWith e none pos.line X.env=pure false:=by rfl):PS X (.Expr e pos) (LS X.K (zac3 f)):=PS.imp (zaU5 he hs) fun E s H h=>by
  obtain ⟨Z,d,m,R,ok,rs,h,k,_⟩:=h
  exact ⟨Z,d,m,_,ok,rs,h,fun x m1 v H1 q e1 ok1 r1=>k d m1 s H1 q e1 ok1 (rs.ext e1)⟩
@[simp] def dRet (f:DE):DS:=fun E d m=>f d m E.rt
theorem zbg7 (he:PE X e (LE X.K f)):PS X (.Return (some e) pos) (LS X.K (dRet f)):=PS.imp (zbj7 he) fun E s H h=>by
  obtain ⟨Z,d,m,R,ok,rs,h,_,kr,_⟩:=h
  exact ⟨Z,d,m,_,ok,rs,h,fun x m1 v H1 q e1 ok1 r1=>kr x m1 v H1 q e1 ok1 r1⟩
@[simp] def dIf (c:DT) (t u:DS):DS:=fun E d m=>c d m fun k m1=>if k=true then t E d m1 else u E d m1
theorem zbl4 (hc:PT X c (LT X.K tc)) (h1:PSs X body (LS X.K t)) (h2:PSs X orelse (LS X.K u)):PS X (.If c body orelse pos) (LS X.K (dIf tc t u)):=PS.imp (zbn6 hc h1 h2) fun E s H h=>by
  obtain ⟨Z,d,m,R,ok,rs,h,kn,kr,kb,kc⟩:=h
  refine ⟨Z,d,m,_,ok,rs,h,fun k m1 H1 q e1 ok1=>?_⟩
  have mk:∀ {z:DS},z R d m1→LS X.K z E s H1:=fun q=>⟨Z,d,m1,R,ok1,rs.ext e1,q,
    fun d2 m2 s2 H2 q2 e2 ok2 rs2=>kn d2 m2 s2 H2 q2 (e1.trans e2) ok2 rs2,fun x m2 v H2 q2 e2 ok2 r2=>kr x m2 v H2 q2 (e1.trans e2) ok2 r2,
    fun d2 m2 s2 H2 q2 e2 ok2 rs2=>kb d2 m2 s2 H2 q2 (e1.trans e2) ok2 rs2,fun d2 m2 s2 H2 q2 e2 ok2 rs2=>kc d2 m2 s2 H2 q2 (e1.trans e2) ok2 rs2⟩
  cases k with
  | true=>exact iteT (mk (by simpa using q))
  | false=>exact iteF (mk (by simpa using q))
@[simp] def dSet (i:Nat) (f:DE):DS:=fun E d m=>f d m fun x m1=>E.nx (d.set i (some x)) m1
theorem zba7 (i:Nat) {x:Str} {pos':Pos} (hN:X.N.Nodup) (he:PE X e (LE X.K f)) (hi:X.N[i]?=some x:=by rfl) (hx:Loc X.env.scope x:=by first | exact Or.inl rfl | exact Or.inr rfl)
    (hs:swapsWith e (some (.Name x pos')) pos.line X.env=pure false:=by rfl) (hf:X.fn x=true∨X.env.scope.names.lookup x=some .local:=by first | exact .inl rfl | exact .inr rfl) :
    PS X (.Assign [.Name x pos'] e pos) (LS X.K (dSet i f)):=PS.imp (zbb3 hN hi hx he hs hf) fun E s H h=>by
  obtain ⟨Z,d,m,R,ok,rs,h,k,_⟩:=h
  exact ⟨Z,d,m,_,ok,rs,h,fun x m1 v H1 q e1 ok1 r1=>k _ m1 _ H1 q e1 ok1 ((rs.ext e1).set r1)⟩
abbrev DG:=D→St2→Mu→(St2→Mu→Prop)→Prop
abbrev DGs:=List PyData→St2→Mu→(St2→Mu→Prop)→Prop
def LG (K:PySem.W.Frag) (g:DG):TG:=fun v s H Q=>∃ Z x d m R,Ok K Z m H∧RS K Z m H d s∧RD K Z m H x v∧g x d m R∧∀ d' m' s' H',R d' m'→Ext K Z m H m' H'→Ok K Z m' H'→RS K Z m' H' d' s'→Q s' H'
def LGs (K:PySem.W.Frag) (g:DGs):TGs:=fun vs s H Q=>∃ Z ps d m R,Ok K Z m H∧RS K Z m H d s∧RPs K Z m H ps vs∧g ps d m R∧∀ d' m' s' H',R d' m'→Ext K Z m H m' H'→Ok K Z m' H'→RS K Z m' H' d' s'→Q s' H'
theorem PG.imp {t t':TG} (h:PG X e t) (q:∀ v s H Q,t' v s H Q→t v s H Q):PG X e t':=fun pins s d H v u Q I r w=>h pins s d H v u Q I r (q _ _ _ _ w)
theorem PGs.imp {es:List Expr} {t t':TGs} (h:PGs X es t) (q:∀ v s H Q,t' v s H Q→t v s H Q):PGs X es t':=fun pins s d H v u Q I r w=>h pins s d H v u Q I r (q _ _ _ _ w)
@[simp] def gN (i:Nat):DG:=fun x d m Q=>Q (d.set i (some x)) m
theorem zaW4 (i:Nat) {x:Str} (hN:X.N.Nodup) (hi:X.N[i]?=some x:=by rfl) (hx:Loc X.env.scope x:=by first | exact Or.inl rfl | exact Or.inr rfl)
    (hf:X.fn x=true∨X.env.scope.names.lookup x=some .local:=by first | exact .inl rfl | exact .inr rfl):PG X (.Name x pos) (LG X.K (gN i)):=PG.imp (zaY3 hN hi hx hf) fun v s H Q h=>by
  obtain ⟨Z,x,d,m,R,ok,rs,rd,h,k⟩:=h
  exact k _ m _ H h Ext.refl ok (rs.set rd)
@[simp] def gN0:DGs:=fun ps d m Q=>ps=[]∧Q d m
@[simp] def gNs (g:DG) (r:DGs):DGs
  | p :: qs,d,m,Q=>g (.dat p) d m fun d' m'=>r qs d' m' Q
  | [],_,_,_=>False
theorem zaV9:PGs X [] (LGs X.K gN0):=PGs.imp zaW6 fun vs s H Q h=>by
  obtain ⟨Z,ps,d,m,R,ok,rs,rp,⟨rfl,h⟩,k⟩:=h
  simp only [RPs] at rp
  exact ⟨rp,k d m s H h Ext.refl ok rs⟩
theorem zaN2 {es:List Expr} {g:DG} {r:DGs} (h1:PG X e (LG X.K g)) (h2:PGs X es (LGs X.K r)) (hs:(assignEach (e :: es) X.env).map (·.2)=assign e X.env :: (assignEach es X.env).map (·.2):=by rfl) :
    PGs X (e :: es) (LGs X.K (gNs g r)):=PGs.imp (zaL9 h1 h2 hs) fun vs s H Q h=>by
  obtain ⟨Z,ps,d,m,R,ok,rs,rp,h,k⟩:=h
  match ps,rp,h with
  | [],_,h=>exact h.elim
  | p :: qs,rp,h =>
  simp only [RPs] at rp
  obtain ⟨v,w,rfl,r1,r2⟩:=rp
  exact ⟨v,w,rfl,Z,.dat p,d,m,_,ok,rs,r1,h,fun d' m' s' H' q e1 ok1 rs1=>⟨Z,qs,d',m',R,ok1,rs1,RPs.ext e1 _ _ r2,q,fun d2 m2 s2 H2 q2 e2 ok2 rs2=>k d2 m2 s2 H2 q2 (e1.trans e2) ok2 rs2⟩⟩
@[simp] def gT (n:Nat) (g:DGs):DG:=fun x d m Q=>∃ ps,x=.dat (.tuple ps)∧ps.length=n∧g ps d m Q
theorem zbc4 {es:List Expr} {j n:Nat} {g:DGs} (hc:X.calm=true) (h:PGs X es (LGs X.K g)) (hn:(assignEach es X.env).length=n:=by rfl) (hst:(assignEach es X.env).findIdx? (·.1)=none:=by rfl) :
    PG X (.Tuple es j pos) (LG X.K (gT n g)):=PG.imp (zbe2 hc h hn hst) fun v s H Q h=>by
  obtain ⟨Z,x,d,m,R,ok,rs,rd,⟨ps,rfl,hl,h⟩,k⟩:=h
  simp only [RD,RP] at rd
  obtain ⟨a,vs,rfl,h1,h2⟩:=rd
  exact ⟨a,vs,rfl,h1,by rw [h2.length]; exact hl,Z,ps,d,m,R,ok,rs,h2,h,k⟩
@[simp] def dAsg (f:DE) (g:DG):DS:=fun E d m=>f d m fun x m1=>g x d m1 E.nx
theorem zbh0 {g:DG} (he:PE X e (LE X.K f)) (hg:PG X tg (LG X.K g)) (hs:swapsWithSole [tg] e pos.line X.env=pure false:=by rfl) (hw:swappedStores [tg] e X.env=pure none:=by rfl)
    (h1:(assignEach [tg] X.env).map (·.2)=[assign tg X.env]:=by rfl):PS X (.Assign [tg] e pos) (LS X.K (dAsg f g)):=PS.imp (zaS6 he hg hs hw h1) fun E s H h=>by
  obtain ⟨Z,d,m,R,ok,rs,h,k,_⟩:=h
  exact ⟨Z,d,m,_,ok,rs,h,fun x m1 v H1 q e1 ok1 r1=>⟨Z,x,d,m1,_,ok1,rs.ext e1,r1,q,fun d2 m2 s2 H2 q2 e2 ok2 rs2=>k d2 m2 s2 H2 q2 (e1.trans e2) ok2 rs2⟩⟩
@[simp] def dPar (i j:Nat) (g:DA):DS:=fun E d m=>g d m fun xs m1=>∃ x y,xs=[x,y]∧E.nx ((d.set i (some x)).set j (some y)) m1
theorem zbg9 (i j:Nat) {x y:Str} {a b:Expr} {g:DA} {px py pt:Pos} {kt k2 pt2} (hc:X.calm=true) (hN:X.N.Nodup) (ha:PA X [a,b] (LA X.K g)) (hi:X.N[i]?=some x:=by rfl) (hj:X.N[j]?=some y:=by rfl) (hij:i≠j:=by decide)
    (hx:X.env.scope.names.lookup x=some .local:=by rfl) (hy:X.env.scope.names.lookup y=some .local:=by rfl)
    (hw:swappedStores [.Tuple [.Name x px,.Name y py] kt pt] (.Tuple [a,b] k2 pt2) X.env=pure (some [x,y]):=by rfl)
    (hs:swapsWithSole [.Tuple [.Name x px,.Name y py] kt pt] (.Tuple [a,b] k2 pt2) pos.line X.env=pure false:=by rfl) :
    PS X (.Assign [.Tuple [.Name x px,.Name y py] kt pt] (.Tuple [a,b] k2 pt2) pos) (LS X.K (dPar i j g)):=PS.imp (zbh3 hc hN hi hj hij hx hy ha hw hs) fun E s H h=>by
  obtain ⟨Z,d,m,R,ok,rs,h,k,_⟩:=h
  refine ⟨Z,d,m,_,ok,rs,h,fun xs m1 vs H1 ⟨x,y,e,q⟩ e1 ok1 r1=>?_⟩
  subst e
  obtain ⟨v,w,rfl,r1,r2⟩:=r1.two
  exact ⟨v,w,rfl,k _ m1 _ H1 q e1 ok1 (((rs.ext e1).set r1).set r2)⟩
@[simp] def dPut (fo fi f:DE):DS:=fun E d m=>f d m fun x m1=>fo d m1 fun o m2=>fi d m2 fun i m3 =>
  ∃ a k xs j p,o=.cel a∧i=.dat (.int k)∧x=.dat p∧m3 a=some (.l xs)∧ixN xs.length k=some j∧E.nx d (updM m3 a (.l (xs.set j p)))
theorem zbf3 {o i:Expr} {fo fi:DE} {tpos:Pos} (he:PE X e (LE X.K f)) (ho:PE X o (LE X.K fo)) (hi:PE X i (LE X.K fi))
    (ha:∀ v,assign (.Subscript o i tpos) X.env v=(do
      let ov ← holding [v] (eval o X.env)
      let iv ← holding [v,ov] (eval i X.env)
      standAt tpos
      holding [v,ov,iv] (setItem ov iv v)
      release [v,ov,iv] []):=by intro _; rfl)
    (hs:swapsWithSole [.Subscript o i tpos] e pos.line X.env=pure false:=by rfl) (hw:swappedStores [.Subscript o i tpos] e X.env=pure none:=by rfl)
    (h1:(assignEach [.Subscript o i tpos] X.env).map (·.2)=[assign (.Subscript o i tpos) X.env]:=by rfl):PS X (.Assign [.Subscript o i tpos] e pos) (LS X.K (dPut fo fi f)) :=
  PS.imp (zaS6 he (zbb0 ho hi zaM0 ha) hs hw h1) fun E s H h=>by
  obtain ⟨Z,d,m,R,ok,rs,h,k,_⟩:=h
  refine ⟨Z,d,m,_,ok,rs,h,fun x m1 v H1 q e1 ok1 r1=>⟨Z,d,m1,_,ok1,rs.ext e1,q,fun o m2 w H2 q2 e2 ok2 r2=>⟨Z,d,m2,_,ok2,(rs.ext e1).ext e2,q2,fun i m3 z H3 q3 e3 ok3 r3=>?_⟩⟩⟩
  obtain ⟨a,k',xs,j,p,rfl,rfl,rfl,hm,hj,q⟩:=q3
  cases r3.int
  obtain ⟨rfl,_⟩:=r2.ext e3
  obtain ⟨vs,g1,g2⟩:=ok3.l hm
  have r1':=r1.ext (e2.trans e3)
  refine ⟨a,vs,k',j,rfl,rfl,g1,by rw [g2.length]; exact hj,?_⟩
  have e4:Ext X.K Z m3 H3 (updM m3 a (.l (xs.set j p))) (upd H3 a (.lst (vs.set j v))):=Ext.put ok3 hm g1
  exact k d _ s _ q (e1.trans (e2.trans (e3.trans e4))) (ok3.put hm g1 (g2.set r1')) ((rs.ext e1).ext (e2.trans (e3.trans e4)))
def zau4 (c:DT) (b:DS):DS:=fun E d m=>∃ W:Nat→St2→Mu→Prop,(∃ n,W n d m)∧∀ n d m,W n d m →
  c d m fun k m1=>if k=true then ∃ N:St2→Mu→Prop,(∀ d' m',N d' m'→∃ n',n' < n∧W n' d' m')∧b { E with nx:=N,ct:=N,bk:=E.nx } d m1 else E.nx d m1
theorem zaO2 (hp:PassesOwn (model X.prog X.w) X.A X.env X.xe) (hc:PT X c (LT X.K tc)) (hb:PSs X body (LS X.K b)):PS X (.While c body [] pos) (LS X.K (zau4 tc b)):=PS.imp (zaO4 hp hc hb) fun E s H h=>by
  obtain ⟨Z,d,m,R,ok,rs,⟨W,⟨n0,w0⟩,turn⟩,kn,kr,kb,kc⟩:=h
  refine ⟨fun n s' H'=>∃ d' m',Ext X.K Z m H m' H'∧Ok X.K Z m' H'∧RS X.K Z m' H' d' s'∧W n d' m',⟨n0,d,m,Ext.refl,ok,rs,w0⟩,?_⟩
  rintro n s1 H1 ⟨d1,m1,e1,ok1,rs1,w1⟩
  refine ⟨Z,d1,m1,_,ok1,rs1,turn n d1 m1 w1,fun k m2 H2 q e2 ok2=>?_⟩
  cases k with
  | false =>
    rw [if_neg Bool.false_ne_true] at q ⊢
    exact kn d1 m2 s1 H2 q (e1.trans e2) ok2 (rs1.ext e2)
  | true =>
    rw [if_pos rfl] at q ⊢
    obtain ⟨N,hN,q⟩:=q
    refine ⟨fun s' H'=>∃ d' m',Ext X.K Z m H m' H'∧Ok X.K Z m' H'∧RS X.K Z m' H' d' s'∧N d' m',fun s' H' ⟨d',m',g1,g2,g3,g4⟩=>?_,?_⟩
    · obtain ⟨n',hn,w⟩:=hN d' m' g4
      exact ⟨n',hn,d',m',g1,g2,g3,w⟩
    · have e12:=e1.trans e2
      exact ⟨Z,d1,m2,_,ok2,rs1.ext e2,q,fun d3 m3 s3 H3 q3 e3 ok3 rs3=>⟨d3,m3,e12.trans e3,ok3,rs3,q3⟩,fun x m3 v H3 q3 e3 ok3 r3=>kr x m3 v H3 q3 (e12.trans e3) ok3 r3,
        fun d3 m3 s3 H3 q3 e3 ok3 rs3=>kn d3 m3 s3 H3 q3 (e12.trans e3) ok3 rs3,fun d3 m3 s3 H3 q3 e3 ok3 rs3=>⟨d3,m3,e12.trans e3,ok3,rs3,q3⟩⟩
abbrev DI:=St2→Mu→(List D→Mu→Prop)→Prop
def Yld (K:PySem.W.Frag) (Z:Addr→Prop) (m:Mu) (H:Hp) (x:D) (v:V) (H2 H3:Hp):Prop :=
  (H3=H2∧RD K Z m H x v)∨∃ p ps vs,x=.dat (.tuple ps)∧v=.ref p∧H2 p=none∧H3=upd H2 p (.tup vs)∧RPs K Z m H ps vs
theorem Yld.same {K:PySem.W.Frag} {Z:Addr→Prop} {m:Mu} {H H2 H3:Hp} {x:D} {v:V} (h:Yld K Z m H x v H2 H3):Same H2 H3:=by
  rcases h with ⟨rfl,_⟩ | ⟨p,ps,vs,_,_,hp,rfl,_⟩
  · exact fun _ _ q=>q
  · exact zf9 hp
theorem Yld.rd {K:PySem.W.Frag} {Z Z':Addr→Prop} {m m':Mu} {H H2 H3:Hp} {x:D} {v:V} (tr:∀ d v,RD K Z m H d v→RD K Z' m' H2 d v) (ok:Ok K Z' m' H2) (h:Yld K Z m H x v H2 H3):RD K Z' m' H3 x v:=by
  rcases h with ⟨rfl,h⟩ | ⟨p,ps,vs,rfl,rfl,hp,rfl,h⟩
  · exact tr _ _ h
  · have h2:=RPs.lift (fun p v q=>tr (.dat p) v q) h
    simp only [RD,RP]
    exact ⟨p,vs,rfl,.inl (.inl zf4),RPs.ext (ok.ext (zf9 hp)) _ _ h2⟩
structure ExtY (K:PySem.W.Frag) (Z:Addr→Prop) (m:Mu) (H:Hp) (m':Mu) (H':Hp):Prop where
  t:∀ a vs,SqT K H a vs→SqT K H' a vs
  l:∀ a vs,(m a=none∧¬ Z a)→SqL K H a vs→m' a=none∧SqL K H' a vs
theorem Ext.y {K:PySem.W.Frag} {Z:Addr→Prop} {m m':Mu} {H H':Hp} (e:Ext K Z m H m' H'):ExtY K Z m H m' H':=⟨e.t,e.l⟩
def zad8 (K:PySem.W.Frag) (Z:Addr→Prop) (m:Mu) (H:Hp) (xs:List D) (J:It):Prop:=∀ m2 H2,ExtY K Z m H m2 H2 →
  (∀ (i:Nat) (x:D),xs[i]?=some x→J.go i H2∧∀ v H3,J.yld i H2 v H3→Yld K Z m H x v H2 H3)∧J.stop xs.length H2
def LI (K:PySem.W.Frag) (fi:DI):TI:=fun s H R=>∃ (Z:Addr→Prop) (d:St2) (m:Mu) (ZZ:List D→Mu→Prop),Ok K Z m H∧RS K Z m H d s∧fi d m ZZ ∧
  ∀ xs m' H' J,ZZ xs m'→Ext K Z m H m' H'→Ok K Z m' H'→zad8 K Z m' H' xs J→R J H'
@[simp] def zz8 (f:DE):DI:=fun d m Q=>f d m fun x m1=>(∃ ps,x=.dat (.list ps)∧Q (ps.map .dat) m1)∨(∃ ps,x=.dat (.tuple ps)∧Q (ps.map .dat) m1)
theorem PI.imp {t t':TI} (h:PI X tg e t) (q:∀ s H R,t' s H R→t s H R):PI X tg e t':=fun pins s d H R I w=>h pins s d H R I (q _ _ _ w)
theorem zap7 {ps:List PyData} {i:Nat} {x:D} (h:(ps.map D.dat)[i]?=some x):∃ p,ps[i]?=some p∧x=.dat p:=by
  rw [List.getElem?_map] at h
  cases e:ps[i]? with
  | none=>rw [e] at h; cases h
  | some p=>rw [e] at h; cases h; exact ⟨p,rfl,rfl⟩
theorem zap4 {K:PySem.W.Frag} {Z:Addr→Prop} {m:Mu} {H:Hp} {a:Addr} {vs:List V} {ps:List PyData} (h0:m a=none∧¬ Z a) (h1:SqL K H a vs) (h2:RPs K Z m H ps vs):zad8 K Z m H (ps.map .dat) (Itl K a):=by
  intro m2 H2 e
  obtain ⟨q0,q1⟩:=e.l a vs h0 h1
  have q2:=h2
  refine ⟨fun i x hx=>?_,⟨vs,q1,by rw [q2.length,List.length_map]; exact Nat.le_refl _⟩⟩
  obtain ⟨p,hp,rfl⟩:=zap7 hx
  obtain ⟨v,hv,rv⟩:=h2.get hp
  refine ⟨⟨vs,v,q1,hv⟩,fun v' H3 y=>.inl ⟨y.1,?_⟩⟩
  have:=y.2 vs q1
  rw [hv] at this
  cases this
  exact rv
theorem zay8 {K:PySem.W.Frag} {Z:Addr→Prop} {m:Mu} {H:Hp} {a:Addr} {vs:List V} {ps:List PyData} (h1:SqT K H a vs) (h2:RPs K Z m H ps vs):zad8 K Z m H (ps.map .dat) (Itt K a):=by
  intro m2 H2 e
  have q1:=e.t a vs h1
  have q2:=h2
  refine ⟨fun i x hx=>?_,⟨vs,q1,by rw [q2.length,List.length_map]; exact Nat.le_refl _⟩⟩
  obtain ⟨p,hp,rfl⟩:=zap7 hx
  obtain ⟨v,hv,rv⟩:=h2.get hp
  refine ⟨⟨vs,v,q1,hv⟩,fun v' H3 y=>.inl ⟨y.1,?_⟩⟩
  have:=y.2 vs q1
  rw [hv] at this
  cases this
  exact rv
theorem zbj2 {l:Expr} {tl:TE} (hl:PE X l tl):PI X tg l (fun s H R=>tl s H fun x H1=>(∃ a,x=.ref a∧(∃ xs,SqL X.K H1 a xs)∧R (Itl X.K a) H1)∨(∃ a,x=.ref a∧(∃ xs,SqT X.K H1 a xs)∧R (Itt X.K a) H1)):=by
  intro pins s σ H R I h
  refine thn (hl pins s σ H _ I h) fun v s1 ⟨x,H1,I1,r1,q1⟩=>?_
  rcases q1 with ⟨a,e,⟨xs,hq⟩,q⟩ | ⟨a,e,⟨xs,hq⟩,q⟩
  · subst e
    cases r1
    obtain ⟨its,rv,p,hz⟩:=I1.list hq
    refine wpAny_pyIter_list p.isList ?_
    refine ⟨s1.heap.objs.size,[s1.heap.objs.size],_,_,H1,rfl,I1.kept (t':=s1.toks) fun b o e=>Heap.get?_push_of_some _ e,zaC0 a _,⟨_,Heap.get?_push_size _ rfl,rfl,rfl⟩,fun b hb=>?_,q⟩
    have e:b=s1.heap.objs.size:=by simpa using hb
    subst e
    exact I1.fpOk (Nat.le_refl _) (I1.hok.fresh (Nat.le_refl _))
  · subst e
    cases r1
    obtain ⟨its,rv,p,hz⟩:=I1.tuple hq
    refine wpAny_pyIter_tuple (show s1.heap.IsTuple a its.toArray from p) ?_
    refine ⟨s1.heap.objs.size,[s1.heap.objs.size],_,_,H1,rfl,I1.kept (t':=s1.toks) fun b o e=>Heap.get?_push_of_some _ e,zax4 a _,⟨_,Heap.get?_push_size _ rfl,rfl,rfl⟩,fun b hb=>?_,q⟩
    have e:b=s1.heap.objs.size:=by simpa using hb
    subst e
    exact I1.fpOk (Nat.le_refl _) (I1.hok.fresh (Nat.le_refl _))
theorem zba3 (ha:PE X e (LE X.K f)):PI X tg e (LI X.K (zz8 f)):=PI.imp (zbj2 ha) fun s H R h=>by
  obtain ⟨Z,d,m,ZZ,ok,rs,h,k⟩:=h
  refine ⟨Z,d,m,_,ok,rs,h,fun x m1 v H1 q e1 ok1 rd=>?_⟩
  rcases q with ⟨ps,rfl,q⟩ | ⟨ps,rfl,q⟩
  · simp only [RD,RP] at rd
    obtain ⟨a,vs,rfl,h0,h1,h2⟩:=rd
    exact .inl ⟨a,rfl,⟨vs,h1⟩,k _ m1 H1 _ q e1 ok1 (zap4 h0 h1 h2)⟩
  · simp only [RD,RP] at rd
    obtain ⟨a,vs,rfl,h1,h2⟩:=rd
    exact .inr ⟨a,rfl,⟨vs,h1⟩,k _ m1 H1 _ q e1 ok1 (zay8 h1 h2)⟩
def zu0 (lo:Int) (n:Nat):List D:=(List.range n).map fun i=>.dat (.int (lo + (i:Nat)))
@[simp] def zO8 (f:DE):DI:=fun d m Q=>f d m fun x m1=>∃ j:Int,x=.dat (.int j)∧-(2 ^ 62)≤j∧j < 2 ^ 62∧Q (zu0 0 j.toNat) m1
theorem zaM5 {p:Pos} (hg:Gl X "range") (hm:X.mg "range"=none) (ha:PE X e (LE X.K f)) (hs:starEach [e] X.env=[(false,eval e X.env)]:=by rfl):PI X tg (.Call (.Name "range" p) [e] [] pos) (LI X.K (zO8 f)) :=
  PI.imp (zaI9 hg hm (zD4 ha zab0 (by rw [hs]; rfl)) hs) fun s H R h=>by
    obtain ⟨Z,d,m,ZZ,ok,rs,h,k⟩:=h
    refine ⟨Z,d,m,_,ok,rs,h,fun x m1 v H1 ⟨j,e,h1,h2,q⟩ e1 ok1 rd=>?_⟩
    subst e
    cases rd.int
    show ∃ j':Int,[V.int j]=[V.int j']∧_
    refine ⟨j,rfl,h1,h2,k _ m1 H1 _ q e1 ok1 fun m2 H2 e2=>⟨fun i x hx=>?_,?_⟩⟩
    · unfold zu0 at hx
      rw [List.getElem?_map] at hx
      cases ei:(List.range j.toNat)[i]? with
      | none=>rw [ei] at hx; cases hx
      | some i' =>
        rw [ei] at hx
        cases hx
        have hl:=(List.getElem?_eq_some_iff.mp ei).1
        have hi:i'=i:=by
          obtain ⟨_,z⟩:=List.getElem?_eq_some_iff.mp ei
          rw [List.getElem_range] at z
          exact z.symm
        subst hi
        rw [List.length_range] at hl
        refine ⟨hl,fun v' H3 y=>.inl ⟨y.1,?_⟩⟩
        rw [y.2]
        exact .ofInt
    · show j.toNat≤(zu0 0 j.toNat).length
      unfold zu0
      rw [List.length_map,List.length_range]
      exact Nat.le_refl _
def zM5 (g:DG) (b:DS) (E:Ends2):List D→St2→Mu→Prop
  | [],d,m=>E.nx d m
  | x :: xs,d,m=>g x d m fun d' m'=>b { E with nx:=zM5 g b E xs,ct:=zM5 g b E xs,bk:=E.nx } d' m'
@[simp] def dFor (fi:DI) (g:DG) (b:DS):DS:=fun E d m=>fi d m fun xs m1=>zM5 g b E xs d m1
theorem zbd8 {fi:DI} {g:DG} (hp:PassesOwn (model X.prog X.w) X.A X.env X.xe) (hc:X.calm=true) (hi:PI X tg iter (LI X.K fi)) (hg:PG X tg (LG X.K g)) (hb:PSs X body (LS X.K b))
    (hs:∀ x,foldedSetIterable iter X.env x=pure x:=by intro _; rfl):PS X (.For tg iter body [] pos) (LS X.K (dFor fi g b)):=PS.imp (zbe0 hp hc hi hg hb hs) fun E s H h=>by
  obtain ⟨Z,d,m,R,ok,rs,h,kn,kr,kb,kc⟩:=h
  refine ⟨Z,d,m,_,ok,rs,h,fun xs m1 H1 J q e1 ok1 yl=>?_⟩
  refine ⟨fun i n s' H'=>∃ d' m',n=xs.length - i∧i≤xs.length∧Ext X.K Z m1 H1 m' H'∧Ok X.K Z m' H'∧RS X.K Z m' H' d' s'∧zM5 g b R (xs.drop i) d' m',⟨xs.length,d,m1,by simp,Nat.zero_le _,Ext.refl,ok1,rs.ext e1,by simpa using q⟩,?_⟩
  rintro i n s2 H2 ⟨d2,m2,rfl,hi,e2,ok2,rs2,w⟩
  obtain ⟨y1,y2⟩:=yl m2 H2 e2.y
  by_cases hl:i < xs.length
  · rw [List.drop_eq_getElem_cons hl] at w
    obtain ⟨go,yd⟩:=y1 i xs[i] (List.getElem?_eq_getElem hl)
    refine .inr ⟨go,fun s' H'=>∃ d' m',Ext X.K Z m1 H1 m' H'∧Ok X.K Z m' H'∧RS X.K Z m' H' d' s'∧zM5 g b R (xs.drop (i + 1)) d' m',fun s' H' ⟨d',m',g1,g2,g3,g4⟩=>⟨xs.length - (i + 1),by omega,d',m',rfl,hl,g1,g2,g3,g4⟩,fun v H3 y=>?_⟩
    have yy:=yd v H3 y
    have e2':=e2.trans (ok2.ext yy.same)
    refine ⟨Z,xs[i],d2,m2,_,ok2.grow yy.same,rs2.ext (ok2.ext yy.same),yy.rd (fun d v h=>h.ext e2) ok2,w,fun d3 m3 s3 H3 q3 e3 ok3 rs3=>?_⟩
    have e23:=e2'.trans e3
    have e13:=e1.trans e23
    exact ⟨Z,d3,m3,_,ok3,rs3,q3,fun d4 m4 s4 H4 q4 e4 ok4 rs4=>⟨d4,m4,e23.trans e4,ok4,rs4,q4⟩,fun x m4 v H4 q4 e4 ok4 r4=>kr x m4 v H4 q4 (e13.trans e4) ok4 r4,
      fun d4 m4 s4 H4 q4 e4 ok4 rs4=>kn d4 m4 s4 H4 q4 (e13.trans e4) ok4 rs4,fun d4 m4 s4 H4 q4 e4 ok4 rs4=>⟨d4,m4,e23.trans e4,ok4,rs4,q4⟩⟩
  · have e:i=xs.length:=by omega
    subst e
    rw [List.drop_length] at w
    exact .inl ⟨y2,kn d2 m2 s2 H2 w (e1.trans e2) ok2 rs2⟩
end
end DL
set_option Elab.async false
set_option linter.all false
set_option maxRecDepth 100000
set_option maxHeartbeats 4000000
namespace DL
open PySem PySem.Spec PyProof.Rows L2
section
variable {prog:Program} {w:World} {A:Around} {E:Value→Shared→Prop} {s:Shared}
end
section
variable {X:Cx} {a e:Expr} {es:List Expr} {f:DE} {ga:DA} {pos p p1 p2 p3 p4:Pos}
@[simp] def zaw9:PyData→String
  | .none=>"NoneType"
  | .bool _=>"bool"
  | .int _=>"int"
  | .str _=>"str"
  | .list _=>"list"
  | .tuple _=>"tuple"
  | .dict _=>"dict"
@[simp] def isK (q:PyData) (c:String):Bool:=zaw9 q == c || (zaw9 q == "bool" && c == "int")
theorem zaN3 (K:PySem.W.Frag) (q:PyData) (hd:∀ kv,q≠.dict kv) (c:String) (hc:c="int"∨c="bool"∨c="str"∨c="tuple"∨c="list"):PySem.W.kitOne K (.type (zaw9 q)) (.type c)=some (isK q c):=by
  rcases hc with rfl | rfl | rfl | rfl | rfl <;> cases q <;> first | rfl | exact absurd rfl (hd _)
theorem zaN9 {pins:List (Addr×Obj)} {σ:L2.St} {H:Hp} {s:Shared} {Z:Addr→Prop} {m:Mu} {A:Around} {E:Value→Shared→Prop} {Q:Value→Shared→Prop} {q:PyData} {v:V} {u c:Value} {b:Bool} (I:Inv X pins σ H s) (rp:RP X.K Z m H q v) (rv:RelV v u)
    (e:PySem.W.kitOne X.K (.type (zaw9 q)) c=some b) (h:∀ tk,Q (.bool b) { s with toks:=tk }):wpAny (model X.prog X.w) A (call (.builtin "isinstance") [u,c]) Q E s:=by
  cases q with
  | none=>simp only [RP] at rp; subst rp; cases rv; exact PySem.W.kia_one PySem.W.kitx_none I.kIn True.intro e (fun z=>nomatch z) h
  | bool y=>simp only [RP] at rp; subst rp; cases rv; exact PySem.W.kia_one PySem.W.kitx_bool I.kIn True.intro e (fun z=>nomatch z) h
  | int i=>simp only [RP] at rp; subst rp; obtain ⟨t,rfl⟩:=rv; exact PySem.W.kia_one PySem.W.kitx_int I.kIn True.intro e (fun z=>nomatch z) h
  | str y=>simp only [RP] at rp; subst rp; obtain ⟨t,rfl⟩:=rv; exact PySem.W.kia_one PySem.W.kitx_str I.kIn True.intro e (fun z=>nomatch z) h
  | tuple xs =>
    simp only [RP] at rp
    obtain ⟨a',vs,rfl,h1,_⟩:=rp
    cases rv
    obtain ⟨its,_,⟨o,g1,g2,_⟩,_⟩:=I.tuple h1
    exact PySem.W.kia_one PySem.W.kitx_tuple I.kIn ⟨o,g1,g2⟩ e (fun z=>nomatch z) h
  | list xs =>
    simp only [RP] at rp
    obtain ⟨a',vs,rfl,_,h1,_⟩:=rp
    cases rv
    obtain ⟨its,_,⟨o,n,g1,g2,_⟩,_⟩:=I.list h1
    exact PySem.W.kia_one PySem.W.kitx_list I.kIn ⟨o,g1,g2⟩ e (fun z=>nomatch z) h
  | dict kv=>simp only [RP] at rp
theorem RP.notDict {K:PySem.W.Frag} {Z:Addr→Prop} {m:Mu} {H:Hp} {q:PyData} {v:V} (h:RP K Z m H q v):∀ kv,q≠.dict kv:=by
  rintro kv rfl
  simp only [RP] at h
theorem zaN8:bootBuiltins "isinstance"=some (.builtin "isinstance"):=by decide +kernel
@[simp] def dIsi (f:DE) (c:String):DE:=fun d m Q=>f d m fun x m1=>∃ q,x=.dat q∧Q (.dat (.bool (isK q c))) m1
theorem zbk2 {T:Str} {c:String} (hg:Gl X "isinstance") (hm:X.mg "isinstance"=none) (hgT:Gl X T) (hmT:X.mg T=none) (hv:bootBuiltins T=some (.type c)) (hc:c="int"∨c="bool"∨c="str"∨c="tuple"∨c="list")
    (ha:PE X a (LE X.K f)) (hn:T≠"__name__":=by decide) (hd:(T == ("__debug__" : Str))=false:=by decide)
    (he:starEach [a,.Name T p2] X.env=(false,eval a X.env) :: starEach [.Name T p2] X.env:=by rfl) :
    PE X (.Call (.Name "isinstance" p1) [a,.Name T p2] [] pos) (LE X.K (dIsi f c)):=by
  have cr:CallR X (.builtin "isinstance") (fun vs H Q=>∃ Z m q v,RP X.K Z m H q v∧vs=[v,.ty c]∧Q (.bl (isK q c)) H):=by
    intro pins s σ H xs us Q I rv ⟨Z,m,q,v,rp,e,h⟩
    subst e
    obtain ⟨u,w,rfl,r1,r2⟩:=zaW3 rv
    cases r2
    exact zaN9 I rp r1 (zaN3 X.K q rp.notDict c hc) fun tk=>⟨.bl _,H,I.tok _,rfl,h⟩
  refine PE.imp (zaw8 cr hg hm zaN8 (zD4 ha (zD4 (zaZ3 (v:=.ty c) hgT hmT hv rfl hn hd) zab0) he) (he:=he) (hpl:=rfl)) fun s H Q h=>?_
  obtain ⟨Z,d,m,R,ok,rs,h,k⟩:=h
  refine ⟨Z,d,m,_,ok,rs,h,fun x m1 v H1 ⟨q,e,h1⟩ e1 ok1 rd=>?_⟩
  subst e
  exact ⟨Z,m1,q,v,rd,rfl,k _ m1 _ H1 h1 e1 ok1 .ofBl⟩
def LSp (K:PySem.W.Frag) (n:Nat) (sp:DC):Sp:=fun vs H Q _=>∃ Z ds m R,Ok K Z m H∧RDs K Z m H ds vs∧ds.length=n∧sp ds m R∧∀ d m' v' H',R d m'→Ext K Z m H m' H'→Ok K Z m' H'→RD K Z m' H' d v'→Q v' H'
theorem LSp.len {K:PySem.W.Frag} {n:Nat} {sp:DC} {vs:List V} {H:Hp} {Q:VK} {E:XK} (h:LSp K n sp vs H Q E):vs.length=n:=by
  obtain ⟨Z,ds,m,R,_,rd,hl,_⟩:=h
  rw [rd.length]
  exact hl
@[simp] def zb6 (n:Nat) (sp:DC) (g:DA):DE:=fun d m Q=>g d m fun xs m1=>xs.length=n∧sp xs m1 Q
theorem zaZ9 {k n:Nat} {fa:Addr} {fd:FuncData} {ps:List Str} {sp:DC} {x:Str} (F:FnOk X.prog X.w X.K X.mg X.base CX0 k fa fd ps (LSp X.K n sp)) (hr:Room k X.A) (hm:X.mg x=some (.ref fa)) (hk:PySem.W.keepIn X.K (.ref fa)=true)
    (hb:Binds X.K fd ps []) (hx:X.xe=fun _ _=>False) (ha:PA X (e :: es) (LA X.K ga)) (hg:Gl X x:=by rfl) (hdb:(x == ("__debug__" : Str))=false:=by decide)
    (he:starEach (e :: es) X.env=(false,eval e X.env) :: starEach es X.env:=by rfl) (hpl:(backTo pos (starEach es X.env)).any (·.1)=false:=by rfl):PE X (.Call (.Name x p) (e :: es) [] pos) (LE X.K (zb6 n sp ga)) :=
  PE.imp (zaU3 F hr hg hm hk hb .nil (zbo0 (X:=X)) ha hdb he hpl) fun s H Q h=>by
    obtain ⟨Z,d,m,R,ok,rs,h,k⟩:=h
    refine ⟨Z,d,m,_,ok,rs,h,fun xs m1 vs H1 ⟨hl,q⟩ e1 ok1 rd=>⟨Z,xs,m1,R,ok1,by simpa using rd,hl,q,fun d' m' v' H' h1 h2 h3 h4=>k d' m' v' H' h1 (e1.trans h2) h3 h4⟩⟩
@[simp] def zb4 (N:List Str) (ds:List D):St2:=ds.map some++List.replicate (N.length - ds.length) none
theorem RDs.get {K:PySem.W.Frag} {Z:Addr→Prop} {m:Mu} {H:Hp}:∀ {xs:List D} {vs:List V} {i:Nat} {x:D},RDs K Z m H xs vs→xs[i]?=some x→∃ v,vs[i]?=some v∧RD K Z m H x v
  | [],_,_,_,_,e=>by simp at e
  | _ :: _,_,0,x,⟨v,r,h1,h2,_⟩,e=>by
    simp at e
    subst h1 e
    exact ⟨v,rfl,h2⟩
  | _ :: xs,_,i + 1,x,⟨v,r,h1,_,h3⟩,e=>by
    obtain ⟨u,q1,q2⟩:=RDs.get (i:=i) (x:=x) h3 (by simpa using e)
    subst h1
    exact ⟨u,by simpa using q1,q2⟩
theorem zaL3 {K:PySem.W.Frag} {Z:Addr→Prop} {m:Mu} {H:Hp} {N:List Str} {ds:List D} {vs:List V} (h:RDs K Z m H ds vs):RS K Z m H (zb4 N ds) (start N vs):=by
  have hl:=h.length
  refine ⟨?_,fun i x hx=>?_⟩
  · unfold zb4 L2.start
    rw [List.length_append,List.length_append,List.length_map,List.length_map,List.length_replicate,List.length_replicate,hl]
  · unfold zb4 at hx
    by_cases hi:i < ds.length
    · rw [List.getElem?_append_left (by simpa using hi),List.getElem?_map] at hx
      cases e:ds[i]? with
      | none=>rw [e] at hx; cases hx
      | some y =>
        rw [e] at hx
        cases hx
        obtain ⟨v,q1,q2⟩:=h.get e
        refine ⟨v,?_,q2⟩
        unfold L2.start
        rw [List.getElem?_append_left (by rw [List.length_map,hl]; exact hi),List.getElem?_map,q1]
        rfl
    · rw [List.getElem?_append_right (by simpa using hi),List.getElem?_replicate] at hx
      split at hx <;> cases hx
end
section
variable {P:Program} {w:World} {K:PySem.W.Frag} {mg:Str→Option Value} {base:Heap}
theorem zaT2 {x qual:Str} {st:Stmt} {fa:Addr} {fd:FuncData} {N ps:List Str} {k:Nat} {sp:DC} {body:DS} (F:Fun K x qual st fa fd) (S:FnScope N ps (za8 st))
    (hb:∀ (cdv:Value) (A:Around) (outer:List Env) (s:Shared) (H:Hp) (E:XK),Room k (A.deeper (envOfC qual (za8 st) s.heap.objs.size fa cdv)) →
      PSs (cxOf CX0 P w K mg base N qual (za8 st) fa cdv A outer s H E).nox (zc1 st) (LS K body))
    (hv:∀ ds m R,ds.length=ps.length→sp ds m R→body { nx:=fun _ m=>R (.dat .none) m,rt:=R } (zb4 N ds) m):FnOk P w K mg base CX0 (k + 1) fa fd ps (LSp K ps.length sp):=by
  refine F.ok S (fun vs H Q E h=>h.len) (fun cdv A outer s H vs Q E hr h=>?_)
  obtain ⟨Z,ds,m,R,ok,rd,hl,h,kk⟩:=h
  refine ⟨_,hb cdv A outer s H E hr,Z,zb4 N ds,m,_,ok,zaL3 rd,hv ds m R hl h,?_,?_,?_,?_⟩
  · intro d' m' s' H' q e1 ok1 _
    exact kk _ m' _ H' q e1 ok1 (by simp only [RD,RP])
  · exact fun x m' v H' q e1 ok1 r1=>kk x m' v H' q e1 ok1 r1
  · exact fun _ _ _ _ q _ _ _=>q.elim
  · exact fun _ _ _ _ q _ _ _=>q.elim
end
end DL
set_option Elab.async false
set_option linter.all false
set_option maxRecDepth 100000
set_option maxHeartbeats 4000000
namespace L2
open PySem
theorem Room.u100 {k:Nat} {A:Around} (r:Room k A):A.units + 100 < cLine:=by have:=r.un; omega
theorem Room.u200 {k:Nat} {A:Around} (r:Room k A):A.units + 200 < cLine:=by have:=r.un; omega
end L2
namespace DL
open PySem PySem.Spec PyProof.Rows L2
theorem ze4:bootBuiltins "len"=some (.builtin "len"):=by decide +kernel
theorem zW3:bootBuiltins "abs"=some (.builtin "abs"):=by decide +kernel
theorem zaH0:bootBuiltins "max"=some (.builtin "max"):=by decide +kernel
theorem zj1:bootBuiltins "repr"=some (.builtin "repr"):=by decide +kernel
theorem zal9:bootBuiltins "int"=some (.type "int"):=by decide +kernel
theorem zc8:bootBuiltins "tuple"=some (.type "tuple"):=by decide +kernel
end DL
set_option Elab.async false
set_option linter.all false
set_option maxRecDepth 100000
set_option maxHeartbeats 4000000
namespace DL
open PySem PySem.Spec PyProof.Rows L2
theorem zag7 {K:PySem.W.Frag} {Z:Addr→Prop} {m:Mu} {H:Hp}:∀ ns:List Int,RPs K Z m H (ns.map PyData.int) (ns.map V.int)
  | []=>by simp [RPs]
  | n :: ns=>by
    simp only [List.map_cons,RPs]
    exact ⟨_,_,rfl,by simp only [RP],zag7 ns⟩
theorem zaX1 {K:PySem.W.Frag} {sp:DC} {H:Hp} {a:Addr} {ns:List Int} {E:XK} (hS:SqL K H a (ns.map V.int)) (h:sp [.dat (.list (ns.map .int))] (fun _=>none) (fun d _=>d=.dat (.bool true))):LSp K 1 sp [.ref a] H (fun v _=>v=.bl true) E:=by
  have ok:Ok K (fun _=>False) (fun _=>none) H:=⟨fun b ds e=>(by cases e),fun _ z=>False.elim z⟩
  refine ⟨fun _=>False,[.dat (.list (ns.map .int))],fun _=>none,fun d _=>d=.dat (.bool true),ok,⟨.ref a,[],rfl,?_,rfl⟩,rfl,h,?_⟩
  · simp only [RD,RP]
    exact ⟨a,_,rfl,by first | exact ⟨rfl,fun z=>z⟩ | simp,hS,zag7 ns⟩
  · rintro d m' v' H' rfl _ _ r
    simpa only [RD,RP] using r
end DL
set_option Elab.async false
set_option linter.all false
set_option maxRecDepth 100000
set_option maxHeartbeats 4000000
namespace DL
open PySem PySem.Spec PyProof.Rows L2
theorem zR8 (env:Env):∀ (names:List (Str×NameKind)) (cs:List (Str×Addr)),(∀ x,(x,NameKind.free)∈names→∃ c,env.cells.lookup x=some c)→(∀ p∈cs,env.cells.lookup p.1=some p.2) →
    ∃ cl:List (Str×Addr),(forIn names cs (fun (x:Str×NameKind) (r:List (Str×Addr))=>(if (x.2 == .free)=true then (do let c ← cellOf env x.1; pure (ForInStep.yield ((x.1,c) :: r))) else pure (ForInStep.yield r):Sem (ForInStep (List (Str×Addr))))))=pure cl ∧
      (∀ p∈cl,env.cells.lookup p.1=some p.2)∧(∀ p∈cs,p∈cl)∧∀ x,(x,NameKind.free)∈names→∃ c,(x,c)∈cl
  | [],cs,_,h=>⟨cs,rfl,h,fun _ z=>z,fun x z=>nomatch z⟩
  | (n,k) :: r,cs,hf,h=>by
    by_cases hk:k=.free
    · subst hk
      obtain ⟨c,hc⟩:=hf n List.mem_cons_self
      obtain ⟨cl,e,h1,h2,h3⟩:=zR8 env r ((n,c) :: cs) (fun x hx=>hf x (List.mem_cons_of_mem _ hx)) (fun p hp=>by
        rcases List.mem_cons.mp hp with rfl | hp
        · exact hc
        · exact h p hp)
      refine ⟨cl,?_,h1,fun p hp=>h2 p (List.mem_cons_of_mem _ hp),fun x hx=>?_⟩
      · rw [List.forIn_cons]
        have e2:cellOf env n=pure c:=by unfold cellOf; rw [hc]
        simp only [beq_self_eq_true,if_true,e2,pure_bind]
        exact e
      · rcases List.mem_cons.mp hx with z | hx
        · cases z
          exact ⟨c,h2 _ List.mem_cons_self⟩
        · exact h3 x hx
    · obtain ⟨cl,e,h1,h2,h3⟩:=zR8 env r cs (fun x hx=>hf x (List.mem_cons_of_mem _ hx)) h
      refine ⟨cl,?_,h1,h2,fun x hx=>?_⟩
      · rw [List.forIn_cons]
        have e2:(k == NameKind.free)=false:=by simpa using hk
        simp only [e2,Bool.false_eq_true,if_false,pure_bind]
        exact e
      · rcases List.mem_cons.mp hx with z | hx
        · cases z
          exact absurd rfl hk
        · exact h3 x hx
theorem zad6 {scope:Scope} {env:Env} (hf:∀ x,(x,NameKind.free)∈scope.names→∃ c,env.cells.lookup x=some c) :
    ∃ cl:List (Str×Addr),closureFor scope env=pure cl∧(∀ p∈cl,env.cells.lookup p.1=some p.2)∧∀ x,(x,NameKind.free)∈scope.names→∃ c,(x,c)∈cl:=by
  obtain ⟨cl,e,h1,_,h3⟩:=zR8 env scope.names [] hf (fun _ z=>nomatch z)
  refine ⟨cl,?_,h1,h3⟩
  unfold closureFor
  first
    | exact e
    | (show (do let cs ← forIn scope.names ([]:List (Str×Addr)) _; pure cs:Sem _)=_; rw [e]; rfl)
    | (simp only []; rw [e]; rfl)
section
variable {prog:Program} {w:World} {A:Around} {R:Result→Shared→Prop} {s:Shared}
theorem zaC8 {elt target iter:Expr} {ifs:List Expr} {scope:Scope} {pos:Pos} {it acc:Value} {env:Env} (I:Nat→Shared→Prop)
    (turn:∀ n s,I n s→wpAny (model prog w) A (pyNext it) (fun r s₁=>match r with
      | none=>R (.ok .next) s₁
      | some v=>wpAny (model prog w) A (letOwnedTupleGo target it v) (fun _ s₀=>wpAny (model prog w) A (assign target env v) (fun _ s₂ =>
          wpAny (model prog w) A (forIn ifs true fun c r=>if r=true then do let ok ← isTrue c env (eval c env); pure (ForInStep.yield ok) else pure (ForInStep.yield r)) (fun ok s₃ =>
            if ok=true then wpAny (model prog w) A (eval elt env) (fun x s₄ =>
              wpAny (model prog w) A (call (.builtin "list.append") [acc,x]) (fun _ s₅=>∃ m,m < n∧I m s₅) (fun _ _=>False) s₄) (fun _ _=>False) s₃
            else ∃ m,m < n∧I m s₃) (fun _ _=>False) s₂) (fun _ _=>False) s₀) (fun _ _=>False) s₁) (fun _ _=>False) s)
    (n:Nat) (h:I n s) :
    codeAny (model prog w) A (.compLoop (.ListComp elt [⟨target,iter,ifs,0⟩] scope pos) 0 it acc env) R s:=by
  have ff:∀ {E:Value→Shared→Prop} (x:Value) (s:Shared),False→E x s:=fun _ _ z=>z.elim
  refine codeAny_loop rfl I (fun n s hI=>?_) n h
  show wpAny _ A ((compTurn (.ListComp elt [⟨target,iter,ifs,0⟩] scope pos) 0 it acc env).onRaise (fun x=>do noteFrame x env; theTreesLotGoes x)) _ _ s
  refine wpAny_noted ?_
  rw [compTurn_list]
  refine wpAny_bind (wpAny_standAt (wpAny_bind (wpAny_mono (turn n s hI) (fun r s₁ h₁=>?_) ff)))
  cases r with
  | none=>exact wpAny_pure h₁
  | some v =>
    refine wpAny_bind (wpAny_mono h₁ (fun _ s₀ h₀=>?_) ff)
    refine wpAny_bind (wpAny_mono h₀ (fun _ s₂ h₂=>wpAny_bind (wpAny_mono h₂ (fun ok s₃ h₃=>?_) ff)) ff)
    cases ok with
    | true =>
      simp only [if_true] at h₃ ⊢
      refine wpAny_bind (wpAny_bind (wpAny_mono h₃ (fun x s₄ h₄=>wpAny_bind (wpAny_mono h₄ (fun _ s₅ h₅=>wpAny_pure (wpAny_pure ⟨rfl,h₅⟩)) ff)) ff))
    | false =>
      simp only [Bool.false_eq_true,if_false] at h₃ ⊢
      exact wpAny_pure ⟨rfl,h₃⟩
end
end DL
set_option Elab.async false
set_option linter.all false
set_option maxRecDepth 100000
set_option maxHeartbeats 4000000
namespace DL
open PySem PySem.Spec PyProof.Rows L2
def cyOf (X:Cx) (scope:Scope) (cl:List (Str×Addr)) (C:Addr) (NC:List Str) (s2:Shared) (H2:Hp) (pins:List (Addr×Obj)) (fp:List Addr):Cx where
  prog:=X.prog
  w:=X.w
  K:=X.K
  mg:=X.mg
  base:=X.base
  A:=X.A
  N:=NC
  s₀:=s2
  H₀:=H2
  env:=compEnvC scope cl C X.env
  outer:=X.stack
  stack:=X.stack
  ex:=fp
  fn:=fun _=>false
  calm:=X.calm
  pn:=X.pn++pins
  xe:=fun _ _=>False
theorem zs2 {cl:List (Str×Addr)} {x:Str} {c:Addr} (h:cl.lookup x=some c):(x,c)∈cl:=PySem.mem_of_lookup h
theorem zK8 {cl:List (Str×Addr)} {x:Str}:∀ {c:Addr},(x,c)∈cl→∃ c',cl.lookup x=some c':=by
  induction cl with
  | nil=>intro c h; cases h
  | cons p r ih =>
    intro c h
    rw [List.lookup_cons]
    cases hx:x == p.1 with
    | true=>exact ⟨_,rfl⟩
    | false =>
      rcases List.mem_cons.mp h with e | h
      · subst e
        simp at hx
      · exact ih h
theorem zG1 {env:Env}:∀ {names:List (Str×NameKind)} {x:Str},(∀ y∈names,y.2≠.cell) →
    ((names.map fun (n,k)=>if (k == NameKind.free && env.scope.kind == .function && env.kindOf n == some .cell) then (n,NameKind.cell) else (n,k)).lookup x=some .cell ∨
     (names.map fun (n,k)=>if (k == NameKind.free && env.scope.kind == .function && env.kindOf n == some .cell) then (n,NameKind.cell) else (n,k)).lookup x=some .free)→(x,NameKind.free)∈names
  | [],x,_,h=>by simp at h
  | (n,k) :: r,x,hc,h=>by
    have ih:=@zG1 env r x (fun y hy=>hc y (List.mem_cons_of_mem _ hy))
    by_cases hk:(k == NameKind.free && env.scope.kind == .function && env.kindOf n == some .cell)=true
    · have kf:k=.free:=by
        rw [Bool.and_eq_true,Bool.and_eq_true] at hk
        exact eq_of_beq hk.1.1
      subst kf
      simp only [List.map_cons,hk,if_true,List.lookup_cons] at h
      cases hx:x == n with
      | true =>
        have:x=n:=eq_of_beq hx
        subst this
        exact List.mem_cons_self
      | false =>
        simp only [hx] at h
        exact List.mem_cons_of_mem _ (ih h)
    · have hk':(k == NameKind.free && env.scope.kind == .function && env.kindOf n == some .cell)=false:=by simpa using hk
      simp only [List.map_cons,hk',Bool.false_eq_true,if_false,List.lookup_cons] at h
      cases hx:x == n with
      | true =>
        have:x=n:=eq_of_beq hx
        subst this
        simp only [hx] at h
        have hne:=hc (x,k) List.mem_cons_self
        rcases h with h | h
        · exact absurd (Option.some.inj h) hne
        · have:k=.free:=Option.some.inj h
          subst this
          exact List.mem_cons_self
      | false =>
        simp only [hx] at h
        exact List.mem_cons_of_mem _ (ih h)
section
variable {X:Cx} {pins:List (Addr×Obj)} {σ:L2.St} {H2:Hp} {s2:Shared} {scope:Scope} {cl:List (Str×Addr)} {NC:List Str} {fp:List Addr} {C:Addr}
theorem zbp8 (I2:Inv X pins σ H2 s2) (hf:∀ b∈fp,FpOk X pins H2 b) (hob:∀ b∈fp,∃ o,s2.heap.get? b=some o∧∀ v,o.data≠.cell v) (hkind:scope.kind=.function) (hcell:∀ y∈scope.names,y.2≠.cell)
    (hcl1:∀ p∈cl,X.env.cells.lookup p.1=some p.2) (hcl2:∀ x,(x,NameKind.free)∈scope.names→∃ c,(x,c)∈cl) (hC:s2.heap.objs.size≤C):(cyOf X scope cl C NC s2 H2 pins fp).Ok:=by
  have lk:∀ x c,cl.lookup x=some c→X.env.cells.lookup x=some c:=fun x c h=>hcl1 (x,c) (zs2 h)
  refine ⟨I2.ok.mod,hkind,I2.ok.glob,I2.ok.blt,hC,fun x y c h1 h2=>I2.ok.inj x y c (lk x c h1) (lk y c h2),fun x hx=>?_,fun x c h=>absurd (show false=true from h) Bool.false_ne_true,I2.ok.hd,I2.ok.frames,.inl rfl,fun b hb=>⟨?_,fun x c h=>?_⟩,fun b o e=>I2.bs b o e,
    Nat.le_trans I2.ok.bsz I2.sz,fun b o e hb=>?_,fun b hb hs=>?_,I2.stack,I2.stkFree⟩
  · obtain ⟨c,hc⟩:=hcl2 x (zG1 (env:=X.env) hcell hx)
    exact zK8 hc
  · obtain ⟨o,ho,_⟩:=hob b hb
    exact Nat.ne_of_lt (Nat.lt_of_lt_of_le (Heap.lt_size ho) hC)
  · exact (hf b hb).2.2.2.2.1 x c (lk x c h)
  · rcases (hf b hb).2.2.2.1 with z | z
    · exact I2.ok.noex b o e z
    · exact absurd (Nat.lt_of_lt_of_le (Heap.lt_size e) (Nat.le_trans I2.ok.bsz z)) (Nat.lt_irrefl _)
  · rcases List.mem_cons.mp (I2.stkSub b hs) with z | z
    · exact (hf b hb).2.1 z
    · exact (hf b hb).2.2.1 z
theorem zat8 {σ':L2.St} {h₁:Heap} {tk:Nat} {mm:Str→Option Value} (I2:Inv X pins σ H2 s2) (hf:∀ b∈fp,FpOk X pins H2 b) (hob:∀ b∈fp,∃ o,s2.heap.get? b=some o∧∀ v,o.data≠.cell v) (hkind:scope.kind=.function) (hcell:∀ y∈scope.names,y.2≠.cell)
    (hcl1:∀ p∈cl,X.env.cells.lookup p.1=some p.2) (hcl2:∀ x,(x,NameKind.free)∈scope.names→∃ c,(x,c)∈cl)
    (hlen:σ'.length=NC.length) (hσ:∀ (i:Nat) (x:Str) (v:V),NC[i]?=some x→σ'[i]?=some (some v)→Vis (relabel scope X.env) x→((relabel scope X.env).names.lookup x=some .cell∨(relabel scope X.env).names.lookup x=some .free)∧(X.env.kindOf x=some .cell∨X.env.kindOf x=some .free)∧∃ j:Nat,X.N[j]?=some x∧σ[j]?=some (some v))
    (hC:C=s2.heap.objs.size + 1) (hns:h₁.Ns C mm) (hk:∀ b u,s2.heap.get? b=some u→h₁.get? b=some u)
    (hD:h₁.get? s2.heap.objs.size=some { cls:=.type "list",data:=.seq ([]:List Value).toArray }) :
    Inv (cyOf X scope cl C NC s2 H2 pins fp) [] σ' (upd H2 s2.heap.objs.size (.lst [])) { s2 with heap:=h₁,toks:=tk }:=by
  have lk:∀ x c,cl.lookup x=some c→X.env.cells.lookup x=some c:=fun x c h=>hcl1 (x,c) (zs2 h)
  have hn:H2 s2.heap.objs.size=none:=I2.hok.fresh (Nat.le_refl _)
  have le1:s2.heap.objs.size≤C:=by rw [hC]; exact Nat.le_succ _
  have ne1:C≠s2.heap.objs.size:=by rw [hC]; exact Nat.succ_ne_self _
  have hCn:H2 C=none:=I2.hok.fresh le1
  have neD:∀ b o,s2.heap.get? b=some o→b≠s2.heap.objs.size:=fun b o e=>Nat.ne_of_lt (Heap.lt_size e)
  refine ⟨zbp8 I2 hf hob hkind hcell hcl1 hcl2 le1,rfl,I2.bare,Un.laid hk (Nat.le_refl _) hn,⟨mm,hns,fun i x v h1 h2 h3=>?_⟩,fun x c h=>?_,?_,fun x c h=>?_,fun p hp=>?_,?_,hlen⟩
  · obtain ⟨hy,hx,j,hj,hv⟩:=hσ i x v h1 h2 h3
    obtain ⟨m,hnX,hl⟩:=I2.loc
    have vis:Vis X.env.scope x:=by rcases hx with z | z; exact .inr (.inl z); exact .inr (.inr z)
    obtain ⟨u,r,l⟩:=hl j x v hj hv vis
    refine ⟨u,r,.inr ⟨hy,?_⟩⟩
    obtain ⟨c',hc'⟩:=hcl2 x (zG1 (env:=X.env) hcell hy)
    obtain ⟨c,hc⟩:=zK8 hc'
    refine ⟨c,hc,?_⟩
    rcases l with ⟨z,_⟩ | ⟨_,c2,e2,o,ho,hd⟩
    · rcases hx with q | q
      · rw [z] at q; cases q
      · rw [z] at q; cases q
    · have:=lk x c hc
      rw [e2] at this
      cases this
      exact ⟨o,hk _ o ho,hd⟩
  · obtain ⟨v,o,ho,hd⟩:=I2.cell x c (lk x c h)
    exact ⟨v,o,hk _ o ho,hd⟩
  · show upd H2 s2.heap.objs.size (.lst []) C=none
    rw [zd6 ne1]
    exact hCn
  · obtain ⟨v,o,ho,hd⟩:=I2.cell x c (lk x c h)
    rw [zd6 (neD c o ho)]
    exact I2.freeC x c (lk x c h)
  · have hp':p∈X.pn++pins:=by
      rcases List.mem_append.mp hp with z | z
      · exact z
      · cases z
    obtain ⟨e,n,ne,nf,d⟩:=I2.pin p hp'
    refine ⟨hk _ _ e,by rw [zd6 (neD _ _ e)]; exact n,?_,fun z=>?_,d⟩
    · show p.1≠C
      exact Nat.ne_of_lt (Nat.lt_of_lt_of_le (Heap.lt_size e) le1)
    · rcases List.mem_cons.mp (I2.stkSub p.1 z) with q | q
      · exact ne q
      · exact nf q
  · exact I2.hok.laid hk (Nat.le_refl _) ⟨Nat.zero_le _,[],0,.nil,hD⟩
theorem zaQ4 {py:List (Addr×Obj)} {σ'':L2.St} {H':Hp} {s':Shared} {h':Heap} (I2:Inv X pins σ H2 s2) (hf:∀ b∈fp,FpOk X pins H2 b) (Iy:Inv (cyOf X scope cl C NC s2 H2 pins fp) py σ'' H' s') (hC:s2.heap.objs.size≤C) (hs:Heap.SameBut C s'.heap h') :
    Inv X pins σ H' { s' with heap:=h' }:=by
  have u:Un (frs X.stack) fp H2 H' s2.heap s'.heap:=Iy.base
  have neC:∀ b o,s2.heap.get? b=some o→b≠C:=fun b o e=>Nat.ne_of_lt (Nat.lt_of_lt_of_le (Heap.lt_size e) hC)
  have fC:H' C=none:=Iy.free
  refine I2.call' (s':={ s' with heap:=h' }) (ch:=fp) Iy.os ⟨fun b o e n hb hx=>(hs.2 b (neC b o e)).trans (u.keep b o e n hb hx),fun b o e n hb hx=>?_,u.free,fun b o e hx=>?_,u.tups,u.frzs,u.tbls⟩ (fun b o e=>?_) Iy.bare fun b hb=>?_
  · obtain ⟨sl,q⟩:=u.slot b o e n hb hx
    exact ⟨sl,(hs.2 b (neC b o e)).trans q⟩
  · obtain ⟨o',q⟩:=u.there b o e hx
    exact ⟨o',(hs.2 b (neC b o e)).trans q⟩
  · refine (Iy.hok b o e).stay (fun c v hc q=>(hs.2 c ?_).trans q) (fun _ q=>q) fun _ _ q=>q
    rintro rfl
    rcases hc with rfl | hc
    · rw [fC] at e; cases e
    · rw [fC] at hc; cases hc
  · obtain ⟨_,f1,_,f3,f4,f5⟩:=hf b hb
    exact ⟨f3,f1,f4,f5⟩
end
end DL
set_option Elab.async false
set_option linter.all false
set_option maxRecDepth 100000
set_option maxHeartbeats 4000000
namespace DL
open PySem PySem.Spec PyProof.Rows L2
section
variable {K:PySem.W.Frag} {Z Y:Addr→Prop} {m m':Mu} {H H':Hp}
mutual
/-- data elsewhere -/
theorem RP.tr (ht:∀ a vs,SqT K H a vs→SqT K H' a vs) (hl:∀ a vs,(m a=none∧¬ Z a)→SqL K H a vs→(m' a=none∧¬ Y a)∧SqL K H' a vs):∀ (p:PyData) (v:V),RP K Z m H p v→RP K Y m' H' p v
  | .none,v,h=>by simpa only [RP] using h
  | .bool _,v,h=>by simpa only [RP] using h
  | .int _,v,h=>by simpa only [RP] using h
  | .str _,v,h=>by simpa only [RP] using h
  | .tuple xs,v,h=>by
    simp only [RP] at h ⊢
    obtain ⟨a,vs,h1,h2,h3⟩:=h
    exact ⟨a,vs,h1,ht a vs h2,RPs.tr ht hl xs vs h3⟩
  | .list xs,v,h=>by
    simp only [RP] at h ⊢
    obtain ⟨a,vs,h1,h2,h3,h4⟩:=h
    obtain ⟨q1,q2⟩:=hl a vs h2 h3
    exact ⟨a,vs,h1,q1,q2,RPs.tr ht hl xs vs h4⟩
  | .dict _,v,h=>by simp only [RP] at h
theorem RPs.tr (ht:∀ a vs,SqT K H a vs→SqT K H' a vs) (hl:∀ a vs,(m a=none∧¬ Z a)→SqL K H a vs→(m' a=none∧¬ Y a)∧SqL K H' a vs):∀ (xs:List PyData) (vs:List V),RPs K Z m H xs vs→RPs K Y m' H' xs vs
  | [],vs,h=>by simpa only [RPs] using h
  | x :: xs,vs,h=>by
    simp only [RPs] at h ⊢
    obtain ⟨v,r,h1,h2,h3⟩:=h
    exact ⟨v,r,h1,RP.tr ht hl x v h2,RPs.tr ht hl xs r h3⟩
end
def rsv (Z:Addr→Prop) (D:Addr):Addr→Prop:=fun a=>Z a∨a=D
variable {D:Addr} {ys zs:List V}
theorem zat0 (hD:H D=none) (hk:K.lookup D=none):∀ a vs,(m a=none∧¬ Z a)→SqL K H a vs→(m a=none∧¬ rsv Z D a)∧SqL K (upd H D (.lst ys)) a vs:=fun a vs h1 h2 =>
  ⟨⟨h1.1,fun z=>z.elim h1.2 (SqL.ne hD hk h2)⟩,(zf9 hD).seq h2⟩
theorem zI7 (hD:H D=some (.lst ys)):∀ a vs,SqT K H a vs→SqT K (upd H D (.lst zs)) a vs:=fun b xs h=>by
  rcases h with (h | ⟨o,h⟩) | h
  · have ne:b≠D:=by rintro rfl; rw [hD] at h; cases h
    exact .inl (.inl (by rw [zd6 ne]; exact h))
  · have ne:b≠D:=by rintro rfl; rw [hD] at h; cases h
    exact .inl (.inr ⟨o,by rw [zd6 ne]; exact h⟩)
  · exact .inr h
theorem zaq6 {a:Addr} {vs:List V} (ne:a≠D) (h:SqL K H a vs):SqL K (upd H D (.lst zs)) a vs:=by
  rcases h with (h | ⟨o,h⟩) | h
  · exact .inl (.inl (by rw [zd6 ne]; exact h))
  · exact .inl (.inr ⟨o,by rw [zd6 ne]; exact h⟩)
  · exact .inr h
theorem zV2:∀ a vs,(m a=none∧¬ rsv Z D a)→SqL K H a vs→(m a=none∧¬ rsv Z D a)∧SqL K (upd H D (.lst zs)) a vs:=fun a vs h1 h2 =>
  ⟨h1,zaq6 (fun e=>h1.2 (.inr e)) h2⟩
end
section
variable {K:PySem.W.Frag} {Z:Addr→Prop} {m m1 m':Mu} {H H1 H':Hp} {D:Addr} {ys zs:List V}
theorem zaS3 {x:DL.D} {v:V} (hD:H D=none) (hk:K.lookup D=none) (h:RD K Z m H x v):RD K (rsv Z D) m (upd H D (.lst ys)) x v:=by
  cases x with
  | dat p=>exact RP.tr (fun a vs q=>SqT.same (zf9 hD) q) (zat0 hD hk) p v h
  | cel a=>exact h
theorem zaQ3 {x:DL.D} {v:V} (hD:H D=some (.lst ys)) (h:RD K (rsv Z D) m H x v):RD K (rsv Z D) m (upd H D (.lst zs)) x v:=by
  cases x with
  | dat p=>exact RP.tr (zI7 hD) zV2 p v h
  | cel a=>exact h
theorem zaQ7 (ok:Ok K Z m H) (hD:H D=none) (hk:K.lookup D=none):Ok K (rsv Z D) m (upd H D (.lst ys)):=by
  refine ⟨fun a c h=>?_,fun a h=>?_⟩
  · obtain ⟨o,h1,h2⟩:=ok.g a c h
    have ne:a≠D:=by rintro rfl; rw [hD] at h1; cases h1
    exact ⟨o,by rw [zd6 ne]; exact h1,h2.lift fun p v q=>RP.tr (fun a vs q=>SqT.same (zf9 hD) q) (zat0 hD hk) p v q⟩
  · rcases h with h | h
    · have ne:a≠D:=by rintro rfl; exact (ok.z a h).2 hD
      exact ⟨(ok.z a h).1,by rw [zd6 ne]; exact (ok.z a h).2⟩
    · subst h
      exact ⟨(zF8 ok hD).1,by rw [zf4]; intro z; cases z⟩
theorem zaA4 (ok:Ok K (rsv Z D) m H) (hD:H D=some (.lst ys)):Ok K (rsv Z D) m (upd H D (.lst zs)):=by
  refine ⟨fun a c h=>?_,fun a h=>?_⟩
  · obtain ⟨o,h1,h2⟩:=ok.g a c h
    have ne:a≠D:=by
      rintro rfl
      have:=(ok.z a (.inr rfl)).1
      rw [h] at this
      cases this
    exact ⟨o,by rw [zd6 ne]; exact h1,h2.lift fun p v q=>RP.tr (zI7 hD) zV2 p v q⟩
  · by_cases e:a=D
    · subst e
      exact ⟨(ok.z a h).1,by rw [zf4]; intro z; cases z⟩
    · exact ⟨(ok.z a h).1,by rw [zd6 e]; exact (ok.z a h).2⟩
theorem zaR9 (ok:Ok K (rsv Z D) m H):Ok K Z m H:=by
  refine ⟨fun a c h=>?_,fun a h=>ok.z a (.inl h)⟩
  obtain ⟨o,h1,h2⟩:=ok.g a c h
  exact ⟨o,h1,h2.lift fun p v q=>RP.tr (fun _ _ q=>q) (fun a vs q1 q2=>⟨⟨q1.1,fun z=>q1.2 (.inl z)⟩,q2⟩) p v q⟩
theorem zC0 (e:Ext K Z m1 H1 m H) (hD:H1 D=none) (hk:K.lookup D=none) (e2:Ext K (rsv Z D) m H m' H'):Ext K Z m1 H1 m' H' :=
  ⟨fun a vs h=>e2.t a vs (e.t a vs h),fun a vs h1 h2=>let ⟨q1,q2⟩:=e.l a vs h1 h2; e2.l a vs ⟨q1,fun z=>z.elim h1.2 (SqL.ne hD hk h2)⟩ q2,fun a h=>(e2.z a (.inl h)).trans (e.z a h),fun a h=>e2.c a (e.c a h)⟩
theorem zaM3 (e:Ext K Z m1 H1 m H) (ok1:Ok K Z m1 H1) (hD:H1 D=none) (hk:K.lookup D=none) (hH:H D=some (.lst ys)):Ext K Z m1 H1 m (upd H D (.lst zs)) :=
  ⟨fun a vs h=>zI7 hH a vs (e.t a vs h),fun a vs h1 h2=>let ⟨q1,q2⟩:=e.l a vs h1 h2; ⟨q1,zaq6 (SqL.ne hD hk h2) q2⟩,fun a h=>by
    have ne:a≠D:=by rintro rfl; exact (ok1.z a h).2 hD
    rw [zd6 ne]
    exact e.z a h,e.c⟩
end
def zm5 (g:DG) (t:DT) (f:DE):List D→List PyData→St2→Mu→(List PyData→Mu→Prop)→Prop
  | [],acc,_,m,Q=>Q acc m
  | x :: xs,acc,d,m,Q=>g x d m fun d1 m1=>t d1 m1 fun b m2=>if b=true then f d1 m2 fun y m3=>∃ p,y=.dat p∧acc.length < sizeLine∧zm5 g t f xs (acc++[p]) d1 m3 Q else zm5 g t f xs acc d1 m2 Q
def zg4 {α:Type} (src:List (Option Nat)) (d:List (Option α)):List (Option α):=src.map fun o=>o.bind fun j=>(d[j]?).join
@[simp] def dLC (src:List (Option Nat)) (fi:DI) (g:DG) (t:DT) (f:DE):DE:=fun d m Q=>fi d m fun xs m1=>zm5 g t f xs [] (zg4 src d) m1 fun ps m2=>Q (.dat (.list ps)) m2
def PF (Y:Cx) (ifs:List Expr) (t:TT):Prop:=∀ (pins:List (Addr×Obj)) (s:Shared) (σ:L2.St) (H:Hp) (Q:Bool→Hp→Prop),Inv Y pins σ H s→t σ H Q →
  wpAny (model Y.prog Y.w) Y.A (forIn ifs true fun c r=>if r=true then do let ok ← isTrue c Y.env (eval c Y.env); pure (ForInStep.yield ok) else pure (ForInStep.yield r)) (TP Y pins σ Q) Y.xe s
@[simp] def zx1:DT:=fun _ m Q=>Q true m
theorem zbb4 {Y:Cx}:PF Y [] (LT Y.K zx1):=fun pins s σ H Q I h=>by
  obtain ⟨Z,d,m,R,ok,rs,h,k⟩:=h
  exact wpAny_tests_nil ⟨H,I,k true m H h Ext.refl ok⟩
theorem zbj9 {Y:Cx} {c:Expr} {t:TT} (h:PT Y c t):PF Y [c] t:=fun pins s σ H Q I q=>wpAny_tests_one (h pins s σ H Q I q)
theorem zaR5 {K:PySem.W.Frag} {Z:Addr→Prop} {m:Mu} {H:Hp} {d:St2} {σ:L2.St} (src:List (Option Nat)) (rs:RS K Z m H d σ):RS K Z m H (zg4 src d) (zg4 src σ):=by
  refine ⟨by unfold zg4; rw [List.length_map,List.length_map],fun i x h=>?_⟩
  unfold zg4 at h ⊢
  rw [List.getElem?_map] at h ⊢
  cases e:src[i]? with
  | none=>rw [e] at h; cases h
  | some o =>
    rw [e] at h
    cases o with
    | none=>cases h
    | some j =>
      have h':(d[j]?).join=some x:=Option.some.inj h
      cases ej:d[j]? with
      | none=>rw [ej] at h'; cases h'
      | some w =>
        rw [ej] at h'
        have h2:w=some x:=h'
        subst h2
        obtain ⟨v,q1,q2⟩:=rs.2 j x ej
        exact ⟨v,by rw [Option.map_some,Option.bind_some,q1]; rfl,q2⟩
theorem zal6 {α:Type} {src:List (Option Nat)} {d:List (Option α)} {i:Nat} {v:α} (h:(zg4 src d)[i]?=some (some v)):∃ j:Nat,src[i]?=some (some j)∧d[j]?=some (some v):=by
  unfold zg4 at h
  rw [List.getElem?_map] at h
  cases e:src[i]? with
  | none=>rw [e] at h; cases h
  | some o =>
    rw [e] at h
    cases o with
    | none=>cases h
    | some j =>
      have h':(d[j]?).join=some v:=Option.some.inj h
      cases ej:d[j]? with
      | none=>rw [ej] at h'; cases h'
      | some w =>
        rw [ej] at h'
        have h2:w=some v:=h'
        subst h2
        exact ⟨j,rfl,ej⟩
end DL
set_option Elab.async false
set_option linter.all false
set_option maxRecDepth 100000
set_option maxHeartbeats 4000000
namespace DL
open PySem PySem.Spec PyProof.Rows L2
theorem zaw0 {K:PySem.W.Frag} {Z:Addr→Prop} {m1 m':Mu} {H1 H':Hp} {D:Addr} {x:DL.D} {v:V} (hD:H1 D=none) (hk:K.lookup D=none) (e:Ext K Z m1 H1 m' H') (h:RD K Z m1 H1 x v):RD K (rsv Z D) m' H' x v:=by
  cases x with
  | dat p=>exact RP.tr e.t (fun a vs h1 h2=>let ⟨q1,q2⟩:=e.l a vs h1 h2; ⟨⟨q1,fun z=>z.elim h1.2 (SqL.ne hD hk h2)⟩,q2⟩) p v h
  | cel a=>exact ⟨h.1,e.c a h.2⟩
section
variable {X:Cx} {tg iter elt:Expr} {ifs:List Expr} {scope:Scope} {NC:List Str} {fi:DI} {g:DG} {t:DT} {f:DE} {pos:Pos}
def zae0 (X:Cx) (scope:Scope) (NC:List Str) (src:List (Option Nat)):Prop:=NC.length=src.length∧∀ (i:Nat) (x:Str) (j:Nat),NC[i]?=some x→src[i]?=some (some j)→X.N[j]?=some x∧(x,NameKind.free)∈scope.names ∧
  ((relabel scope X.env).names.lookup x=some .cell∨(relabel scope X.env).names.lookup x=some .free)
structure Off (X:Cx) (pins:List (Addr×Obj)) (H:Hp) (C:Addr):Prop where
  h:H C=none
  l:C≠X.env.locals
  s:X.s₀.heap.objs.size≤C
  c:∀ x c,X.env.cells.lookup x=some c→c≠C
  p:∀ p∈X.pn++pins,p.1≠C
theorem Off.inv {pins:List (Addr×Obj)} {σ:L2.St} {H:Hp} {s:Shared} {C:Addr} {h':Heap} (o:Off X pins H C) (I:Inv X pins σ H s) (hs:Heap.SameBut C s.heap h'):Inv X pins σ H { s with heap:=h' } :=
  I.turned (t':=s.toks) (it:=C) (fun b ob hb e=>(hs.2 b hb).trans e) o.h o.l (.inr o.s) o.c o.p
theorem zaB6 (src:List (Option Nat)) (hc:X.calm=true) (hi:PI X tg iter (LI X.K fi))
    (hg:∀ cl C s2 H2 pins fp,PG (cyOf X scope cl C NC s2 H2 pins fp) tg (LG X.K g)) (ht:∀ cl C s2 H2 pins fp,PF (cyOf X scope cl C NC s2 H2 pins fp) ifs (LT X.K t)) (he:∀ cl C s2 H2 pins fp,PE (cyOf X scope cl C NC s2 H2 pins fp) elt (LE X.K f))
    (hkind:scope.kind=.function) (hcell:∀ y∈scope.names,y.2≠.cell) (hnames:∀ y∈scope.names,y.2=.local→scope.names.lookup y.1=some .local)
    (hfree:∀ x,(x,NameKind.free)∈scope.names→X.env.kindOf x=some .cell∨X.env.kindOf x=some .free) (hsrc:zae0 X scope NC src)
    (hs:∀ x,foldedSetIterable iter X.env x=pure x) {use:Option (Value→Sem Unit)} {QQ:Value→Shared→Prop} {pos':Pos} {pins:List (Addr×Obj)} {s:Shared} {σ:L2.St} {H:Hp} {Z:Addr→Prop} {d:St2} {m:Mu} {RL:List PyData→Mu→Prop}
    (I:Inv X pins σ H s) (ok:Ok X.K Z m H) (rs:RS X.K Z m H d σ) (h:fi d m fun xs m1=>zm5 g t f xs [] (zg4 src d) m1 RL)
    (fin:∀ (s5:Shared) (C D:Addr) (H':Hp) (m':Mu) (ps:List PyData),RL ps m'→Ext X.K Z m H m' H'→Ok X.K Z m' H'→RD X.K Z m' H' (.dat (.list ps)) (.ref D)→(∃ mm,s5.heap.Ns C mm)→Inv X pins σ H' s5→Off X pins H' C→(m' D=none∧Ext X.K Z m H (updM m' D (.l ps)) H'∧Ok X.K Z (updM m' D (.l ps)) H') →
      compPost (model X.prog X.w) X.A X.xe use QQ (.ref D) C (.ok .next) s5) :
    wpAny (model X.prog X.w) X.A (comprehension (.ListComp elt [⟨tg,iter,ifs,0⟩] scope pos) scope X.env pos' (newList []) false (eval iter X.env) use) QQ X.xe s:=by
  obtain ⟨cl,hclos,hcl1,hcl2⟩:=zad6 (scope:=scope) (env:=X.env) fun x hx=>I.ok.has x (hfree x hx)
  refine wpAny_comprehension_free (use:=use) rfl hs hclos hkind hnames ?_
  refine thn (hi pins s σ H (fun J H1=>∃ xs m1,Ext X.K Z m H m1 H1∧Ok X.K Z m1 H1∧zad8 X.K Z m1 H1 xs J∧zm5 g t f xs [] (zg4 src d) m1 RL) I
    ⟨Z,d,m,_,ok,rs,h,fun xs m1 H1 J q e1 ok1 y1=>⟨xs,m1,e1,ok1,y1,q⟩⟩) fun xv s₁ h₁=>thn h₁ fun itv s₂ h₂=>?_
  obtain ⟨it,fp,tn,J,H2,eit,I2,T,st2,f2,xs,m1,e1,ok1,yl,lp⟩:=h₂
  subst eit
  refine wpAny_newObj_type (wpAny_newFunctionEnv hcell (by intro y hy; simp at hy) (fun h₁ hns₁ hsb₁=>?_) hkind)
  dsimp only at hns₁ hsb₁ ⊢
  generalize hH2:s₂.heap.push { cls:=.type "list",dict:=none,data:=.seq ([]:List Value).toArray }=HP at hns₁ hsb₁ ⊢
  have hC:HP.objs.size=s₂.heap.objs.size + 1:=by rw [← hH2,Heap.size_push]
  have leC:s₂.heap.objs.size≤HP.objs.size:=by rw [hC]; exact Nat.le_succ _
  have old:∀ b o,s₂.heap.get? b=some o→h₁.get? b=some o:=fun b o e=>hsb₁.extBut b o (Nat.ne_of_lt (Nat.lt_of_lt_of_le (Heap.lt_size e) leC)) (Heap.get?_push_of_some _ (hH2 ▸ Heap.get?_push_of_some _ e))
  have hacc:h₁.get? s₂.heap.objs.size=some { cls:=.type "list",data:=.seq ([]:List Value).toArray }:=hsb₁.extBut _ _ (by rw [hC]; exact Nat.ne_of_lt (Nat.lt_succ_self _)) (Heap.get?_push_of_some _ (hH2 ▸ Heap.get?_push_size _ rfl))
  have hD:H2 s₂.heap.objs.size=none:=I2.hok.fresh (Nat.le_refl _)
  have hkD:X.K.lookup s₂.heap.objs.size=none:=by
    cases e:X.K.lookup s₂.heap.objs.size with
    | none=>rfl
    | some o=>exact absurd (Heap.lt_size (I2.kIn _ o e)) (Nat.lt_irrefl _)
  have obf:∀ b∈fp,∃ o,s₂.heap.get? b=some o∧∀ v,o.data≠.cell v:=T.obj 0 _ st2
  have hσ:∀ (i:Nat) (x:Str) (v:V),NC[i]?=some x→(zg4 src σ)[i]?=some (some v)→Vis (relabel scope X.env) x→((relabel scope X.env).names.lookup x=some .cell∨(relabel scope X.env).names.lookup x=some .free)∧(X.env.kindOf x=some .cell∨X.env.kindOf x=some .free)∧∃ j:Nat,X.N[j]?=some x∧σ[j]?=some (some v):=fun i x v h1 h2 _=>by
    obtain ⟨j,q1,q2⟩:=zal6 h2
    obtain ⟨a1,a2,a3⟩:=hsrc.2 i x j h1 q1
    exact ⟨a3,hfree x a2,j,a1,q2⟩
  have I4:=fun tk=>zat8 (cl:=cl) (NC:=NC) (σ':=zg4 src σ) (tk:=tk) I2 f2 obf hkind hcell hcl1 hcl2 (by unfold zg4; rw [List.length_map]; exact hsrc.1.symm) hσ hC hns₁ old hacc
  have st4:tn 0 h₁:=T.keep 0 _ _ st2 fun b _ o e=>old b o e
  -- the loop
  have loop:∀ s₃:Shared,s₃={ s₂ with heap:=h₁,toks:=s₂.toks + ([]:List (Str×Value)).length } →
      codeAny (model X.prog X.w) X.A (.compLoop (.ListComp elt [⟨tg,iter,ifs,0⟩] scope pos) 0 (.ref it) (.ref s₂.heap.objs.size) (compEnvC scope cl HP.objs.size X.env))
        (compPost (model X.prog X.w) X.A X.xe use QQ (.ref s₂.heap.objs.size) HP.objs.size) s₃:=by
    rintro s₃ rfl
    refine zaC8 (fun n s'=>∃ (i:Nat) (ys:List V) (acc:List PyData) (d':St2) (m':Mu) (σ':L2.St) (H':Hp),n=xs.length - i∧i≤xs.length∧Inv (cyOf X scope cl HP.objs.size NC s₂ H2 pins fp) [] σ' H' s'∧tn i s'.heap∧(∀ b∈fp,H' b=none) ∧
      H' s₂.heap.objs.size=some (.lst ys)∧RPs X.K (rsv Z s₂.heap.objs.size) m' H' acc ys∧Ext X.K Z m1 H2 m' H'∧Ok X.K (rsv Z s₂.heap.objs.size) m' H'∧RS X.K (rsv Z s₂.heap.objs.size) m' H' d' σ' ∧
      zm5 g t f (xs.drop i) acc d' m' RL) ?_ xs.length ?_
    rotate_left
    · have rs1:RS X.K Z m1 H2 (zg4 src d) (zg4 src σ):=zaR5 src (rs.ext e1)
      refine ⟨0,[],[],zg4 src d,m1,zg4 src σ,_,by simp,Nat.zero_le _,I4 _,st4,fun b hb=>?_,zf4,by simp [RPs],ok1.ext (zf9 hD),zaQ7 ok1 hD hkD,⟨rs1.1,fun i x hx=>?_⟩,by simpa using lp⟩
      · obtain ⟨o,ho,_⟩:=obf b hb
        rw [zd6 (Nat.ne_of_lt (Heap.lt_size ho))]
        exact (f2 b hb).1
      · obtain ⟨v,q1,q2⟩:=rs1.2 i x hx
        exact ⟨v,q1,zaS3 hD hkD q2⟩
    rintro n s4 ⟨i,ys,acc,d',m',σ',H',rfl,hi',I5,st5,fr5,hDy,racc,eX,ok5,rs5,lp5⟩
    have stat:∀ b∈fp,FpOk (cyOf X scope cl HP.objs.size NC s₂ H2 pins fp) [] H' b:=fun b hb=>by
      obtain ⟨g0,g1,g2,g3,g4,g5⟩:=f2 b hb
      obtain ⟨o,ho,_⟩:=obf b hb
      refine ⟨fr5 b hb,Nat.ne_of_lt (Nat.lt_of_lt_of_le (Heap.lt_size ho) leC),fun z=>?_,.inl hb,fun x c e=>g4 x c (hcl1 (x,c) (zs2 e)),fun p hp=>?_⟩
      · rcases List.mem_cons.mp (I2.stkSub b z) with q | q
        · exact g1 q
        · exact g2 q
      · rcases List.mem_append.mp hp with q | q
        · exact g5 p q
        · cases q
    obtain ⟨y1,y2⟩:=yl m' H' eX.y
    by_cases hlt:i < xs.length
    · rw [List.drop_eq_getElem_cons hlt] at lp5
      obtain ⟨go,yd⟩:=y1 i xs[i] (List.getElem?_eq_getElem hlt)
      refine thn (T.item (cyOf X scope cl HP.objs.size NC s₂ H2 pins fp) rfl rfl rfl hc i [] s4 σ' H' (fun _ _=>False) I5 stat st5 go) fun r s5 hq0=>?_
      obtain ⟨u,hr,h5⟩:=hq0
      subst hr
      refine thn h5 fun _ s6 hq0=>?_
      obtain ⟨x,H6,I6,r6,yy,st6,fr6⟩:=hq0
      have yy':=yd x H6 yy
      have e56:Ext X.K (rsv Z s₂.heap.objs.size) m' H' m' H6:=ok5.ext yy'.same
      have rv:=yy'.rd (fun d v h=>zaw0 hD hkD eX h) ok5
      have hDy:=yy'.same _ _ hDy
      have racc:=RPs.ext e56 _ _ racc
      have eX:=zC0 eX hD hkD e56
      have rs5:=rs5.ext e56
      have ok5:=ok5.grow yy'.same
      have stat:∀ b∈fp,FpOk (cyOf X scope cl HP.objs.size NC s₂ H2 pins fp) [] H6 b:=fun b hb=>⟨fr6 b hb,(stat b hb).2⟩
      have I6':=I6.pinned stat (T.obj _ _ st6)
      -- what stands when a turn is over
      have over:∀ {s7:Shared} {σ7:L2.St} {H7:Hp} {ys7:List V} {acc7:List PyData} {d7:St2} {m7:Mu},Inv (cyOf X scope cl HP.objs.size NC s₂ H2 pins fp) ([]++zaa1 fp s6.heap) σ7 H7 s7→H7 s₂.heap.objs.size=some (.lst ys7)→RPs X.K (rsv Z s₂.heap.objs.size) m7 H7 acc7 ys7 →
          Ext X.K Z m1 H2 m7 H7→Ok X.K (rsv Z s₂.heap.objs.size) m7 H7→RS X.K (rsv Z s₂.heap.objs.size) m7 H7 d7 σ7→(zm5 g t f (xs.drop (i + 1)) acc7 d7 m7 RL) →
          ∃ n,n < xs.length - i∧∃ (i:Nat) (ys:List V) (acc:List PyData) (d':St2) (m':Mu) (σ':L2.St) (H':Hp),n=xs.length - i∧i≤xs.length∧Inv (cyOf X scope cl HP.objs.size NC s₂ H2 pins fp) [] σ' H' s7∧tn i s7.heap∧(∀ b∈fp,H' b=none) ∧
            H' s₂.heap.objs.size=some (.lst ys)∧RPs X.K (rsv Z s₂.heap.objs.size) m' H' acc ys∧Ext X.K Z m1 H2 m' H'∧Ok X.K (rsv Z s₂.heap.objs.size) m' H'∧RS X.K (rsv Z s₂.heap.objs.size) m' H' d' σ' ∧
            zm5 g t f (xs.drop i) acc d' m' RL:=by
        intro s7 σ7 H7 ys7 acc7 d7 m7 I7 a1 a2 a3 a4 a5 a6
        refine ⟨xs.length - (i + 1),by omega,i + 1,ys7,acc7,d7,m7,σ7,H7,rfl,hlt,I7.unpinned,T.keep _ _ _ st6 fun b hb o e=>(I7.pin (b,o) (List.mem_append_right _ (List.mem_append_right _ (zo1 hb e)))).1,fun b hb=>?_,a1,a2,a3,a4,a5,a6⟩
        obtain ⟨o,e,dd⟩:=T.obj _ _ st6 b hb
        exact (I7.pin (b,o) (List.mem_append_right _ (List.mem_append_right _ (zo1 hb e)))).2.1
      refine thn (hg cl _ s₂ H2 pins fp _ s6 σ' _ x u (fun σ7 H7=>∃ d7 m7,Ext X.K (rsv Z s₂.heap.objs.size) m' H6 m7 H7∧Ok X.K (rsv Z s₂.heap.objs.size) m7 H7∧RS X.K (rsv Z s₂.heap.objs.size) m7 H7 d7 σ7 ∧
        t d7 m7 fun b m2=>if b=true then f d7 m2 fun y m3=>∃ p,y=.dat p∧acc.length < sizeLine∧zm5 g t f (xs.drop (i + 1)) (acc++[p]) d7 m3 RL else zm5 g t f (xs.drop (i + 1)) acc d7 m2 RL) I6' r6
        ⟨_,xs[i],d',m',_,ok5,rs5,rv,lp5,fun d7 m7 σ7 H7 q7 e7 ok7 rs7=>⟨d7,m7,e7,ok7,rs7,q7⟩⟩) fun _ s7 hq0=>?_
      obtain ⟨σ7,H7,I7,d7,m7,e7,ok7,rs7,q7⟩:=hq0
      refine thn (ht cl _ s₂ H2 pins fp _ s7 σ7 H7 (fun b H8=>∃ m8,Ext X.K (rsv Z s₂.heap.objs.size) m7 H7 m8 H8∧Ok X.K (rsv Z s₂.heap.objs.size) m8 H8 ∧
        if b=true then f d7 m8 fun y m3=>∃ p,y=.dat p∧acc.length < sizeLine∧zm5 g t f (xs.drop (i + 1)) (acc++[p]) d7 m3 RL else zm5 g t f (xs.drop (i + 1)) acc d7 m8 RL) I7
        ⟨_,d7,m7,_,ok7,rs7,q7,fun b m8 H8 q8 e8 ok8=>⟨m8,e8,ok8,q8⟩⟩) fun b s8 hq0=>?_
      obtain ⟨H8,I8,m8,e8,ok8,q8⟩:=hq0
      have e68:=e7.trans e8
      have hD8:H8 s₂.heap.objs.size=some (.lst ys):=(e68.z _ (.inr rfl)).trans hDy
      cases b with
      | false =>
        rw [if_neg Bool.false_ne_true] at q8
        exact over I8 hD8 (RPs.ext e68 _ _ racc) (zC0 eX hD hkD e68) ok8 (rs7.ext e8) q8
      | true =>
        rw [if_pos rfl] at q8
        refine thn (he cl _ s₂ H2 pins fp _ s8 σ7 H8 (fun v H9=>∃ p m9,RP X.K (rsv Z s₂.heap.objs.size) m9 H9 p v∧Ext X.K (rsv Z s₂.heap.objs.size) m8 H8 m9 H9∧Ok X.K (rsv Z s₂.heap.objs.size) m9 H9∧acc.length < sizeLine∧zm5 g t f (xs.drop (i + 1)) (acc++[p]) d7 m9 RL) I8
          ⟨_,d7,m8,_,ok8,rs7.ext e8,q8,fun y m9 v H9 hq1 e9 ok9 r9=>by
            obtain ⟨p,ey,hz,q9⟩:=hq1
            subst ey
            exact ⟨p,m9,r9,e9,ok9,hz,q9⟩⟩) fun yv s9 hq0=>?_
        obtain ⟨y,H9,I9,ry,p,m9,rp9,e9,ok9,hz,q9⟩:=hq0
        have e69:=e68.trans e9
        have hD9:H9 s₂.heap.objs.size=some (.lst ys):=(e69.z _ (.inr rfl)).trans hDy
        have racc9:=RPs.ext e69 _ _ racc
        have rs9:=(rs7.ext e8).ext e9
        refine thn (zY4 _ s9 σ7 H9 (.ref s₂.heap.objs.size) [y] (.ref s₂.heap.objs.size) [yv] (fun v H10=>H10=upd H9 s₂.heap.objs.size (.lst (ys++[y]))) I9 rfl (.cons ry .nil) ⟨_,ys,y,rfl,rfl,hD9,by rw [racc9.length]; exact hz,rfl⟩) fun rv s10 hq0=>?_
        obtain ⟨v10,H10,I10,_,e10⟩:=hq0
        subst e10
        refine over I10 zf4 ?_ (zaM3 (zC0 eX hD hkD e69) ok1 hD hkD hD9) (zaA4 ok9 hD9) ⟨rs9.1,fun j z hj=>?_⟩ q9
        · exact RPs.tr (zI7 hD9) zV2 _ _ (racc9.append (by simp only [RPs]; exact ⟨y,[],rfl,rp9,rfl⟩))
        · obtain ⟨v,a1,a2⟩:=rs9.2 j z hj
          exact ⟨v,a1,zaQ3 hD9 a2⟩
    · have e:i=xs.length:=by omega
      subst e
      rw [List.drop_length] at lp5
      refine thn (T.done (cyOf X scope cl HP.objs.size NC s₂ H2 pins fp) rfl rfl rfl hc _ [] s4 σ' H' (fun _ _=>False) I5 stat st5 y2) fun r s5 hq0=>?_
      obtain ⟨hr,I6⟩:=hq0
      subst hr
      have IX:=zaQ4 I2 f2 I6 leC (Heap.SameBut.refl _ _)
      have nz:¬ Z s₂.heap.objs.size:=fun z=>(ok1.z _ z).2 hD
      refine fin s5 HP.objs.size s₂.heap.objs.size H' m' acc lp5 (e1.trans eX) (zaR9 ok5) ?_ ⟨_,I6.loc.choose_spec.1⟩ IX ⟨I6.free,Nat.ne_of_gt (Nat.lt_of_lt_of_le I2.lt leC),Nat.le_trans I2.sz leC,fun x c e=>?_,fun p hp=>?_⟩ ⟨(ok5.z _ (.inr rfl)).1,?_,?_⟩
      · simp only [RD,RP]
        exact ⟨_,ys,rfl,⟨(ok5.z _ (.inr rfl)).1,nz⟩,.inl (.inl hDy),RPs.tr (fun _ _ q=>q) (fun a vs q1 q2=>⟨⟨q1.1,fun z=>q1.2 (.inl z)⟩,q2⟩) _ _ racc⟩
      · obtain ⟨v,q⟩:=I2.cell x c e
        exact Nat.ne_of_lt (Nat.lt_of_lt_of_le q.lt leC)
      · exact Nat.ne_of_lt (Nat.lt_of_lt_of_le (Heap.lt_size (I2.pin p hp).1) leC)
      · refine ⟨fun a vs q=>(e1.trans eX).t a vs q,fun a vs q1 q2=>?_,fun a q=>(e1.trans eX).z a q,fun a q=>?_⟩
        · obtain ⟨_,q3⟩:=e1.l a vs q1 q2
          have ne:=SqL.ne hD hkD q3
          obtain ⟨q4,q5⟩:=(e1.trans eX).l a vs q1 q2
          exact ⟨by rw [zi7 ne]; exact q4,q5⟩
        · by_cases ea:a=s₂.heap.objs.size
          · subst ea; rw [zd0]; rfl
          · rw [zi7 ea]; exact (e1.trans eX).c a q
      · have tr:∀ (a:Addr) (vs:List V),(m' a=none∧¬ rsv Z s₂.heap.objs.size a)→SqL X.K H' a vs→(updM m' s₂.heap.objs.size (.l acc) a=none∧¬ Z a)∧SqL X.K H' a vs:=fun a vs q1 q2=>⟨⟨by rw [zi7 fun z=>q1.2 (.inr z)]; exact q1.1,fun z=>q1.2 (.inl z)⟩,q2⟩
        refine ⟨fun a c q=>?_,fun a q=>?_⟩
        · by_cases ea:a=s₂.heap.objs.size
          · subst ea
            rw [zd0] at q
            cases q
            exact ⟨_,hDy,RPs.tr (fun _ _ q=>q) tr _ _ racc⟩
          · rw [zi7 ea] at q
            obtain ⟨o,q1,q2⟩:=ok5.g a c q
            exact ⟨o,q1,q2.lift fun p v q3=>RP.tr (fun _ _ q=>q) tr p v q3⟩
        · have ne:a≠s₂.heap.objs.size:=fun z=>nz (z ▸ q)
          obtain ⟨q1,q2⟩:=ok5.z a (.inl q)
          exact ⟨by rw [zi7 ne]; exact q1,q2⟩
  exact codeAny_compStart_list (loop _ rfl) (T.self _ 0 _ _ _ st4 (loop _ rfl))
theorem zbl0 (src:List (Option Nat)) (hc:X.calm=true) (hi:PI X tg iter (LI X.K fi))
    (hg:∀ cl C s2 H2 pins fp,PG (cyOf X scope cl C NC s2 H2 pins fp) tg (LG X.K g)) (ht:∀ cl C s2 H2 pins fp,PF (cyOf X scope cl C NC s2 H2 pins fp) ifs (LT X.K t)) (he:∀ cl C s2 H2 pins fp,PE (cyOf X scope cl C NC s2 H2 pins fp) elt (LE X.K f))
    (hkind:scope.kind=.function) (hcell:∀ y∈scope.names,y.2≠.cell) (hnames:∀ y∈scope.names,y.2=.local→scope.names.lookup y.1=some .local)
    (hfree:∀ x,(x,NameKind.free)∈scope.names→X.env.kindOf x=some .cell∨X.env.kindOf x=some .free) (hsrc:zae0 X scope NC src)
    (hs:∀ x,foldedSetIterable iter X.env x=pure x:=by intro _; rfl) :
    PE X (.ListComp elt [⟨tg,iter,ifs,0⟩] scope pos) (LE X.K (dLC src fi g t f)):=by
  intro pins s σ H Q I h
  obtain ⟨Z,d,m,R,ok,rs,h,k⟩:=h
  rw [eval_ListComp]
  refine zaB6 src hc hi hg ht he hkind hcell hnames hfree hsrc hs (use:=none) (QQ:=EP X pins σ Q) (RL:=fun ps m2=>R (.dat (.list ps)) m2) I ok rs h ?_
  intro s5 C D H' m' ps q e ok' rd ⟨mm,hns⟩ I5 off hcl
  exact ⟨mm,hns,fun h' hs'=>⟨.ref D,H',off.inv I5 hs',rfl,k _ m' _ H' q e ok' rd⟩⟩
theorem zbl2 (i:Nat) {y:Str} {py spos:Pos} (src:List (Option Nat)) (hc:X.calm=true) (hi:PI X tg iter (LI X.K fi))
    (hg:∀ cl C s2 H2 pins fp,PG (cyOf X scope cl C NC s2 H2 pins fp) tg (LG X.K g)) (ht:∀ cl C s2 H2 pins fp,PF (cyOf X scope cl C NC s2 H2 pins fp) ifs (LT X.K t)) (he:∀ cl C s2 H2 pins fp,PE (cyOf X scope cl C NC s2 H2 pins fp) elt (LE X.K f))
    (hkind:scope.kind=.function) (hcell:∀ y∈scope.names,y.2≠.cell) (hnames:∀ y∈scope.names,y.2=.local→scope.names.lookup y.1=some .local)
    (hfree:∀ x,(x,NameKind.free)∈scope.names→X.env.kindOf x=some .cell∨X.env.kindOf x=some .free) (hsrc:zae0 X scope NC src)
    (hN:X.N.Nodup) (hi2:X.N[i]?=some y:=by rfl) (hx:Loc X.env.scope y:=by first | exact Or.inl rfl | exact Or.inr rfl) (hf:X.fn y=true∨X.env.scope.names.lookup y=some .local:=by first | exact .inl rfl | exact .inr rfl)
    (hsw:swapsWith (.ListComp elt [⟨tg,iter,ifs,0⟩] scope pos) (some (.Name y py)) spos.line X.env=pure true:=by rfl)
    (hs:∀ x,foldedSetIterable iter X.env x=pure x:=by intro _; rfl) :
    PS X (.Assign [.Name y py] (.ListComp elt [⟨tg,iter,ifs,0⟩] scope pos) spos) (LS X.K (dSet i (dLC src fi g t f))):=by
  intro pins s σ H E I h
  obtain ⟨Z,d,m,R,ok,rs,h,k,_⟩:=h
  rw [exec_Assign_Name_used _ _ _ _ hsw]
  refine wpAny_bind (wpAny_standAt (wpAny_bind ?_))
  rw [arm_evalThenUse_ListComp]
  refine wpAny_bind ?_
  refine thn (zaB6 src hc hi hg ht he hkind hcell hnames hfree hsrc hs (use:=some (assign (.Name y py) X.env)) (QQ:=fun _ s'=>SP X pins E .next s') (RL:=fun ps m2=>R.nx (d.set i (some (.dat (.list ps)))) m2) I ok rs h ?_) (fun _ s' q=>wpAny_pure (wpAny_pure q))
  intro s5 C D H' m' ps q e ok' rd ⟨mm,hns⟩ I5 off hcl
  show wpAny _ X.A (assign (.Name y py) X.env (.ref D)) _ _ s5
  refine wpAny_assign_Name (zal2 I5 hN hi2 hx (v:=.ref D) rfl (fun s6 I6 ⟨a,hs6,ha⟩=>?_) hf)
  have ne:C≠a:=by
    rcases ha with rfl | ha
    · exact off.l
    · exact Ne.symm (off.c _ _ ha)
  refine ⟨mm,hns.sameBut hs6 ne,fun h' hs'=>?_⟩
  exact ⟨_,H',off.inv I6 hs',k _ m' _ H' q e ok' ((rs.ext e).set rd)⟩
end
end DL
set_option Elab.async false
set_option linter.all false
set_option maxRecDepth 100000
set_option maxHeartbeats 4000000
namespace DL
open PySem PySem.Spec PyProof.Rows L2
section
variable {prog:Program} {w:World} {A:Around} {E:Value→Shared→Prop} {s:Shared}
def IsRv (h:Heap) (a t:Addr) (i:Int):Prop:=∃ o,h.get? a=some o∧o.cls=.type "reversed"∧o.data=.fields #[.ref t,rawInt i]
theorem IsRv.typeIs {a t:Addr} {i:Int} (x:IsRv s.heap a t i):s.TypeIs (.ref a) "reversed":=let ⟨o,ho,hc,_⟩:=x; ⟨o,ho,hc⟩
end
end DL
set_option Elab.async false
set_option linter.all false
set_option maxRecDepth 100000
set_option maxHeartbeats 4000000
namespace DL
open PySem PySem.Spec PyProof.Rows L2
theorem zaM4 (l:Addr) (items:Array Value) (x:Value) (e:Value→Bool) (j:Nat) (hj:j < items.size) (hit:e items[j]=true) (hno:∀ m (hm:m < items.size),m < j→e items[m]=false) :
    Meets (Builtin.«tuple.index» ⟨[.ref l,x],[]⟩) (fun A R s=>IsTup s.heap l items∧(∀ y,y∈items→SeqAt.EqAt A.in1 s y x (e y))∧R (.ok (.ret (.int j s.toks))) { s with toks:=s.toks + 1 }) :=
  .of_wp fun prog w A R s h=>by
    obtain ⟨ht,he,h⟩:=h
    unfold Builtin.«tuple.index»
    refine wpAny_bind (wpAny_of_eq (a:=(Value.ref l,[x])) rfl ?_)
    try dsimp only
    refine wpAny_bind (tupleItemsOf_ ht ?_)
    try dsimp only
    refine wpAny_bind (wpAny_pure (wpAny_bind (wpAny_pure ?_)))
    rw [Nat.min_self,Std.Legacy.Range.forIn_eq_forIn_range']
    refine wpAny_bind (wpAny_forIn_list _ (fun rest b s'=>s'=s∧∃ k,k≤j∧rest=List.range' k (items.size - k)) _ ?_ ?_ _ _ ?_)
    · rintro i rest b s' ⟨rfl,k,hk,hr⟩
      have hlt:k < items.size:=by omega
      obtain ⟨n,hn⟩:∃ n,items.size - k=n + 1:=⟨items.size - k - 1,by omega⟩
      rw [hn,List.range'_succ] at hr
      obtain ⟨rfl,rfl⟩:=List.cons.inj hr
      have hx:items[i]?=some items[i]:=Array.getElem?_eq_getElem hlt
      simp only [hx]
      refine wpAny_bind (he _ (Array.getElem_mem hlt) prog w _ _ ?_)
      by_cases hij:i=j
      · subst hij
        rw [hit]
        exact wpAny_bind (wpAny_bind (wpAny_mkInt (wpAny_pure (wpAny_pure (wpAny_pure ⟨_,rfl,h⟩)))))
      · rw [hno i hlt (by omega)]
        exact wpAny_pure ⟨rfl,i + 1,by omega,by congr 1; omega⟩
    · rintro b s' ⟨rfl,k,hk,hr⟩
      have:=congrArg List.length hr
      rw [List.length_range'] at this
      simp at this
      omega
    · exact ⟨rfl,0,Nat.zero_le _,by simp [Std.Legacy.Range.size]⟩
theorem zZ6:∀ {zs:List Str} {us:List Value},Vals (zs.map V.str) us→∀ i (h:i < us.length) (h2:i < zs.length),∃ t,us[i]=.str zs[i] t
  | [],_,.nil,i,h,_=>absurd h (Nat.not_lt_zero _)
  | z :: zs,_,.cons r t,0,_,_=>let ⟨k,e⟩:=r; ⟨k,e⟩
  | z :: zs,_,.cons r t,i + 1,h,h2=>zZ6 t i (Nat.lt_of_succ_lt_succ h) (Nat.lt_of_succ_lt_succ h2)
theorem zaA6 {y:Str}:∀ (zs:List Str) (m:Nat) (h:m < zs.length),m < zs.idxOf y→zs[m]≠y
  | [],_,h,_=>absurd h (Nat.not_lt_zero _)
  | z :: zs,0,_,h=>by
    intro e
    rw [List.getElem_cons_zero] at e
    rw [e,List.idxOf_cons_self] at h
    exact absurd h (Nat.lt_irrefl _)
  | z :: zs,m + 1,hl,h=>by
    rw [List.getElem_cons_succ]
    refine zaA6 zs m (Nat.lt_of_succ_lt_succ hl) ?_
    rw [List.idxOf_cons] at h
    cases e:z == y with
    | true=>simp [e] at h
    | false=>simp [e] at h; omega
section
variable {X:Cx} {a e o:Expr} {es:List Expr} {f g:DE} {ga:DA} {pos p p1 p2:Pos}
def zbk3 (K:PySem.W.Frag):V→List V→Hp→VK→Prop:=fun x xs H Q=>∃ (a:Addr) (y:Str) (zs:List Str),x=.ref a∧xs=[.str y]∧SqT K H a (zs.map V.str)∧y∈zs∧Q (.int (zs.idxOf y:Nat)) H
theorem zaU2:MtR X "tuple.index" (zbk3 X.K):=by
  intro pins s σ H x xs v us Q I rx rs ⟨a,y,zs,e1,e2,hq,hk,q⟩
  subst e1 e2
  cases rx
  obtain ⟨u,rfl,ru⟩:=zN6 rs
  obtain ⟨tk,rfl⟩:=id ru
  obtain ⟨its,rv,p,hz⟩:=I.tuple hq
  have hl:=rv.length
  rw [List.length_map] at hl
  have hj:zs.idxOf y < zs.length:=List.idxOf_lt_length_iff.mpr hk
  have hit:∀ m (hm:m < its.toArray.size) (hm2:m < zs.length),eqU (.str y) its.toArray[m]=(zs[m] == y):=fun m hm hm2=>by
    obtain ⟨t,e⟩:=zZ6 rv m (by simpa using hm) hm2
    have e':its.toArray[m]=.str zs[m] t:=by simpa using e
    rw [e']
    rfl
  have hfl:(zs.map V.str).all zR0=true:=by
    rw [List.all_eq_true]
    intro v hv
    obtain ⟨z,_,rfl⟩:=List.mem_map.mp hv
    rfl
  refine call_meets PySem.F.slot_tuple_index p.typeIs PySem.F.entry_tuple_index (PySem.F.args_tuple_index_2 _ _) (zaM4 a its.toArray (.str y tk) (eqU (.str y)) (zs.idxOf y) (by rw [List.size_toArray]; omega) ?_ ?_) ⟨p,?_,?_⟩
  · rw [hit _ _ hj,List.getElem_idxOf hj]
    simp
  · intro m hm hlt
    have hm2:m < zs.length:=by omega
    rw [hit m hm hm2]
    simp only [beq_eq_false_iff_ne]
    exact zaA6 _ _ hm2 hlt
  · exact fun w hw=>zP1 (x:=.str y) ⟨tk,rfl⟩ rfl rv hfl w (by simpa using hw)
  · exact ⟨.int _,H,I.tok _,⟨_,rfl⟩,q⟩
theorem zs1 {K:PySem.W.Frag} {Z:Addr→Prop} {m:Mu} {H:Hp}:∀ {zs:List Str} {vs:List V},RPs K Z m H (zs.map PyData.str) vs→vs=zs.map V.str
  | [],vs,h=>by simpa [RPs] using h
  | z :: zs,vs,h=>by
    simp only [List.map_cons,RPs] at h
    obtain ⟨v,r,rfl,h1,h2⟩:=h
    simp only [RP] at h1
    subst h1
    rw [zs1 h2]
    rfl
theorem zV1 {K:PySem.W.Frag} {Z:Addr→Prop} {m:Mu} {H:Hp}:∀ (zs:List Str),RPs K Z m H (zs.map PyData.str) (zs.map V.str)
  | []=>by simp [RPs]
  | z :: zs=>by
    simp only [List.map_cons,RPs]
    exact ⟨_,_,rfl,by simp only [RP],zV1 zs⟩
def KT (K:PySem.W.Frag) (a:Addr) (zs:List Str):Prop:=∃ (o:Obj) (its:Array Value) (n:Nat),K.lookup a=some o∧o.cls=.type "tuple"∧o.dict=none∧o.data=.seq its n∧its.size≤sizeLine∧Vals (zs.map V.str) its.toList
theorem KT.sq {K:PySem.W.Frag} {a:Addr} {zs:List Str} {H:Hp} (h:KT K a zs):SqT K H a (zs.map V.str):=by
  obtain ⟨o,its,n,h1,h2,h3,h4,h5,h6⟩:=h
  exact .inr ⟨o,its,n,h1,⟨h2,h3⟩,h4,h5,h6⟩
theorem zbc1 {x:Str} {c:Addr} {zs:List Str} (hg:Gl X x) (hm:X.mg x=some (.ref c)) (hk:KT X.K c zs) (hd:(x == ("__debug__" : Str))=false:=by decide):PE X (.Name x pos) (LE X.K (dCon (.tuple (zs.map .str)))) :=
  PE.imp (zas3 (v:=.ref c) hg hm rfl hd) fun s H Q h=>by
    obtain ⟨Z,d,m,R,ok,rs,h,k⟩:=h
    refine k _ m _ H h Ext.refl ok ?_
    simp only [RD,RP]
    exact ⟨c,_,rfl,hk.sq,zV1 zs⟩
@[simp] def aIn:D2
  | .dat (.str x),.dat (.list ys),m,Q=>∃ zs:List Str,ys=zs.map .str∧Q (.dat (.bool (decide (x∈zs)))) m
  | .dat (.str x),.dat (.tuple ys),m,Q=>∃ zs:List Str,ys=zs.map .str∧Q (.dat (.bool (decide (x∈zs)))) m
  | .dat (.bool x),.dat (.list ys),m,Q=>∃ zs:List Bool,ys=zs.map .bool∧Q (.dat (.bool (decide (x∈zs)))) m
  | .dat (.bool x),.dat (.tuple ys),m,Q=>∃ zs:List Bool,ys=zs.map .bool∧Q (.dat (.bool (decide (x∈zs)))) m
  | .dat (.int x),.dat (.list ys),m,Q=>∃ zs:List Int,ys=zs.map .int∧Q (.dat (.bool (decide (x∈zs)))) m
  | .dat (.int x),.dat (.tuple ys),m,Q=>∃ zs:List Int,ys=zs.map .int∧Q (.dat (.bool (decide (x∈zs)))) m
  | _,_,_,_=>False
theorem zaf7 (x:Str):∀ zs:List Str,inV (.str x) (zs.map V.str)=decide (x∈zs)
  | []=>rfl
  | z :: zs=>by
    have ih:=zaf7 x zs
    unfold inV at ih ⊢
    rw [List.map_cons,List.any_cons,ih]
    show (z == x || decide (x∈zs))=decide (x∈z :: zs)
    rw [Bool.eq_iff_iff]
    simp only [Bool.or_eq_true,beq_iff_eq,decide_eq_true_eq,List.mem_cons]
    exact ⟨fun h=>h.imp Eq.symm id,fun h=>h.imp Eq.symm id⟩
theorem zan4 (zs:List Str):(zs.map V.str).all zR0=true:=by
  rw [List.all_eq_true]
  intro v hv
  obtain ⟨z,_,rfl⟩:=List.mem_map.mp hv
  rfl
theorem zW4 (x:Bool):∀ zs:List Bool,inV (.bl x) (zs.map V.bl)=decide (x∈zs)
  | []=>rfl
  | z :: zs=>by
    have ih:=zW4 x zs
    unfold inV at ih ⊢
    rw [List.map_cons,List.any_cons,ih]
    show (z == x || decide (x∈zs))=decide (x∈z :: zs)
    rw [Bool.eq_iff_iff]
    simp only [Bool.or_eq_true,beq_iff_eq,decide_eq_true_eq,List.mem_cons]
    exact ⟨fun h=>h.imp Eq.symm id,fun h=>h.imp Eq.symm id⟩
theorem zad0 (zs:List Bool):(zs.map V.bl).all zR0=true:=by
  rw [List.all_eq_true]
  intro v hv
  obtain ⟨z,_,rfl⟩:=List.mem_map.mp hv
  rfl
theorem zR4 {K:PySem.W.Frag} {Z:Addr→Prop} {m:Mu} {H:Hp}:∀ {zs:List Bool} {vs:List V},RPs K Z m H (zs.map PyData.bool) vs→vs=zs.map V.bl
  | [],vs,h=>by simpa [RPs] using h
  | z :: zs,vs,h=>by
    simp only [List.map_cons,RPs] at h
    obtain ⟨v,r,rfl,h1,h2⟩:=h
    simp only [RP] at h1
    subst h1
    rw [zR4 h2]
    rfl
theorem zaj2 (x:Int):∀ zs:List Int,inV (.int x) (zs.map V.int)=decide (x∈zs)
  | []=>rfl
  | z :: zs=>by
    have ih:=zaj2 x zs
    unfold inV at ih ⊢
    rw [List.map_cons,List.any_cons,ih]
    show (z == x || decide (x∈zs))=decide (x∈z :: zs)
    rw [Bool.eq_iff_iff]
    simp only [Bool.or_eq_true,beq_iff_eq,decide_eq_true_eq,List.mem_cons]
    exact ⟨fun h=>h.imp Eq.symm id,fun h=>h.imp Eq.symm id⟩
theorem zan9 (zs:List Int):(zs.map V.int).all zR0=true:=by
  rw [List.all_eq_true]
  intro v hv
  obtain ⟨z,_,rfl⟩:=List.mem_map.mp hv
  rfl
theorem zX3 {K:PySem.W.Frag} {Z:Addr→Prop} {m:Mu} {H:Hp}:∀ {zs:List Int} {vs:List V},RPs K Z m H (zs.map PyData.int) vs→vs=zs.map V.int
  | [],vs,h=>by simpa [RPs] using h
  | z :: zs,vs,h=>by
    simp only [List.map_cons,RPs] at h
    obtain ⟨v,r,rfl,h1,h2⟩:=h
    simp only [RP] at h1
    subst h1
    rw [zX3 h2]
    rfl
theorem zbh2:OpD X (compareOp .In) aIn:=by
  intro pins s σ H Z m x y dx dy v u R Q I ok rx ry r1 r2 h k
  unfold aIn at h
  split at h
  · obtain ⟨zs,rfl,q⟩:=h
    cases r1.str
    simp only [RD,RP] at r2
    obtain ⟨a,vs,rfl,_,h1,h2⟩:=r2
    cases zs1 h2
    refine zB4 pins s σ H _ _ v u Q I rx ry ⟨a,_,rfl,.inl h1,rfl,zan4 zs,?_⟩
    rw [if_neg Bool.false_ne_true,zaf7]
    exact k _ m _ H q Ext.refl ok .ofBl
  · obtain ⟨zs,rfl,q⟩:=h
    cases r1.str
    simp only [RD,RP] at r2
    obtain ⟨a,vs,rfl,h1,h2⟩:=r2
    cases zs1 h2
    refine zB4 pins s σ H _ _ v u Q I rx ry ⟨a,_,rfl,.inr h1,rfl,zan4 zs,?_⟩
    rw [if_neg Bool.false_ne_true,zaf7]
    exact k _ m _ H q Ext.refl ok .ofBl
  · obtain ⟨zs,rfl,q⟩:=h
    cases r1.bl
    simp only [RD,RP] at r2
    obtain ⟨a,vs,rfl,_,h1,h2⟩:=r2
    cases zR4 h2
    refine zB4 pins s σ H _ _ v u Q I rx ry ⟨a,_,rfl,.inl h1,rfl,zad0 zs,?_⟩
    rw [if_neg Bool.false_ne_true,zW4]
    exact k _ m _ H q Ext.refl ok .ofBl
  · obtain ⟨zs,rfl,q⟩:=h
    cases r1.bl
    simp only [RD,RP] at r2
    obtain ⟨a,vs,rfl,h1,h2⟩:=r2
    cases zR4 h2
    refine zB4 pins s σ H _ _ v u Q I rx ry ⟨a,_,rfl,.inr h1,rfl,zad0 zs,?_⟩
    rw [if_neg Bool.false_ne_true,zW4]
    exact k _ m _ H q Ext.refl ok .ofBl
  · obtain ⟨zs,rfl,q⟩:=h
    cases r1.int
    simp only [RD,RP] at r2
    obtain ⟨a,vs,rfl,_,h1,h2⟩:=r2
    cases zX3 h2
    refine zB4 pins s σ H _ _ v u Q I rx ry ⟨a,_,rfl,.inl h1,rfl,zan9 zs,?_⟩
    rw [if_neg Bool.false_ne_true,zaj2]
    exact k _ m _ H q Ext.refl ok .ofBl
  · obtain ⟨zs,rfl,q⟩:=h
    cases r1.int
    simp only [RD,RP] at r2
    obtain ⟨a,vs,rfl,h1,h2⟩:=r2
    cases zX3 h2
    refine zB4 pins s σ H _ _ v u Q I rx ry ⟨a,_,rfl,.inr h1,rfl,zan9 zs,?_⟩
    rw [if_neg Bool.false_ne_true,zaj2]
    exact k _ m _ H q Ext.refl ok .ofBl
  · exact h.elim
@[simp] def zp6:DC
  | [.dat (.tuple xs)],m,Q=>Q (.dat (.tuple xs)) m
  | [.dat (.list xs)],m,Q=>Q (.dat (.tuple xs)) m
  | [.cel c],m,Q=>∃ xs,m c=some (.l xs)∧Q (.dat (.tuple xs)) m
  | _,_,_=>False
theorem zj3:CallD X (.type "tuple") zp6:=by
  intro pins s σ H Z m xs ds us R Q I ok rv rd h k
  unfold zp6 at h
  split at h
  · obtain ⟨v,rfl,r1⟩:=rd.one
    have r0:=r1
    simp only [RD,RP] at r1
    obtain ⟨a,vs,rfl,h1,h2⟩:=r1
    exact zD9 pins s σ H _ us Q I rv ⟨a,vs,rfl,.inr ⟨h1,k _ m _ H h Ext.refl ok r0⟩⟩
  · obtain ⟨v,rfl,r1⟩:=rd.one
    simp only [RD,RP] at r1
    obtain ⟨a,vs,rfl,_,h1,h2⟩:=r1
    refine zD9 pins s σ H _ us Q I rv ⟨a,vs,rfl,.inl ⟨h1,fun l hl=>?_⟩⟩
    have sm:Same H (upd H l (.tup vs)):=zf9 hl
    refine k _ m _ _ h (ok.ext sm) (ok.grow sm) ?_
    simp only [RD,RP]
    exact ⟨l,vs,rfl,.inl (.inl zf4),RPs.ext (ok.ext sm) _ _ h2⟩
  · obtain ⟨v,rfl,r1⟩:=rd.one
    obtain ⟨rfl,_⟩:=r1
    obtain ⟨ys,hm,q⟩:=h
    obtain ⟨vs,h1,h2⟩:=ok.l hm
    refine zD9 pins s σ H _ us Q I rv ⟨_,vs,rfl,.inl ⟨.inl (.inl h1),fun l hl=>?_⟩⟩
    have sm:Same H (upd H l (.tup vs)):=zf9 hl
    refine k _ m _ _ q (ok.ext sm) (ok.grow sm) ?_
    simp only [RD,RP]
    exact ⟨l,vs,rfl,.inl (.inl zf4),RPs.ext (ok.ext sm) _ _ h2⟩
  · exact h.elim
end
end DL
set_option Elab.async false
set_option linter.all false
set_option maxRecDepth 100000
set_option maxHeartbeats 4000000
namespace DL
open PySem PySem.Spec PyProof.Rows L2
def chkB (scope:Scope) (env:Env):Bool:=scope.names.all fun y=>(decide (y.2≠.cell)) && (!decide (y.2=.local) || decide (scope.names.lookup y.1=some .local)) && (!decide (y.2=.free) || decide (env.kindOf y.1=some .cell) || decide (env.kindOf y.1=some .free))
def chkS (N:List Str) (scope:Scope) (env:Env):List Str→List (Option Nat)→Bool
  | [],[]=>true
  | x :: xs,o :: os=>(match o with | none=>true | some j=>decide (N[j]?=some x) && decide ((x,NameKind.free)∈scope.names) && (decide ((relabel scope env).names.lookup x=some .cell) || decide ((relabel scope env).names.lookup x=some .free))) && chkS N scope env xs os
  | _,_=>false
theorem chkB.ok {scope:Scope} {env:Env} (h:chkB scope env=true):(∀ y∈scope.names,y.2≠.cell)∧(∀ y∈scope.names,y.2=.local→scope.names.lookup y.1=some .local)∧∀ x,(x,NameKind.free)∈scope.names→env.kindOf x=some .cell∨env.kindOf x=some .free:=by
  unfold chkB at h
  rw [List.all_eq_true] at h
  have q:∀ y∈scope.names,y.2≠.cell∧(y.2=.local→scope.names.lookup y.1=some .local)∧(y.2=.free→env.kindOf y.1=some .cell∨env.kindOf y.1=some .free):=fun y hy=>by
    have:=h y hy
    simp only [Bool.and_eq_true,Bool.or_eq_true,Bool.not_eq_true',decide_eq_true_eq,decide_eq_false_iff_not] at this
    obtain ⟨⟨a,b⟩,c⟩:=this
    refine ⟨a,fun e=>b.resolve_left (fun n=>n e),fun e=>?_⟩
    rcases c with (c | c) | c
    · exact absurd e c
    · exact .inl c
    · exact .inr c
  exact ⟨fun y hy=>(q y hy).1,fun y hy=>(q y hy).2.1,fun x hx=>(q _ hx).2.2 rfl⟩
theorem chkS.ok {X:Cx} {scope:Scope}:∀ {NC:List Str} {src:List (Option Nat)},chkS X.N scope X.env NC src=true→zae0 X scope NC src
  | [],[],_=>⟨rfl,fun i x j h=>by simp at h⟩
  | [],_ :: _,h=>by simp [chkS] at h
  | _ :: _,[],h=>by simp [chkS] at h
  | y :: ys,o :: os,h=>by
    simp only [chkS,Bool.and_eq_true] at h
    obtain ⟨h1,h2⟩:=h
    obtain ⟨q1,q2⟩:=chkS.ok h2
    refine ⟨by rw [List.length_cons,List.length_cons,q1],fun i x j e1 e2=>?_⟩
    cases i with
    | zero =>
      simp at e1 e2
      subst e1 e2
      simp only [Bool.and_eq_true,Bool.or_eq_true,decide_eq_true_eq] at h1
      exact ⟨h1.1.1,h1.1.2,h1.2⟩
    | succ i=>exact q2 i x j (by simpa using e1) (by simpa using e2)
section
variable {X:Cx} {tg iter elt:Expr} {ifs:List Expr} {scope:Scope} {fi:DI} {g:DG} {t:DT} {f:DE} {pos:Pos}
theorem zbd9 (NC:List Str) (src:List (Option Nat)) (hc:X.calm=true) (hi:PI X tg iter (LI X.K fi))
    (hg:∀ cl C s2 H2 pins fp,PG (cyOf X scope cl C NC s2 H2 pins fp) tg (LG X.K g)) (ht:∀ cl C s2 H2 pins fp,PF (cyOf X scope cl C NC s2 H2 pins fp) ifs (LT X.K t)) (he:∀ cl C s2 H2 pins fp,PE (cyOf X scope cl C NC s2 H2 pins fp) elt (LE X.K f))
    (hkind:scope.kind=.function:=by rfl) (hB:chkB scope X.env=true:=by rfl) (hS:chkS X.N scope X.env NC src=true:=by rfl)
    (hs:∀ x,foldedSetIterable iter X.env x=pure x:=by intro _; rfl):PE X (.ListComp elt [⟨tg,iter,ifs,0⟩] scope pos) (LE X.K (dLC src fi g t f)) :=
  zbl0 (NC:=NC) src hc hi hg ht he hkind (chkB.ok hB).1 (chkB.ok hB).2.1 (chkB.ok hB).2.2 (chkS.ok hS) hs
theorem zbg6 (i:Nat) {y:Str} {py spos:Pos} (NC:List Str) (src:List (Option Nat)) (hc:X.calm=true) (hN:X.N.Nodup) (hi:PI X tg iter (LI X.K fi))
    (hg:∀ cl C s2 H2 pins fp,PG (cyOf X scope cl C NC s2 H2 pins fp) tg (LG X.K g)) (ht:∀ cl C s2 H2 pins fp,PF (cyOf X scope cl C NC s2 H2 pins fp) ifs (LT X.K t)) (he:∀ cl C s2 H2 pins fp,PE (cyOf X scope cl C NC s2 H2 pins fp) elt (LE X.K f))
    (hkind:scope.kind=.function:=by rfl) (hB:chkB scope X.env=true:=by rfl) (hS:chkS X.N scope X.env NC src=true:=by rfl)
    (hi2:X.N[i]?=some y:=by rfl) (hx:Loc X.env.scope y:=by first | exact Or.inl rfl | exact Or.inr rfl) (hf:X.fn y=true∨X.env.scope.names.lookup y=some .local:=by first | exact .inl rfl | exact .inr rfl)
    (hsw:swapsWith (.ListComp elt [⟨tg,iter,ifs,0⟩] scope pos) (some (.Name y py)) spos.line X.env=pure true:=by rfl)
    (hs:∀ x,foldedSetIterable iter X.env x=pure x:=by intro _; rfl):PS X (.Assign [.Name y py] (.ListComp elt [⟨tg,iter,ifs,0⟩] scope pos) spos) (LS X.K (dSet i (dLC src fi g t f))) :=
  zbl2 (NC:=NC) i src hc hi hg ht he hkind (chkB.ok hB).1 (chkB.ok hB).2.1 (chkB.ok hB).2.2 (chkS.ok hS) hN hi2 hx hf hsw hs
end
end DL
set_option Elab.async false
set_option linter.all false
set_option maxRecDepth 100000
set_option maxHeartbeats 4000000
namespace DL
open PySem PySem.Spec PyProof.Rows L2
section
variable {prog:Program} {w:World} {A:Around} {R:Result→Shared→Prop} {s:Shared}
theorem zaf9 (elt tg iter tg2 iter2:Expr) (ifs ifs2:List Expr) (scope:Scope) (pos:Pos) (it acc:Value) (env:Env) :
    compTurn (.ListComp elt [⟨tg,iter,ifs,0⟩,⟨tg2,iter2,ifs2,0⟩] scope pos) 0 it acc env=(do
      standAt iter.pos
      match ← pyNext it with
      | none=>pure (.done .next)
      | some v =>
        letOwnedTupleGo tg it v
        assign tg env v
        let mut ok:=true
        for c in ifs do
          if ok then ok ← isTrue c env (eval c env)
        if ok then
          let x ← eval iter2 env
          standAt iter2.pos
          let x ← foldedSetIterable iter2 env x
          let _ ← runOwn (.compStart (.ListComp elt [⟨tg,iter,ifs,0⟩,⟨tg2,iter2,ifs2,0⟩] scope pos) 1 (← holding [x] (pyIter x)) acc env) env
        again (.compLoop (.ListComp elt [⟨tg,iter,ifs,0⟩,⟨tg2,iter2,ifs2,0⟩] scope pos) 0 it acc env)):=by rfl
theorem zah4 (elt tg iter tg2 iter2:Expr) (ifs ifs2:List Expr) (scope:Scope) (pos:Pos) (it acc:Value) (env:Env) :
    compTurn (.ListComp elt [⟨tg,iter,ifs,0⟩,⟨tg2,iter2,ifs2,0⟩] scope pos) 1 it acc env=(do
      standAt iter2.pos
      match ← pyNext it with
      | none=>pure (.done .next)
      | some v =>
        letOwnedTupleGo tg2 it v
        assign tg2 env v
        let mut ok:=true
        for c in ifs2 do
          if ok then ok ← isTrue c env (eval c env)
        if ok then
          (do let _ ← call (.builtin "list.append") [acc,← eval elt env])
        again (.compLoop (.ListComp elt [⟨tg,iter,ifs,0⟩,⟨tg2,iter2,ifs2,0⟩] scope pos) 1 it acc env)):=by rfl
theorem zaJ7 {elt tg iter tg2 iter2:Expr} {ifs ifs2:List Expr} {scope:Scope} {pos:Pos} {it acc:Value} {env:Env}
    (h0:codeAny (model prog w) A (.compLoop (.ListComp elt [⟨tg,iter,ifs,0⟩,⟨tg2,iter2,ifs2,0⟩] scope pos) 1 it acc env) R s)
    (h:wpAny (model prog w) A (pyIter it) (fun it' s'=>codeAny (model prog w) A (.compLoop (.ListComp elt [⟨tg,iter,ifs,0⟩,⟨tg2,iter2,ifs2,0⟩] scope pos) 1 it' acc env) R s')
      (notedBy (model prog w) A env fun x s'=>R (.error x) s') s) :
    codeAny (model prog w) A (.compStart (.ListComp elt [⟨tg,iter,ifs,0⟩,⟨tg2,iter2,ifs2,0⟩] scope pos) 1 it acc env) R s:=by
  refine codeAny_of_tree ?_
  show wpAny _ _ ((compStart (.ListComp elt [⟨tg,iter,ifs,0⟩,⟨tg2,iter2,ifs2,0⟩] scope pos) 1 it acc env).onRaise (fun x=>do noteFrame x env; standAt theWindowsPlace)) _ _ s
  refine wpAny_notedAt ?_
  unfold compStart
  show wpAny _ _ (ask>>=_) _ _ s
  refine wpAny_bind (wpAny_askSetting (wpAny_ite ?_))
  split
  · first
      | exact wpAny_bind (wpAny_pure (wpAny_pure (And.intro rfl h0)))
      | exact wpAny_pure (And.intro rfl h0)
  · first
      | exact wpAny_bind (wpAny_rule (wpAny_bind (wpAny_standAt (wpAny_bind (wpAny_mono h (fun it' s' h'=>wpAny_pure (And.intro rfl h')) fun _ _ x=>x)))))
      | (refine wpAny_bind (wpAny_rule ?_); show wpAny _ _ (standAt iter2.pos>>=_) _ _ s; exact wpAny_bind (wpAny_standAt (wpAny_bind (wpAny_mono h (fun it' s' h'=>wpAny_pure (And.intro rfl h')) fun _ _ x=>x))))
theorem zaE4 {elt tg iter tg2 iter2:Expr} {ifs ifs2:List Expr} {scope:Scope} {pos:Pos} {it acc:Value} {env:Env} (I:Nat→Shared→Prop) (hs:∀ x,foldedSetIterable iter2 env x=pure x)
    (turn:∀ n s,I n s→wpAny (model prog w) A (pyNext it) (fun r s₁=>match r with
      | none=>R (.ok .next) s₁
      | some v=>wpAny (model prog w) A (letOwnedTupleGo tg it v) (fun _ s₀=>wpAny (model prog w) A (assign tg env v) (fun _ s₂ =>
          wpAny (model prog w) A (forIn ifs true fun c r=>if r=true then do let ok ← isTrue c env (eval c env); pure (ForInStep.yield ok) else pure (ForInStep.yield r)) (fun ok s₃ =>
            if ok=true then wpAny (model prog w) A (eval iter2 env) (fun x s₄ =>
              wpAny (model prog w) A (pyIter x) (fun it2 s₅=>codeAny (model prog w) A (.compStart (.ListComp elt [⟨tg,iter,ifs,0⟩,⟨tg2,iter2,ifs2,0⟩] scope pos) 1 it2 acc env) (fun r s₆=>r=.ok .next∧∃ m,m < n∧I m s₆) s₅) (fun _ _=>False) s₄) (fun _ _=>False) s₃
            else ∃ m,m < n∧I m s₃) (fun _ _=>False) s₂) (fun _ _=>False) s₀) (fun _ _=>False) s₁) (fun _ _=>False) s)
    (n:Nat) (h:I n s) :
    codeAny (model prog w) A (.compLoop (.ListComp elt [⟨tg,iter,ifs,0⟩,⟨tg2,iter2,ifs2,0⟩] scope pos) 0 it acc env) R s:=by
  have ff:∀ {E:Value→Shared→Prop} (x:Value) (s:Shared),False→E x s:=fun _ _ z=>z.elim
  refine codeAny_loop rfl I (fun n s hI=>?_) n h
  show wpAny _ A ((compTurn (.ListComp elt [⟨tg,iter,ifs,0⟩,⟨tg2,iter2,ifs2,0⟩] scope pos) 0 it acc env).onRaise (fun x=>do noteFrame x env; theTreesLotGoes x)) _ _ s
  refine wpAny_noted ?_
  rw [zaf9]
  refine wpAny_bind (wpAny_standAt (wpAny_bind (wpAny_mono (turn n s hI) (fun r s₁ h₁=>?_) ff)))
  cases r with
  | none=>exact wpAny_pure h₁
  | some v =>
    refine wpAny_bind (wpAny_mono h₁ (fun _ s₀ h₀=>?_) ff)
    refine wpAny_bind (wpAny_mono h₀ (fun _ s₂ h₂=>wpAny_bind (wpAny_mono h₂ (fun ok s₃ h₃=>?_) ff)) ff)
    cases ok with
    | true =>
      simp only [if_true] at h₃ ⊢
      refine wpAny_bind (wpAny_mono h₃ (fun x s₄ h₄=>?_) ff)
      refine wpAny_bind (wpAny_standAt (wpAny_bind (wpAny_of_eq (hs x) ?_)))
      refine wpAny_bind (wpAny_holding (wpAny_mono h₄ (fun it2 s₅ h₅=>?_) ff))
      refine wpAny_bind (wpAny_runOwn (codeAny_mono h₅ fun r s₆ ⟨hr,h₆⟩=>?_))
      subst hr
      exact wpAny_pure ⟨rfl,h₆⟩
    | false =>
      simp only [Bool.false_eq_true,if_false] at h₃ ⊢
      exact wpAny_pure ⟨rfl,h₃⟩
theorem zaI6 {elt tg iter tg2 iter2:Expr} {ifs ifs2:List Expr} {scope:Scope} {pos:Pos} {it acc:Value} {env:Env} {E:Value→Shared→Prop} (hE:∀ x s,E x s→False) (I:Nat→Shared→Prop)
    (turn:∀ n s,I n s→wpAny (model prog w) A (pyNext it) (fun r s₁=>match r with
      | none=>R (.ok .next) s₁
      | some v=>wpAny (model prog w) A (letOwnedTupleGo tg2 it v) (fun _ s₀=>wpAny (model prog w) A (assign tg2 env v) (fun _ s₂ =>
          wpAny (model prog w) A (forIn ifs2 true fun c r=>if r=true then do let ok ← isTrue c env (eval c env); pure (ForInStep.yield ok) else pure (ForInStep.yield r)) (fun ok s₃ =>
            if ok=true then wpAny (model prog w) A (eval elt env) (fun x s₄ =>
              wpAny (model prog w) A (call (.builtin "list.append") [acc,x]) (fun _ s₅=>∃ m,m < n∧I m s₅) E s₄) E s₃
            else ∃ m,m < n∧I m s₃) E s₂) E s₀) E s₁) E s)
    (n:Nat) (h:I n s) :
    codeAny (model prog w) A (.compLoop (.ListComp elt [⟨tg,iter,ifs,0⟩,⟨tg2,iter2,ifs2,0⟩] scope pos) 1 it acc env) R s:=by
  have ff:∀ {E':Value→Shared→Prop} (x:Value) (s:Shared),E x s→E' x s:=fun x s z=>(hE x s z).elim
  refine codeAny_loop rfl I (fun n s hI=>?_) n h
  show wpAny _ A ((compTurn (.ListComp elt [⟨tg,iter,ifs,0⟩,⟨tg2,iter2,ifs2,0⟩] scope pos) 1 it acc env).onRaise (fun x=>do noteFrame x env; theTreesLotGoes x)) _ _ s
  refine wpAny_noted ?_
  rw [zah4]
  refine wpAny_bind (wpAny_standAt (wpAny_bind (wpAny_mono (turn n s hI) (fun r s₁ h₁=>?_) ff)))
  cases r with
  | none=>exact wpAny_pure h₁
  | some v =>
    refine wpAny_bind (wpAny_mono h₁ (fun _ s₀ h₀=>?_) ff)
    refine wpAny_bind (wpAny_mono h₀ (fun _ s₂ h₂=>wpAny_bind (wpAny_mono h₂ (fun ok s₃ h₃=>?_) ff)) ff)
    cases ok with
    | true =>
      simp only [if_true] at h₃ ⊢
      refine wpAny_bind (wpAny_bind (wpAny_mono h₃ (fun x s₄ h₄=>wpAny_bind (wpAny_mono h₄ (fun _ s₅ h₅=>wpAny_pure (wpAny_pure ⟨rfl,h₅⟩)) ff)) ff))
    | false =>
      simp only [Bool.false_eq_true,if_false] at h₃ ⊢
      exact wpAny_pure ⟨rfl,h₃⟩
end
abbrev zaO3:=D→List PyData→St2→Mu→(List PyData→St2→Mu→Prop)→Prop
def zj4 (st:zaO3):List D→List PyData→St2→Mu→(List PyData→St2→Mu→Prop)→Prop
  | [],acc,d,m,Q=>Q acc d m
  | x :: xs,acc,d,m,Q=>st x acc d m fun acc' d' m'=>zj4 st xs acc' d' m' Q
def stepI (g:DG) (t:DT) (f:DE):zaO3:=fun x acc d m Q=>g x d m fun d1 m1=>t d1 m1 fun b m2=>if b=true then f d1 m2 fun y m3=>∃ p,y=.dat p∧acc.length < sizeLine∧Q (acc++[p]) d1 m3 else Q acc d1 m2
def zG5 (g:DG) (t:DT) (fi2:DI) (st:zaO3):zaO3:=fun x acc d m Q=>g x d m fun d1 m1=>t d1 m1 fun b m2=>if b=true then fi2 d1 m2 fun ys m3=>zj4 st ys acc d1 m3 Q else Q acc d1 m2
@[simp] def dLC2 (src:List (Option Nat)) (fi:DI) (g:DG) (t:DT) (fi2:DI) (g2:DG) (t2:DT) (f:DE):DE:=fun d m Q=>fi d m fun xs m1=>zj4 (zG5 g t fi2 (stepI g2 t2 f)) xs [] (zg4 src d) m1 fun ps _ m2=>Q (.dat (.list ps)) m2
structure ExtW (K:PySem.W.Frag) (Z:Addr→Prop) (D:Addr) (m:Mu) (H:Hp) (m':Mu) (H':Hp):Prop where
  t:∀ a vs,SqT K H a vs→SqT K H' a vs
  l:∀ a vs,(m a=none∧¬ rsv Z D a)→SqL K H a vs→m' a=none∧SqL K H' a vs
  z:∀ a,Z a→H' a=H a
  c:∀ a,(m a).isSome=true→(m' a).isSome=true
section
variable {K:PySem.W.Frag} {Z:Addr→Prop} {m m1 m' m2:Mu} {H H1 H' H2:Hp} {D:Addr} {ys zs:List V}
theorem ExtW.refl:ExtW K Z D m H m H:=⟨fun _ _ h=>h,fun _ _ h1 h2=>⟨h1.1,h2⟩,fun _ _=>rfl,fun _ h=>h⟩
theorem ExtW.y (e:ExtW K Z D m H m' H'):ExtY K (rsv Z D) m H m' H':=⟨e.t,e.l⟩
theorem ExtW.trans (a:ExtW K Z D m H m' H') (b:ExtW K Z D m' H' m2 H2):ExtW K Z D m H m2 H2 :=
  ⟨fun x vs h=>b.t x vs (a.t x vs h),fun x vs h1 h2=>let ⟨q1,q2⟩:=a.l x vs h1 h2; b.l x vs ⟨q1,h1.2⟩ q2,fun x h=>(b.z x h).trans (a.z x h),fun x h=>b.c x (a.c x h)⟩
theorem Ext.w (e:Ext K (rsv Z D) m H m' H'):ExtW K Z D m H m' H':=⟨e.t,e.l,fun a h=>e.z a (.inl h),e.c⟩
theorem ExtW.put (hz:¬ Z D) (hD:H D=some (.lst ys)):ExtW K Z D m H m (upd H D (.lst zs)) :=
  ⟨zI7 hD,fun a vs h1 h2=>⟨h1.1,zaq6 (fun e=>h1.2 (.inr e)) h2⟩,fun a h=>by
    have ne:a≠D:=by rintro rfl; exact hz h
    rw [zd6 ne],fun _ h=>h⟩
theorem ExtW.rd {x:DL.D} {v:V} (e:ExtW K Z D m H m' H') (h:RD K (rsv Z D) m H x v):RD K (rsv Z D) m' H' x v:=by
  cases x with
  | dat p=>exact RP.tr e.t (fun a vs h1 h2=>let ⟨q1,q2⟩:=e.l a vs h1 h2; ⟨⟨q1,h1.2⟩,q2⟩) p v h
  | cel a=>exact ⟨h.1,e.c a h.2⟩
theorem zaA1 (e:Ext K Z m1 H1 m H) (hD:H1 D=none) (hk:K.lookup D=none) (e2:ExtW K Z D m H m' H'):Ext K Z m1 H1 m' H' :=
  ⟨fun a vs h=>e2.t a vs (e.t a vs h),fun a vs h1 h2=>let ⟨q1,q2⟩:=e.l a vs h1 h2; e2.l a vs ⟨q1,fun z=>z.elim h1.2 (SqL.ne hD hk h2)⟩ q2,fun a h=>(e2.z a h).trans (e.z a h),fun a h=>e2.c a (e.c a h)⟩
end
section
variable {Y:Cx} {tg iter tg2 iter2 elt:Expr} {ifs ifs2:List Expr} {scope:Scope} {fi2:DI} {g2:DG} {t2:DT} {f:DE} {pos:Pos}
theorem zay7 (hc:Y.calm=true) (hx:∀ x s,Y.xe x s→False) (hi:PI Y tg2 iter2 (LI Y.K fi2)) (hg:PG Y tg2 (LG Y.K g2)) (ht:PF Y ifs2 (LT Y.K t2)) (he:PE Y elt (LE Y.K f))
    {pins:List (Addr×Obj)} {s:Shared} {σ:L2.St} {H:Hp} {Z:Addr→Prop} {D:Addr} {acc:List PyData} {ys:List V} {d:St2} {m:Mu} {Q:List PyData→St2→Mu→Prop}
    (I:Inv Y pins σ H s) (hz:¬ Z D) (hD:H D=some (.lst ys)) (racc:RPs Y.K (rsv Z D) m H acc ys) (ok:Ok Y.K (rsv Z D) m H) (rs:RS Y.K (rsv Z D) m H d σ) (h:fi2 d m fun xs m1=>zj4 (stepI g2 t2 f) xs acc d m1 Q) :
    wpAny (model Y.prog Y.w) Y.A (eval iter2 Y.env) (fun x s4=>wpAny (model Y.prog Y.w) Y.A (pyIter x) (fun it2 s5=>codeAny (model Y.prog Y.w) Y.A (.compStart (.ListComp elt [⟨tg,iter,ifs,0⟩,⟨tg2,iter2,ifs2,0⟩] scope pos) 1 it2 (.ref D) Y.env)
      (fun r s6=>r=.ok .next∧∃ σ' H' ys' acc' d' m',Inv Y pins σ' H' s6∧H' D=some (.lst ys')∧RPs Y.K (rsv Z D) m' H' acc' ys'∧ExtW Y.K Z D m H m' H'∧Ok Y.K (rsv Z D) m' H'∧RS Y.K (rsv Z D) m' H' d' σ'∧Q acc' d' m') s5) Y.xe s4) Y.xe s:=by
  refine thn (hi pins s σ H (fun J H1=>∃ xs m1,Ext Y.K (rsv Z D) m H m1 H1∧Ok Y.K (rsv Z D) m1 H1∧zad8 Y.K (rsv Z D) m1 H1 xs J∧zj4 (stepI g2 t2 f) xs acc d m1 Q) I
    ⟨rsv Z D,d,m,_,ok,rs,h,fun xs m1 H1 J q e1 ok1 y1=>⟨xs,m1,e1,ok1,y1,q⟩⟩) fun xv s₁ h₁=>thn h₁ fun itv s₂ h₂=>?_
  obtain ⟨it,fp,tn,J,H2,eit,I2,T,st2,f2,xs,m1,e1,ok1,yl,lp⟩:=h₂
  subst eit
  have hD2:H2 D=some (.lst ys):=(e1.z _ (.inr rfl)).trans hD
  have stat:∀ {H':Hp},(∀ b∈fp,H' b=none)→∀ b∈fp,FpOk Y pins H' b:=fun hn b hb=>⟨hn b hb,(f2 b hb).2⟩
  have loop:codeAny (model Y.prog Y.w) Y.A (.compLoop (.ListComp elt [⟨tg,iter,ifs,0⟩,⟨tg2,iter2,ifs2,0⟩] scope pos) 1 (.ref it) (.ref D) Y.env)
      (fun r s6=>r=.ok .next∧∃ σ' H' ys' acc' d' m',Inv Y pins σ' H' s6∧H' D=some (.lst ys')∧RPs Y.K (rsv Z D) m' H' acc' ys'∧ExtW Y.K Z D m H m' H'∧Ok Y.K (rsv Z D) m' H'∧RS Y.K (rsv Z D) m' H' d' σ'∧Q acc' d' m') s₂:=by
    refine zaI6 hx (fun n s'=>∃ (i:Nat) (ys:List V) (acc:List PyData) (d':St2) (m':Mu) (σ':L2.St) (H':Hp),n=xs.length - i∧i≤xs.length∧Inv Y pins σ' H' s'∧tn i s'.heap∧(∀ b∈fp,H' b=none) ∧
      H' D=some (.lst ys)∧RPs Y.K (rsv Z D) m' H' acc ys∧ExtW Y.K Z D m1 H2 m' H'∧Ok Y.K (rsv Z D) m' H'∧RS Y.K (rsv Z D) m' H' d' σ' ∧
      zj4 (stepI g2 t2 f) (xs.drop i) acc d' m' Q) ?_ xs.length ⟨0,ys,acc,d,m1,σ,H2,by simp,Nat.zero_le _,I2,st2,fun b hb=>(f2 b hb).1,hD2,RPs.ext e1 _ _ racc,ExtW.refl,ok1,rs.ext e1,by simpa using lp⟩
    rintro n s4 ⟨i,ys,acc,d',m',σ',H',rfl,hi',I5,st5,fr5,hDy,racc,eX,ok5,rs5,lp5⟩
    obtain ⟨y1,y2⟩:=yl m' H' eX.y
    by_cases hlt:i < xs.length
    · rw [List.drop_eq_getElem_cons hlt] at lp5
      obtain ⟨go,yd⟩:=y1 i xs[i] (List.getElem?_eq_getElem hlt)
      refine thn (T.item Y rfl rfl rfl hc i pins s4 σ' H' Y.xe I5 (stat fr5) st5 go) fun r s5 hq0=>?_
      obtain ⟨u,hr,h5⟩:=hq0
      subst hr
      refine thn h5 fun _ s6 hq0=>?_
      obtain ⟨x,H6,I6,r6,yy,st6,fr6⟩:=hq0
      have yy':=yd x H6 yy
      have e56:Ext Y.K (rsv Z D) m' H' m' H6:=ok5.ext yy'.same
      have rv:=yy'.rd (fun d v h=>eX.rd h) ok5
      have hDy:=yy'.same _ _ hDy
      have racc:=RPs.ext e56 _ _ racc
      have eX:=eX.trans e56.w
      have rs5:=rs5.ext e56
      have ok5:=ok5.grow yy'.same
      have I6':=I6.pinned (stat fr6) (T.obj _ _ st6)
      have over:∀ {s7:Shared} {σ7:L2.St} {H7:Hp} {ys7:List V} {acc7:List PyData} {d7:St2} {m7:Mu},Inv Y (pins++zaa1 fp s6.heap) σ7 H7 s7→H7 D=some (.lst ys7)→RPs Y.K (rsv Z D) m7 H7 acc7 ys7 →
          ExtW Y.K Z D m1 H2 m7 H7→Ok Y.K (rsv Z D) m7 H7→RS Y.K (rsv Z D) m7 H7 d7 σ7→(zj4 (stepI g2 t2 f) (xs.drop (i + 1)) acc7 d7 m7 Q) →
          ∃ n,n < xs.length - i∧∃ (i:Nat) (ys:List V) (acc:List PyData) (d':St2) (m':Mu) (σ':L2.St) (H':Hp),n=xs.length - i∧i≤xs.length∧Inv Y pins σ' H' s7∧tn i s7.heap∧(∀ b∈fp,H' b=none) ∧
            H' D=some (.lst ys)∧RPs Y.K (rsv Z D) m' H' acc ys∧ExtW Y.K Z D m1 H2 m' H'∧Ok Y.K (rsv Z D) m' H'∧RS Y.K (rsv Z D) m' H' d' σ' ∧
            zj4 (stepI g2 t2 f) (xs.drop i) acc d' m' Q:=by
        intro s7 σ7 H7 ys7 acc7 d7 m7 I7 a1 a2 a3 a4 a5 a6
        refine ⟨xs.length - (i + 1),by omega,i + 1,ys7,acc7,d7,m7,σ7,H7,rfl,hlt,I7.unpinned,T.keep _ _ _ st6 fun b hb o e=>(I7.pin (b,o) (List.mem_append_right _ (List.mem_append_right _ (zo1 hb e)))).1,fun b hb=>?_,a1,a2,a3,a4,a5,a6⟩
        obtain ⟨o,e,dd⟩:=T.obj _ _ st6 b hb
        exact (I7.pin (b,o) (List.mem_append_right _ (List.mem_append_right _ (zo1 hb e)))).2.1
      refine thn (hg _ s6 σ' _ x u (fun σ7 H7=>∃ d7 m7,Ext Y.K (rsv Z D) m' H6 m7 H7∧Ok Y.K (rsv Z D) m7 H7∧RS Y.K (rsv Z D) m7 H7 d7 σ7 ∧
        t2 d7 m7 fun b m2=>if b=true then f d7 m2 fun y m3=>∃ p,y=.dat p∧acc.length < sizeLine∧zj4 (stepI g2 t2 f) (xs.drop (i + 1)) (acc++[p]) d7 m3 Q else zj4 (stepI g2 t2 f) (xs.drop (i + 1)) acc d7 m2 Q) I6' r6
        ⟨_,xs[i],d',m',_,ok5,rs5,rv,lp5,fun d7 m7 σ7 H7 q7 e7 ok7 rs7=>⟨d7,m7,e7,ok7,rs7,q7⟩⟩) fun _ s7 hq0=>?_
      obtain ⟨σ7,H7,I7,d7,m7,e7,ok7,rs7,q7⟩:=hq0
      refine thn (ht _ s7 σ7 H7 (fun b H8=>∃ m8,Ext Y.K (rsv Z D) m7 H7 m8 H8∧Ok Y.K (rsv Z D) m8 H8 ∧
        if b=true then f d7 m8 fun y m3=>∃ p,y=.dat p∧acc.length < sizeLine∧zj4 (stepI g2 t2 f) (xs.drop (i + 1)) (acc++[p]) d7 m3 Q else zj4 (stepI g2 t2 f) (xs.drop (i + 1)) acc d7 m8 Q) I7
        ⟨_,d7,m7,_,ok7,rs7,q7,fun b m8 H8 q8 e8 ok8=>⟨m8,e8,ok8,q8⟩⟩) fun b s8 hq0=>?_
      obtain ⟨H8,I8,m8,e8,ok8,q8⟩:=hq0
      have e68:=e7.trans e8
      have hD8:H8 D=some (.lst ys):=(e68.z _ (.inr rfl)).trans hDy
      cases b with
      | false =>
        rw [if_neg Bool.false_ne_true] at q8
        exact over I8 hD8 (RPs.ext e68 _ _ racc) (eX.trans e68.w) ok8 (rs7.ext e8) q8
      | true =>
        rw [if_pos rfl] at q8
        refine thn (he _ s8 σ7 H8 (fun v H9=>∃ p m9,RP Y.K (rsv Z D) m9 H9 p v∧Ext Y.K (rsv Z D) m8 H8 m9 H9∧Ok Y.K (rsv Z D) m9 H9∧acc.length < sizeLine∧zj4 (stepI g2 t2 f) (xs.drop (i + 1)) (acc++[p]) d7 m9 Q) I8
          ⟨_,d7,m8,_,ok8,rs7.ext e8,q8,fun y m9 v H9 hq1 e9 ok9 r9=>by
            obtain ⟨p,ey,hz,q9⟩:=hq1
            subst ey
            exact ⟨p,m9,r9,e9,ok9,hz,q9⟩⟩) fun yv s9 hq0=>?_
        obtain ⟨y,H9,I9,ry,p,m9,rp9,e9,ok9,hz9,q9⟩:=hq0
        have e69:=e68.trans e9
        have hD9:H9 D=some (.lst ys):=(e69.z _ (.inr rfl)).trans hDy
        have racc9:=RPs.ext e69 _ _ racc
        have rs9:=(rs7.ext e8).ext e9
        refine thn (zY4 _ s9 σ7 H9 (.ref D) [y] (.ref D) [yv] (fun v H10=>H10=upd H9 D (.lst (ys++[y]))) I9 rfl (.cons ry .nil) ⟨_,ys,y,rfl,rfl,hD9,by rw [racc9.length]; exact hz9,rfl⟩) fun rv s10 hq0=>?_
        obtain ⟨v10,H10,I10,_,e10⟩:=hq0
        subst e10
        refine over I10 zf4 ?_ ((eX.trans e69.w).trans (ExtW.put hz hD9)) (zaA4 ok9 hD9) ⟨rs9.1,fun j z hj=>?_⟩ q9
        · exact RPs.tr (zI7 hD9) zV2 _ _ (racc9.append (by simp only [RPs]; exact ⟨y,[],rfl,rp9,rfl⟩))
        · obtain ⟨v,a1,a2⟩:=rs9.2 j z hj
          exact ⟨v,a1,zaQ3 hD9 a2⟩
    · have e:i=xs.length:=by omega
      subst e
      rw [List.drop_length] at lp5
      refine thn (T.done Y rfl rfl rfl hc _ pins s4 σ' H' Y.xe I5 (stat fr5) st5 y2) fun r s5 hq0=>?_
      obtain ⟨hr,I6⟩:=hq0
      subst hr
      exact ⟨rfl,σ',H',ys,acc,d',m',I6,hDy,racc,(e1.w).trans eX,ok5,rs5,lp5⟩
  exact zaJ7 loop (T.self _ 0 _ _ _ st2 loop)
end
end DL
set_option Elab.async false
set_option linter.all false
set_option maxRecDepth 100000
set_option maxHeartbeats 4000000
namespace DL
open PySem PySem.Spec PyProof.Rows L2
section
variable {X:Cx} {tg iter tg2 iter2 elt:Expr} {ifs ifs2:List Expr} {scope:Scope} {NC:List Str} {fi fi2:DI} {g g2:DG} {t t2:DT} {f:DE} {pos:Pos}
theorem zaP4 (src:List (Option Nat)) (hc:X.calm=true) (hi:PI X tg iter (LI X.K fi))
    (hg:∀ cl C s2 H2 pins fp,PG (cyOf X scope cl C NC s2 H2 pins fp) tg (LG X.K g)) (ht:∀ cl C s2 H2 pins fp,PF (cyOf X scope cl C NC s2 H2 pins fp) ifs (LT X.K t)) (hi2:∀ cl C s2 H2 pins fp,PI (cyOf X scope cl C NC s2 H2 pins fp) tg2 iter2 (LI X.K fi2)) (hg2:∀ cl C s2 H2 pins fp,PG (cyOf X scope cl C NC s2 H2 pins fp) tg2 (LG X.K g2)) (ht2:∀ cl C s2 H2 pins fp,PF (cyOf X scope cl C NC s2 H2 pins fp) ifs2 (LT X.K t2))
    (he:∀ cl C s2 H2 pins fp,PE (cyOf X scope cl C NC s2 H2 pins fp) elt (LE X.K f)) (hs2:∀ cl C x,foldedSetIterable iter2 (compEnvC scope cl C X.env) x=pure x)
    (hkind:scope.kind=.function) (hcell:∀ y∈scope.names,y.2≠.cell) (hnames:∀ y∈scope.names,y.2=.local→scope.names.lookup y.1=some .local)
    (hfree:∀ x,(x,NameKind.free)∈scope.names→X.env.kindOf x=some .cell∨X.env.kindOf x=some .free) (hsrc:zae0 X scope NC src)
    (hs:∀ x,foldedSetIterable iter X.env x=pure x) {use:Option (Value→Sem Unit)} {QQ:Value→Shared→Prop} {pos':Pos} {pins:List (Addr×Obj)} {s:Shared} {σ:L2.St} {H:Hp} {Z:Addr→Prop} {d:St2} {m:Mu} {RL:List PyData→Mu→Prop}
    (I:Inv X pins σ H s) (ok:Ok X.K Z m H) (rs:RS X.K Z m H d σ) (h:fi d m fun xs m1=>zj4 (zG5 g t fi2 (stepI g2 t2 f)) xs [] (zg4 src d) m1 (fun ps _ m2=>RL ps m2))
    (fin:∀ (s5:Shared) (C D:Addr) (H':Hp) (m':Mu) (ps:List PyData),RL ps m'→Ext X.K Z m H m' H'→Ok X.K Z m' H'→RD X.K Z m' H' (.dat (.list ps)) (.ref D)→(∃ mm,s5.heap.Ns C mm)→Inv X pins σ H' s5→Off X pins H' C →
      compPost (model X.prog X.w) X.A X.xe use QQ (.ref D) C (.ok .next) s5) :
    wpAny (model X.prog X.w) X.A (comprehension (.ListComp elt [⟨tg,iter,ifs,0⟩,⟨tg2,iter2,ifs2,0⟩] scope pos) scope X.env pos' (newList []) false (eval iter X.env) use) QQ X.xe s:=by
  obtain ⟨cl,hclos,hcl1,hcl2⟩:=zad6 (scope:=scope) (env:=X.env) fun x hx=>I.ok.has x (hfree x hx)
  refine wpAny_comprehension_free (use:=use) rfl hs hclos hkind hnames ?_
  refine thn (hi pins s σ H (fun J H1=>∃ xs m1,Ext X.K Z m H m1 H1∧Ok X.K Z m1 H1∧zad8 X.K Z m1 H1 xs J∧zj4 (zG5 g t fi2 (stepI g2 t2 f)) xs [] (zg4 src d) m1 (fun ps _ m2=>RL ps m2)) I
    ⟨Z,d,m,_,ok,rs,h,fun xs m1 H1 J q e1 ok1 y1=>⟨xs,m1,e1,ok1,y1,q⟩⟩) fun xv s₁ h₁=>thn h₁ fun itv s₂ h₂=>?_
  obtain ⟨it,fp,tn,J,H2,eit,I2,T,st2,f2,xs,m1,e1,ok1,yl,lp⟩:=h₂
  subst eit
  refine wpAny_newObj_type (wpAny_newFunctionEnv hcell (by intro y hy; simp at hy) (fun h₁ hns₁ hsb₁=>?_) hkind)
  dsimp only at hns₁ hsb₁ ⊢
  generalize hH2:s₂.heap.push { cls:=.type "list",dict:=none,data:=.seq ([]:List Value).toArray }=HP at hns₁ hsb₁ ⊢
  have hC:HP.objs.size=s₂.heap.objs.size + 1:=by rw [← hH2,Heap.size_push]
  have leC:s₂.heap.objs.size≤HP.objs.size:=by rw [hC]; exact Nat.le_succ _
  have old:∀ b o,s₂.heap.get? b=some o→h₁.get? b=some o:=fun b o e=>hsb₁.extBut b o (Nat.ne_of_lt (Nat.lt_of_lt_of_le (Heap.lt_size e) leC)) (Heap.get?_push_of_some _ (hH2 ▸ Heap.get?_push_of_some _ e))
  have hacc:h₁.get? s₂.heap.objs.size=some { cls:=.type "list",data:=.seq ([]:List Value).toArray }:=hsb₁.extBut _ _ (by rw [hC]; exact Nat.ne_of_lt (Nat.lt_succ_self _)) (Heap.get?_push_of_some _ (hH2 ▸ Heap.get?_push_size _ rfl))
  have hD:H2 s₂.heap.objs.size=none:=I2.hok.fresh (Nat.le_refl _)
  have hkD:X.K.lookup s₂.heap.objs.size=none:=by
    cases e:X.K.lookup s₂.heap.objs.size with
    | none=>rfl
    | some o=>exact absurd (Heap.lt_size (I2.kIn _ o e)) (Nat.lt_irrefl _)
  have obf:∀ b∈fp,∃ o,s₂.heap.get? b=some o∧∀ v,o.data≠.cell v:=T.obj 0 _ st2
  have hσ:∀ (i:Nat) (x:Str) (v:V),NC[i]?=some x→(zg4 src σ)[i]?=some (some v)→Vis (relabel scope X.env) x→((relabel scope X.env).names.lookup x=some .cell∨(relabel scope X.env).names.lookup x=some .free)∧(X.env.kindOf x=some .cell∨X.env.kindOf x=some .free)∧∃ j:Nat,X.N[j]?=some x∧σ[j]?=some (some v):=fun i x v h1 h2 _=>by
    obtain ⟨j,q1,q2⟩:=zal6 h2
    obtain ⟨a1,a2,a3⟩:=hsrc.2 i x j h1 q1
    exact ⟨a3,hfree x a2,j,a1,q2⟩
  have I4:=fun tk=>zat8 (cl:=cl) (NC:=NC) (σ':=zg4 src σ) (tk:=tk) I2 f2 obf hkind hcell hcl1 hcl2 (by unfold zg4; rw [List.length_map]; exact hsrc.1.symm) hσ hC hns₁ old hacc
  have st4:tn 0 h₁:=T.keep 0 _ _ st2 fun b _ o e=>old b o e
  -- the loop
  have loop:∀ s₃:Shared,s₃={ s₂ with heap:=h₁,toks:=s₂.toks + ([]:List (Str×Value)).length } →
      codeAny (model X.prog X.w) X.A (.compLoop (.ListComp elt [⟨tg,iter,ifs,0⟩,⟨tg2,iter2,ifs2,0⟩] scope pos) 0 (.ref it) (.ref s₂.heap.objs.size) (compEnvC scope cl HP.objs.size X.env))
        (compPost (model X.prog X.w) X.A X.xe use QQ (.ref s₂.heap.objs.size) HP.objs.size) s₃:=by
    rintro s₃ rfl
    refine zaE4 (hs:=fun x=>hs2 _ _ x) (fun n s'=>∃ (i:Nat) (ys:List V) (acc:List PyData) (d':St2) (m':Mu) (σ':L2.St) (H':Hp),n=xs.length - i∧i≤xs.length∧Inv (cyOf X scope cl HP.objs.size NC s₂ H2 pins fp) [] σ' H' s'∧tn i s'.heap∧(∀ b∈fp,H' b=none) ∧
      H' s₂.heap.objs.size=some (.lst ys)∧RPs X.K (rsv Z s₂.heap.objs.size) m' H' acc ys∧Ext X.K Z m1 H2 m' H'∧Ok X.K (rsv Z s₂.heap.objs.size) m' H'∧RS X.K (rsv Z s₂.heap.objs.size) m' H' d' σ' ∧
      zj4 (zG5 g t fi2 (stepI g2 t2 f)) (xs.drop i) acc d' m' (fun ps _ m2=>RL ps m2)) ?_ xs.length ?_
    rotate_left
    · have rs1:RS X.K Z m1 H2 (zg4 src d) (zg4 src σ):=zaR5 src (rs.ext e1)
      refine ⟨0,[],[],zg4 src d,m1,zg4 src σ,_,by simp,Nat.zero_le _,I4 _,st4,fun b hb=>?_,zf4,by simp [RPs],ok1.ext (zf9 hD),zaQ7 ok1 hD hkD,⟨rs1.1,fun i x hx=>?_⟩,by simpa using lp⟩
      · obtain ⟨o,ho,_⟩:=obf b hb
        rw [zd6 (Nat.ne_of_lt (Heap.lt_size ho))]
        exact (f2 b hb).1
      · obtain ⟨v,q1,q2⟩:=rs1.2 i x hx
        exact ⟨v,q1,zaS3 hD hkD q2⟩
    rintro n s4 ⟨i,ys,acc,d',m',σ',H',rfl,hi',I5,st5,fr5,hDy,racc,eX,ok5,rs5,lp5⟩
    have stat:∀ b∈fp,FpOk (cyOf X scope cl HP.objs.size NC s₂ H2 pins fp) [] H' b:=fun b hb=>by
      obtain ⟨g0,g1,g2,g3,g4,g5⟩:=f2 b hb
      obtain ⟨o,ho,_⟩:=obf b hb
      refine ⟨fr5 b hb,Nat.ne_of_lt (Nat.lt_of_lt_of_le (Heap.lt_size ho) leC),fun z=>?_,.inl hb,fun x c e=>g4 x c (hcl1 (x,c) (zs2 e)),fun p hp=>?_⟩
      · rcases List.mem_cons.mp (I2.stkSub b z) with q | q
        · exact g1 q
        · exact g2 q
      · rcases List.mem_append.mp hp with q | q
        · exact g5 p q
        · cases q
    obtain ⟨y1,y2⟩:=yl m' H' eX.y
    by_cases hlt:i < xs.length
    · rw [List.drop_eq_getElem_cons hlt] at lp5
      obtain ⟨go,yd⟩:=y1 i xs[i] (List.getElem?_eq_getElem hlt)
      refine thn (T.item (cyOf X scope cl HP.objs.size NC s₂ H2 pins fp) rfl rfl rfl hc i [] s4 σ' H' (fun _ _=>False) I5 stat st5 go) fun r s5 hq0=>?_
      obtain ⟨u,hr,h5⟩:=hq0
      subst hr
      refine thn h5 fun _ s6 hq0=>?_
      obtain ⟨x,H6,I6,r6,yy,st6,fr6⟩:=hq0
      have yy':=yd x H6 yy
      have e56:Ext X.K (rsv Z s₂.heap.objs.size) m' H' m' H6:=ok5.ext yy'.same
      have rv:=yy'.rd (fun d v h=>zaw0 hD hkD eX h) ok5
      have hDy:=yy'.same _ _ hDy
      have racc:=RPs.ext e56 _ _ racc
      have eX:=zC0 eX hD hkD e56
      have rs5:=rs5.ext e56
      have ok5:=ok5.grow yy'.same
      have stat:∀ b∈fp,FpOk (cyOf X scope cl HP.objs.size NC s₂ H2 pins fp) [] H6 b:=fun b hb=>⟨fr6 b hb,(stat b hb).2⟩
      have I6':=I6.pinned stat (T.obj _ _ st6)
      -- what stands when a turn is over
      have over:∀ {s7:Shared} {σ7:L2.St} {H7:Hp} {ys7:List V} {acc7:List PyData} {d7:St2} {m7:Mu},Inv (cyOf X scope cl HP.objs.size NC s₂ H2 pins fp) ([]++zaa1 fp s6.heap) σ7 H7 s7→H7 s₂.heap.objs.size=some (.lst ys7)→RPs X.K (rsv Z s₂.heap.objs.size) m7 H7 acc7 ys7 →
          Ext X.K Z m1 H2 m7 H7→Ok X.K (rsv Z s₂.heap.objs.size) m7 H7→RS X.K (rsv Z s₂.heap.objs.size) m7 H7 d7 σ7→(zj4 (zG5 g t fi2 (stepI g2 t2 f)) (xs.drop (i + 1)) acc7 d7 m7 (fun ps _ m2=>RL ps m2)) →
          ∃ n,n < xs.length - i∧∃ (i:Nat) (ys:List V) (acc:List PyData) (d':St2) (m':Mu) (σ':L2.St) (H':Hp),n=xs.length - i∧i≤xs.length∧Inv (cyOf X scope cl HP.objs.size NC s₂ H2 pins fp) [] σ' H' s7∧tn i s7.heap∧(∀ b∈fp,H' b=none) ∧
            H' s₂.heap.objs.size=some (.lst ys)∧RPs X.K (rsv Z s₂.heap.objs.size) m' H' acc ys∧Ext X.K Z m1 H2 m' H'∧Ok X.K (rsv Z s₂.heap.objs.size) m' H'∧RS X.K (rsv Z s₂.heap.objs.size) m' H' d' σ' ∧
            zj4 (zG5 g t fi2 (stepI g2 t2 f)) (xs.drop i) acc d' m' (fun ps _ m2=>RL ps m2):=by
        intro s7 σ7 H7 ys7 acc7 d7 m7 I7 a1 a2 a3 a4 a5 a6
        refine ⟨xs.length - (i + 1),by omega,i + 1,ys7,acc7,d7,m7,σ7,H7,rfl,hlt,I7.unpinned,T.keep _ _ _ st6 fun b hb o e=>(I7.pin (b,o) (List.mem_append_right _ (List.mem_append_right _ (zo1 hb e)))).1,fun b hb=>?_,a1,a2,a3,a4,a5,a6⟩
        obtain ⟨o,e,dd⟩:=T.obj _ _ st6 b hb
        exact (I7.pin (b,o) (List.mem_append_right _ (List.mem_append_right _ (zo1 hb e)))).2.1
      refine thn (hg cl _ s₂ H2 pins fp _ s6 σ' _ x u (fun σ7 H7=>∃ d7 m7,Ext X.K (rsv Z s₂.heap.objs.size) m' H6 m7 H7∧Ok X.K (rsv Z s₂.heap.objs.size) m7 H7∧RS X.K (rsv Z s₂.heap.objs.size) m7 H7 d7 σ7 ∧
        t d7 m7 fun b m2=>if b=true then fi2 d7 m2 fun zs m3=>zj4 (stepI g2 t2 f) zs acc d7 m3 (fun acc' d' m'=>zj4 (zG5 g t fi2 (stepI g2 t2 f)) (xs.drop (i + 1)) acc' d' m' (fun ps _ m2=>RL ps m2)) else zj4 (zG5 g t fi2 (stepI g2 t2 f)) (xs.drop (i + 1)) acc d7 m2 (fun ps _ m2=>RL ps m2)) I6' r6
        ⟨_,xs[i],d',m',_,ok5,rs5,rv,lp5,fun d7 m7 σ7 H7 q7 e7 ok7 rs7=>⟨d7,m7,e7,ok7,rs7,q7⟩⟩) fun _ s7 hq0=>?_
      obtain ⟨σ7,H7,I7,d7,m7,e7,ok7,rs7,q7⟩:=hq0
      refine thn (ht cl _ s₂ H2 pins fp _ s7 σ7 H7 (fun b H8=>∃ m8,Ext X.K (rsv Z s₂.heap.objs.size) m7 H7 m8 H8∧Ok X.K (rsv Z s₂.heap.objs.size) m8 H8 ∧
        if b=true then fi2 d7 m8 fun zs m3=>zj4 (stepI g2 t2 f) zs acc d7 m3 (fun acc' d' m'=>zj4 (zG5 g t fi2 (stepI g2 t2 f)) (xs.drop (i + 1)) acc' d' m' (fun ps _ m2=>RL ps m2)) else zj4 (zG5 g t fi2 (stepI g2 t2 f)) (xs.drop (i + 1)) acc d7 m8 (fun ps _ m2=>RL ps m2)) I7
        ⟨_,d7,m7,_,ok7,rs7,q7,fun b m8 H8 q8 e8 ok8=>⟨m8,e8,ok8,q8⟩⟩) fun b s8 hq0=>?_
      obtain ⟨H8,I8,m8,e8,ok8,q8⟩:=hq0
      have e68:=e7.trans e8
      have hD8:H8 s₂.heap.objs.size=some (.lst ys):=(e68.z _ (.inr rfl)).trans hDy
      cases b with
      | false =>
        rw [if_neg Bool.false_ne_true] at q8
        exact over I8 hD8 (RPs.ext e68 _ _ racc) (zC0 eX hD hkD e68) ok8 (rs7.ext e8) q8
      | true =>
        rw [if_pos rfl] at q8
        rw [if_pos rfl]
        have nz:¬ Z s₂.heap.objs.size:=fun z=>(ok1.z _ z).2 hD
        have ic:=zay7 (Y:=cyOf X scope cl HP.objs.size NC s₂ H2 pins fp) (tg:=tg) (iter:=iter) (ifs:=ifs) (scope:=scope) (pos:=pos) hc (fun _ _ z=>z) (hi2 cl _ s₂ H2 pins fp) (hg2 cl _ s₂ H2 pins fp) (ht2 cl _ s₂ H2 pins fp) (he cl _ s₂ H2 pins fp) I8 nz hD8 (RPs.ext e68 _ _ racc) ok8 (rs7.ext e8) q8
        refine thn ic fun xv9 s9 h9=>thn h9 fun it9 s10 h10=>codeAny_mono h10 ?_
        rintro r s11 ⟨hr,σ',H',ys',acc',d',m',I11,hD11,racc11,e11,ok11,rs11,q11⟩
        exact ⟨hr,over I11 hD11 racc11 (zaA1 (zC0 eX hD hkD e68) hD hkD e11) ok11 rs11 q11⟩
    · have e:i=xs.length:=by omega
      subst e
      rw [List.drop_length] at lp5
      refine thn (T.done (cyOf X scope cl HP.objs.size NC s₂ H2 pins fp) rfl rfl rfl hc _ [] s4 σ' H' (fun _ _=>False) I5 stat st5 y2) fun r s5 hq0=>?_
      obtain ⟨hr,I6⟩:=hq0
      subst hr
      have IX:=zaQ4 I2 f2 I6 leC (Heap.SameBut.refl _ _)
      have nz:¬ Z s₂.heap.objs.size:=fun z=>(ok1.z _ z).2 hD
      refine fin s5 HP.objs.size s₂.heap.objs.size H' m' acc lp5 (e1.trans eX) (zaR9 ok5) ?_ ⟨_,I6.loc.choose_spec.1⟩ IX ⟨I6.free,Nat.ne_of_gt (Nat.lt_of_lt_of_le I2.lt leC),Nat.le_trans I2.sz leC,fun x c e=>?_,fun p hp=>?_⟩
      · simp only [RD,RP]
        exact ⟨_,ys,rfl,⟨(ok5.z _ (.inr rfl)).1,nz⟩,.inl (.inl hDy),RPs.tr (fun _ _ q=>q) (fun a vs q1 q2=>⟨⟨q1.1,fun z=>q1.2 (.inl z)⟩,q2⟩) _ _ racc⟩
      · obtain ⟨v,q⟩:=I2.cell x c e
        exact Nat.ne_of_lt (Nat.lt_of_lt_of_le q.lt leC)
      · exact Nat.ne_of_lt (Nat.lt_of_lt_of_le (Heap.lt_size (I2.pin p hp).1) leC)
  exact codeAny_compStart_list (loop _ rfl) (T.self _ 0 _ _ _ st4 (loop _ rfl))
theorem zbd2 (src:List (Option Nat)) (hc:X.calm=true) (hi:PI X tg iter (LI X.K fi))
    (hg:∀ cl C s2 H2 pins fp,PG (cyOf X scope cl C NC s2 H2 pins fp) tg (LG X.K g)) (ht:∀ cl C s2 H2 pins fp,PF (cyOf X scope cl C NC s2 H2 pins fp) ifs (LT X.K t)) (hi2:∀ cl C s2 H2 pins fp,PI (cyOf X scope cl C NC s2 H2 pins fp) tg2 iter2 (LI X.K fi2)) (hg2:∀ cl C s2 H2 pins fp,PG (cyOf X scope cl C NC s2 H2 pins fp) tg2 (LG X.K g2)) (ht2:∀ cl C s2 H2 pins fp,PF (cyOf X scope cl C NC s2 H2 pins fp) ifs2 (LT X.K t2))
    (he:∀ cl C s2 H2 pins fp,PE (cyOf X scope cl C NC s2 H2 pins fp) elt (LE X.K f)) (hs2:∀ cl C x,foldedSetIterable iter2 (compEnvC scope cl C X.env) x=pure x)
    (hkind:scope.kind=.function) (hcell:∀ y∈scope.names,y.2≠.cell) (hnames:∀ y∈scope.names,y.2=.local→scope.names.lookup y.1=some .local)
    (hfree:∀ x,(x,NameKind.free)∈scope.names→X.env.kindOf x=some .cell∨X.env.kindOf x=some .free) (hsrc:zae0 X scope NC src)
    (hs:∀ x,foldedSetIterable iter X.env x=pure x:=by intro _; rfl) :
    PE X (.ListComp elt [⟨tg,iter,ifs,0⟩,⟨tg2,iter2,ifs2,0⟩] scope pos) (LE X.K (dLC2 src fi g t fi2 g2 t2 f)):=by
  intro pins s σ H Q I h
  obtain ⟨Z,d,m,R,ok,rs,h,k⟩:=h
  rw [eval_ListComp]
  refine zaP4 src hc hi hg ht hi2 hg2 ht2 he hs2 hkind hcell hnames hfree hsrc hs (use:=none) (QQ:=EP X pins σ Q) (RL:=fun ps m2=>R (.dat (.list ps)) m2) I ok rs h ?_
  intro s5 C D H' m' ps q e ok' rd ⟨mm,hns⟩ I5 off
  exact ⟨mm,hns,fun h' hs'=>⟨.ref D,H',off.inv I5 hs',rfl,k _ m' _ H' q e ok' rd⟩⟩
theorem zaU6 (NC:List Str) (src:List (Option Nat)) (hc:X.calm=true) (hi:PI X tg iter (LI X.K fi))
    (hg:∀ cl C s2 H2 pins fp,PG (cyOf X scope cl C NC s2 H2 pins fp) tg (LG X.K g)) (ht:∀ cl C s2 H2 pins fp,PF (cyOf X scope cl C NC s2 H2 pins fp) ifs (LT X.K t))
    (hi2:∀ cl C s2 H2 pins fp,PI (cyOf X scope cl C NC s2 H2 pins fp) tg2 iter2 (LI X.K fi2)) (hg2:∀ cl C s2 H2 pins fp,PG (cyOf X scope cl C NC s2 H2 pins fp) tg2 (LG X.K g2)) (ht2:∀ cl C s2 H2 pins fp,PF (cyOf X scope cl C NC s2 H2 pins fp) ifs2 (LT X.K t2))
    (he:∀ cl C s2 H2 pins fp,PE (cyOf X scope cl C NC s2 H2 pins fp) elt (LE X.K f))
    (hkind:scope.kind=.function:=by rfl) (hB:chkB scope X.env=true:=by rfl) (hS:chkS X.N scope X.env NC src=true:=by rfl)
    (hs2:∀ cl C x,foldedSetIterable iter2 (compEnvC scope cl C X.env) x=pure x:=by intro _ _ _; rfl)
    (hs:∀ x,foldedSetIterable iter X.env x=pure x:=by intro _; rfl):PE X (.ListComp elt [⟨tg,iter,ifs,0⟩,⟨tg2,iter2,ifs2,0⟩] scope pos) (LE X.K (dLC2 src fi g t fi2 g2 t2 f)) :=
  zbd2 (NC:=NC) src hc hi hg ht hi2 hg2 ht2 he hs2 hkind (chkB.ok hB).1 (chkB.ok hB).2.1 (chkB.ok hB).2.2 (chkS.ok hS) hs
end
end DL
set_option Elab.async false
set_option linter.all false
set_option maxRecDepth 100000
set_option maxHeartbeats 4000000
namespace DL
open PySem PySem.Spec PyProof.Rows L2
section
variable {prog:Program} {w:World} {A:Around} {E:Value→Shared→Prop} {s:Shared}
theorem zai0 {it tq:Addr} {i:Nat} {its:Array Value} {x:Value} {Q:Value→Shared→Prop} (hit:s.heap.IsTupleIter it tq i) (ht:s.heap.IsTuple tq its) (hx:its[i]?=some x)
    (hQ:∀ h',h'.IsTupleIter it tq (i + 1)→Heap.SameBut it s.heap h'→Q x { s with heap:=h' }):wpAny (model prog w) A (Builtin.SmallTypes.nextOf (.ref it)) Q E s:=by
  obtain ⟨o,ho,hc,hd⟩:=id hit; obtain ⟨ol,hol,_,nl,hdl⟩:=ht
  unfold Builtin.SmallTypes.nextOf
  refine wpAny_bind (wpAny_callSpecial?_slot (name:=Str.ofString "__next__") hit.typeIs F.slot_tuple_iterator_next (wpAny_call_entry F.slot_tuple_iterator_next hit.typeIs F.entry_tuple_iterator_next ?_ (F.args_tuple_iterator_next_1 _)))
  show wpAny _ _ (field (.ref it) 0>>=_) _ _ _; refine wpAny_bind (wpAny_field ho hd (x:=.ref tq) rfl ?_)
  show wpAny _ _ (if (Value.ref tq == Value.none)=true then _ else _) _ _ s
  rw [if_neg (show ¬ ((Value.ref tq == Value.none)=true) from Bool.false_ne_true)]
  show wpAny _ _ (field (.ref it) 1>>=_) _ _ _; refine wpAny_bind (wpAny_field ho hd (x:=.int i 0) rfl ?_)
  show wpAny _ _ (seqItems? (.ref tq)>>=_) _ _ s
  refine wpAny_bind (wpAny_seqItems hol hdl ?_); simp only [Int.toNat_natCast,hx]
  refine wpAny_bind (wpAny_setField ho hd (by simp) (wpAny_pure ⟨_,rfl,wpAny_pure (hQ _ ?_ (Heap.SameBut.update ..))⟩))
  refine ⟨_,Heap.get?_update_self _ ho (Obj.isFreed_of_fields (Obj.data_mapFields hd _)),(Obj.cls_mapFields ..).trans hc,?_⟩
  rw [Obj.data_mapFields hd] <;> simp [rawInt]
theorem zaK1 {it tq:Addr} {i:Nat} {its:Array Value} {Q:Value→Shared→Prop} (hh:A.handled=none) (hit:s.heap.IsTupleIter it tq i) (ht:s.heap.IsTuple tq its) (hx:its[i]?=none)
    (hE:∀ h' e,Heap.ExtBut it s.heap h'→(∃ o,h'.get? e=some o∧o.cls=.type "StopIteration")→E (.ref e) { s with heap:=h' }):wpAny (model prog w) A (Builtin.SmallTypes.nextOf (.ref it)) Q E s:=by
  obtain ⟨o,ho,hc,hd⟩:=id hit; obtain ⟨ol,hol,_,nl,hdl⟩:=ht
  unfold Builtin.SmallTypes.nextOf
  refine wpAny_bind (wpAny_callSpecial?_slot (name:=Str.ofString "__next__") hit.typeIs F.slot_tuple_iterator_next (wpAny_call_entry F.slot_tuple_iterator_next hit.typeIs F.entry_tuple_iterator_next ?_ (F.args_tuple_iterator_next_1 _)))
  show wpAny _ _ (field (.ref it) 0>>=_) _ _ _; refine wpAny_bind (wpAny_field ho hd (x:=.ref tq) rfl ?_)
  show wpAny _ _ (if (Value.ref tq == Value.none)=true then _ else _) _ _ s
  rw [if_neg (show ¬ ((Value.ref tq == Value.none)=true) from Bool.false_ne_true)]
  show wpAny _ _ (field (.ref it) 1>>=_) _ _ _; refine wpAny_bind (wpAny_field ho hd (x:=.int i 0) rfl ?_)
  show wpAny _ _ (seqItems? (.ref tq)>>=_) _ _ s
  refine wpAny_bind (wpAny_seqItems hol hdl ?_); simp only [Int.toNat_natCast,hx]
  refine wpAny_bind (wpAny_rule (wpAny_bind (wpAny_setField ho hd (by simp) ?_))); show wpAny _ _ (newExc (.type "StopIteration") []>>=_) _ _ _
  refine wpAny_bind ?_; simp only [newExc,newTuple]; refine wpAny_bind (wpAny_newObj_type ?_ (by size_fits))
  refine wpAny_bind (m:=firstArgMember _ _) (wpAny_of_eq (a:=Value.none) (by first | rfl | (simp only [firstArgMember]; rfl)) ?_); refine wpAny_newObj_type ?_ (by size_fits)
  simp only [raiseNew]; refine wpAny_bind (wpAny_handled ?_)
  (first | rw [show A.in1.handled=none from hh] | rw [hh]); refine wpAny_bind (wpAny_pure (wpAny_throw ?_))
  exact hE _ _ (((Heap.SameBut.update ..).extBut.push _).push _) ⟨_,Heap.get?_push_size _ rfl,rfl⟩
structure Zst (h:Heap) (z TI TO i1 i2 t1 t2:Addr) (f0:Value) (k:Nat):Prop where
  z:IsZip h z TI TO f0
  ti:IsPair h TI (.ref i1) (.ref i2)
  to:∃ a b,IsPair h TO a b
  a:h.IsTupleIter i1 t1 k
  b:h.IsTupleIter i2 t2 k
theorem zaV8 {z TI TO i1 i2 t1 t2:Addr} {k:Nat} {xs ys:Array Value} {x y:Value} {Q:Value→Shared→Prop} (D:ZipApart z TI TO i1 i2 t1 t2) (S:Zst s.heap z TI TO i1 i2 t1 t2 .none k)
    (g1:s.heap.IsTuple t1 xs) (g2:s.heap.IsTuple t2 ys) (hx:xs[k]?=some x) (hy:ys[k]?=some y)
    (hQ:∀ h',Zst h' z TI TO i1 i2 t1 t2 (rawInt s.heap.objs.size) (k + 1)→IsPair h' s.heap.objs.size x y →
      (∀ c o,c≠z→c≠TO→c≠i1→c≠i2→s.heap.get? c=some o→h'.get? c=some o)→Q (.ref s.heap.objs.size) { s with heap:=h' }) :
    wpAny (model prog w) A (Builtin.«zip.__next__» ⟨[.ref z],[]⟩) (fun fin s'=>∃ v,fin=.done (.ret v)∧Q v s') E s:=by
  obtain ⟨hz,hTI,⟨a,b,hTO⟩,h1,h2⟩:=S
  show wpAny _ _ (field (.ref z) 2>>=_) _ _ _; refine wpAny_bind (wpAny_field hz rfl (x:=.bool false) rfl ?_)
  show wpAny _ _ (field (.ref z) 3>>=_) _ _ _; refine wpAny_bind (wpAny_field hz rfl (x:=.ref TI) rfl (wpAny_bind (wpAny_seqItems hTI rfl ?_)))
  show wpAny _ _ (Builtin.SmallTypes.ownedTupleIsFree (.ref z)>>=_) _ _ _; refine wpAny_bind ?_
  unfold Builtin.SmallTypes.ownedTupleIsFree; refine wpAny_bind (wpAny_field hz rfl (x:=.none) rfl (wpAny_pure ?_))
  simp only [if_true]; refine wpAny_bind (wpAny_rule (wpAny_bind (wpAny_field hz rfl (x:=.ref TO) rfl ?_)))
  refine wpAny_bind (wpAny_setField_rec hz (by simp) fun n1 z1 c1=>?_); replace z1:IsZip n1 z TI TO .ellipsis:=z1
  refine wpAny_bind ?_; simp only [List.zipIdx_cons,List.zipIdx_nil,List.forIn_cons,List.forIn_nil]
  refine wpAny_bind (wpAny_bind (wpAny_onRaise ?_)); show wpAny _ _ (Builtin.SmallTypes.nextOf (.ref i1)>>=_) _ _ _
  refine wpAny_bind (zai0 (h1.at fun o e=>c1.extBut _ o D.i1z e) (g1.extBut c1.extBut D.l1z) hx fun n2 b2 c2=>wpAny_pure ?_)
  have p2:IsPair n2 TO a b:=c2.extBut _ _ D.TOi1 (c1.extBut _ _ D.TOz hTO)
  refine wpAny_bind (wpAny_seqItems p2 rfl (wpAny_bind (wpAny_updateSeq_pair p2 fun n3 p3 c3=>?_))); replace p3:IsPair n3 TO x b:=p3
  refine wpAny_bind (wpAny_letGo (wpAny_pure (wpAny_bind (wpAny_bind (wpAny_onRaise ?_))))); show wpAny _ _ (Builtin.SmallTypes.nextOf (.ref i2)>>=_) _ _ _
  have up3:∀ c o,c≠z→c≠TO→c≠i1→s.heap.get? c=some o→n3.get? c=some o:=fun c o q1 q2 q3 e=>c3.extBut _ _ q2 (c2.extBut _ _ q3 (c1.extBut _ _ q1 e))
  have g23:n3.IsTuple t2 ys:=by
    obtain ⟨o,ho,r⟩:=g2
    exact ⟨o,up3 _ _ D.l2z D.l2TO D.l2i1 ho,r⟩
  refine wpAny_bind (zai0 (h2.at fun o e=>up3 _ o D.i2z D.TOi2.symm D.i12.symm e) g23 hy fun n4 b4 c4=>wpAny_pure ?_)
  have p4:IsPair n4 TO x b:=c4.extBut _ _ D.TOi2 p3
  refine wpAny_bind (wpAny_seqItems p4 rfl (wpAny_bind (wpAny_updateSeq_pair p4 fun n5 p5 c5=>?_))); replace p5:IsPair n5 TO x y:=p5
  refine wpAny_bind (wpAny_letGo (wpAny_pure (wpAny_pure (wpAny_bind (wpAny_seqItems p5 rfl (wpAny_bind (wpAny_newTuple ?_)))))))
  have size5:n5.objs.size=s.heap.objs.size:=by rw [c5.1,c4.1,c3.1,c2.1,c1.1]
  have z5:IsZip n5 z TI TO .ellipsis:=c5.extBut _ _ D.TOz.symm (c4.extBut _ _ D.i2z.symm (c3.extBut _ _ D.TOz.symm (c2.extBut _ _ D.i1z.symm z1)))
  have up5:∀ c o,c≠z→c≠TO→c≠i1→c≠i2→s.heap.get? c=some o→n5.get? c=some o:=fun c o q1 q2 q3 q4 e=>c5.extBut _ _ q2 (c4.extBut _ _ q4 (up3 c o q1 q2 q3 e))
  have a5:n5.IsTupleIter i1 t1 (k + 1):=b2.at fun o e=>c5.extBut _ _ D.TOi1.symm (c4.extBut _ _ D.i12 (c3.extBut _ _ D.TOi1.symm e))
  have b5:n5.IsTupleIter i2 t2 (k + 1):=b4.at fun o e=>c5.extBut _ _ D.TOi2.symm e
  have zlt:z < n5.objs.size:=Heap.lt_size z5
  show wpAny _ _ (Builtin.SmallTypes.ownedTupleHandOut (.ref z) (.ref n5.objs.size)>>=_) _ _ _; refine wpAny_bind ?_
  unfold Builtin.SmallTypes.ownedTupleHandOut
  have z6:IsZip (n5.push { cls:=.type "tuple",data:=.seq #[x,y] }) z TI TO .ellipsis:=Heap.get?_push_of_some _ z5
  refine wpAny_bind (wpAny_setField_rec z6 (by simp) fun n7 z7 c7=>?_); replace z7:IsZip n7 z TI TO (rawInt n5.objs.size):=z7
  refine wpAny_setField_rec z7 (by simp) fun n8 z8 c8=>?_; replace z8:IsZip n8 z TI TO (rawInt n5.objs.size):=z8
  have up8:∀ c o,c≠z→n5.get? c=some o→n8.get? c=some o:=fun c o q e=>c8.extBut _ _ q (c7.extBut _ _ q (Heap.get?_push_of_some _ e))
  have new8:IsPair n8 n5.objs.size x y:=c8.extBut _ _ (Nat.ne_of_gt zlt) (c7.extBut _ _ (Nat.ne_of_gt zlt) (Heap.get?_push_size _ rfl))
  rw [size5] at z8 new8
  refine wpAny_pure ⟨_,rfl,?_⟩
  show Q (.ref n5.objs.size) _
  rw [size5]
  exact hQ n8 ⟨z8,up8 _ _ D.TIz (up5 _ _ D.TIz D.TITO D.TIi1 D.TIi2 hTI),⟨x,y,up8 _ _ D.TOz p5⟩,a5.at fun o e=>up8 _ o D.i1z e,b5.at fun o e=>up8 _ o D.i2z e⟩ new8 fun c o q1 q2 q3 q4 e=>up8 c o q1 (up5 c o q1 q2 q3 q4 e)
theorem zba2 {z TI TO i1 i2 t1 t2:Addr} {k:Nat} {xs ys:Array Value} {Q:Fin→Shared→Prop} (hh:A.handled=none) (D:ZipApart z TI TO i1 i2 t1 t2) (S:Zst s.heap z TI TO i1 i2 t1 t2 .none k)
    (g1:s.heap.IsTuple t1 xs) (g2:s.heap.IsTuple t2 ys) (hend:xs[k]?=none∨ys[k]?=none)
    (hE:∀ h' e,(∀ c o,c≠z→c≠TO→c≠i1→c≠i2→s.heap.get? c=some o→h'.get? c=some o)→(∃ o,h'.get? e=some o∧o.cls=.type "StopIteration")→E (.ref e) { s with heap:=h' }) :
    wpAny (model prog w) A (Builtin.«zip.__next__» ⟨[.ref z],[]⟩) Q E s:=by
  obtain ⟨hz,hTI,⟨a,b,hTO⟩,h1,h2⟩:=S
  show wpAny _ _ (field (.ref z) 2>>=_) _ _ _; refine wpAny_bind (wpAny_field hz rfl (x:=.bool false) rfl ?_)
  show wpAny _ _ (field (.ref z) 3>>=_) _ _ _; refine wpAny_bind (wpAny_field hz rfl (x:=.ref TI) rfl (wpAny_bind (wpAny_seqItems hTI rfl ?_)))
  show wpAny _ _ (Builtin.SmallTypes.ownedTupleIsFree (.ref z)>>=_) _ _ _; refine wpAny_bind ?_
  unfold Builtin.SmallTypes.ownedTupleIsFree; refine wpAny_bind (wpAny_field hz rfl (x:=.none) rfl (wpAny_pure ?_))
  simp only [if_true]; refine wpAny_bind (wpAny_rule (wpAny_bind (wpAny_field hz rfl (x:=.ref TO) rfl ?_)))
  refine wpAny_bind (wpAny_setField_rec hz (by simp) fun n1 z1 c1=>?_); replace z1:IsZip n1 z TI TO .ellipsis:=z1
  refine wpAny_bind ?_; simp only [List.zipIdx_cons,List.zipIdx_nil,List.forIn_cons,List.forIn_nil]
  refine wpAny_bind (wpAny_bind (wpAny_onRaise ?_)); show wpAny _ _ (Builtin.SmallTypes.nextOf (.ref i1)>>=_) _ _ _
  have apart:∀ (n:Heap) (e:Addr) (oe:Obj),IsZip n z TI TO .ellipsis→n.get? e=some oe→oe.cls=.type "StopIteration"→e≠z:=fun n e oe q q1 q2 q3=>by
    subst q3
    rw [q] at q1
    cases q1
    simp at q2
  cases hx:xs[k]? with
  | none =>
    refine wpAny_bind (zaK1 hh (h1.at fun o e=>c1.extBut _ o D.i1z e) (g1.extBut c1.extBut D.l1z) hx fun n2 e c2 he=>?_)
    obtain ⟨oe,q1,q2⟩:=he
    have z2:IsZip n2 z TI TO .ellipsis:=c2 _ _ D.i1z.symm z1
    exact wpAny_setField_rec z2 (by simp) fun n3 _ c3=>hE n3 e (fun c o r1 _ r3 _ q=>c3.extBut _ _ r1 (c2 _ _ r3 (c1.extBut _ _ r1 q))) ⟨oe,c3.extBut _ _ (apart _ _ _ z2 q1 q2) q1,q2⟩
  | some x =>
    have hy:ys[k]?=none:=by
      rcases hend with h | h
      · rw [hx] at h; cases h
      · exact h
    refine wpAny_bind (zai0 (h1.at fun o e=>c1.extBut _ o D.i1z e) (g1.extBut c1.extBut D.l1z) hx fun n2 b2 c2=>wpAny_pure ?_)
    have p2:IsPair n2 TO a b:=c2.extBut _ _ D.TOi1 (c1.extBut _ _ D.TOz hTO)
    refine wpAny_bind (wpAny_seqItems p2 rfl (wpAny_bind (wpAny_updateSeq_pair p2 fun n3 p3 c3=>?_)))
    refine wpAny_bind (wpAny_letGo (wpAny_pure (wpAny_bind (wpAny_bind (wpAny_onRaise ?_))))); show wpAny _ _ (Builtin.SmallTypes.nextOf (.ref i2)>>=_) _ _ _
    have up3:∀ c o,c≠z→c≠TO→c≠i1→s.heap.get? c=some o→n3.get? c=some o:=fun c o q1 q2 q3 e=>c3.extBut _ _ q2 (c2.extBut _ _ q3 (c1.extBut _ _ q1 e))
    have g23:n3.IsTuple t2 ys:=by
      obtain ⟨o,ho,r⟩:=g2
      exact ⟨o,up3 _ _ D.l2z D.l2TO D.l2i1 ho,r⟩
    refine wpAny_bind (zaK1 hh (h2.at fun o e=>up3 _ o D.i2z D.TOi2.symm D.i12.symm e) g23 hy fun n4 e c4 he=>?_)
    obtain ⟨oe,q1,q2⟩:=he
    have z4:IsZip n4 z TI TO .ellipsis:=c4 _ _ D.i2z.symm (c3.extBut _ _ D.TOz.symm (c2.extBut _ _ D.i1z.symm z1))
    exact wpAny_setField_rec z4 (by simp) fun n5 _ c5=>hE n5 e (fun c o r1 r2 r3 r4 q=>c5.extBut _ _ r1 (c4 _ _ r4 (up3 c o r1 r2 r3 q))) ⟨oe,c5.extBut _ _ (apart _ _ _ z4 q1 q2) q1,q2⟩
end
end DL
set_option Elab.async false
set_option linter.all false
set_option maxRecDepth 100000
set_option maxHeartbeats 4000000
namespace DL
open PySem PySem.Spec PyProof.Rows L2
section
variable {X:Cx} {pins:List (Addr×Obj)} {σ:L2.St} {H:Hp} {s:Shared} {h':Heap}
theorem zax6 {t':Nat} {ch:List Addr} (I:Inv X pins σ H s) (k:∀ b o,b ∉ ch→s.heap.get? b=some o→h'.get? b=some o) (hf:∀ b∈ch,FpOk X pins H b):Inv X pins σ H { s with heap:=h',toks:=t' }:=by
  have nit:∀ b u,H b=some u→b ∉ ch:=fun b u e z=>by rw [(hf b z).1] at e; cases e
  refine I.step (g':=s.gens) (d':=s.drawn) (ch:=ch) (fun b hb=>?_) (fun b o _ _ hc e _=>k b o hc e) (fun b o _ _ hc e _=>⟨o.slots,k b o hc e⟩) (fun _ _ _ _ n=>n) (fun b o hc e=>⟨o,k b o hc e⟩) (fun _ _ e=>e) (fun _ _ _ e=>e) (fun b ps e=>⟨#[],by rw [e]; simp⟩) (fun m hm=>?_) (fun b u e=>?_) I.bare
  · obtain ⟨_,f1,_,f3,f4,f5⟩:=hf b hb
    exact ⟨f3,f1,f4,f5⟩
  · obtain ⟨o,es,ep,ho,r⟩:=hm
    exact ⟨o,es,ep,k _ o (fun z=>(hf _ z).2.1 rfl) ho,r⟩
  · refine (I.hok b u e).stay (fun c v hc q=>k c v ?_ q) (fun _ q=>q) fun _ _ q=>q
    rcases hc with z | z
    · rw [z]; exact nit b u e
    · exact nit c _ z
end
section
variable {prog:Program} {w:World} {A:Around} {E:Value→Shared→Prop} {s:Shared}
abbrev zq1 (h:Heap) (t1:Addr):Heap:=h.push { cls:=.type "tuple_iterator",data:=.fields #[.ref t1,.int 0 0] }
abbrev zq2 (h:Heap) (t1 t2:Addr):Heap:=(zq1 h t1).push { cls:=.type "tuple_iterator",data:=.fields #[.ref t2,.int 0 0] }
abbrev zq3 (h:Heap) (t1 t2:Addr):Heap:=(zq2 h t1 t2).push { cls:=.type "tuple",data:=.seq #[.ref h.objs.size,.ref (zq1 h t1).objs.size] }
abbrev zq4 (h:Heap) (t1 t2:Addr):Heap:=(zq3 h t1 t2).push { cls:=.type "tuple",data:=.seq #[.none,.none] }
abbrev zq5 (h:Heap) (t1 t2:Addr):Heap:=(zq4 h t1 t2).push { cls:=.type "zip",data:=.fields #[.none,.bool false,.bool false,.ref (zq2 h t1 t2).objs.size,.ref (zq3 h t1 t2).objs.size] }
theorem zaL0 {h:Heap} {t:Addr} {xs:Array Value} (g:h.IsTuple t xs) (o:Obj):(h.push o).IsTuple t xs:=by
  obtain ⟨u,hu,r⟩:=g
  exact ⟨u,Heap.get?_push_of_some _ hu,r⟩
theorem zbe3 (t1 t2:Addr) (xs ys:Array Value):Meets (Builtin.«zip.__new__» ⟨[.type "zip",.ref t1,.ref t2],[]⟩) (fun _ R s=>s.heap.IsTuple t1 xs∧s.heap.IsTuple t2 ys ∧
    R (.ok (.ret (.ref (zq4 s.heap t1 t2).objs.size))) { s with heap:=zq5 s.heap t1 t2 }):=.of_wp fun prog w A R s hs=>by
  obtain ⟨hp,g,d,tk,os⟩:=s; obtain ⟨hl1,hl2,h⟩:=hs
  have hsub:=sub_zip
  have u1:Heap.IsTuple (Shared.heap ⟨hp,g,d,tk,os⟩) t1 xs:=hl1
  have u2:Heap.IsTuple (Shared.heap ⟨hp.push { cls:=.type "tuple_iterator",data:=.fields #[.ref t1,.int 0 0] },g,d,tk,os⟩) t2 ys:=zaL0 hl2 _
  wp_walk using wpAny_pyIter_tuple u1,wpAny_pyIter_tuple u2
  exact ⟨_,rfl,h⟩
theorem zaU9 {t1 t2:Addr} {xs ys:Array Value} {Q:Value→Shared→Prop} (g1:s.heap.IsTuple t1 xs) (g2:s.heap.IsTuple t2 ys)
    (h:∀ h' n,n=s.heap.objs.size→Zst h' (n + 4) (n + 2) (n + 3) n (n + 1) t1 t2 .none 0→(∀ c o,s.heap.get? c=some o→h'.get? c=some o)→Q (.ref (n + 4)) { s with heap:=h' }):wpAny (model prog w) A (call (.type "zip") [.ref t1,.ref t2]) Q E s:=by
  refine callType_new F.called_zip (by decide) (F.typeCall_zip_2 _ _) (F.newCall_zip_2 _ _) (fun obj=>F.args_object_init_3 obj _ _) F.entry_zip_new (zbe3 t1 t2 xs ys) ⟨g1,g2,?_⟩
  have z1:(zq1 s.heap t1).objs.size=s.heap.objs.size + 1:=Heap.size_push ..
  have z2:(zq2 s.heap t1 t2).objs.size=s.heap.objs.size + 2:=by rw [Heap.size_push,z1]
  have z3:(zq3 s.heap t1 t2).objs.size=s.heap.objs.size + 3:=by rw [Heap.size_push,z2]
  have z4:(zq4 s.heap t1 t2).objs.size=s.heap.objs.size + 4:=by rw [Heap.size_push,z3]
  have a5:(zq5 s.heap t1 t2).get? (zq4 s.heap t1 t2).objs.size=some _:=Heap.get?_push_size _ rfl
  have a4:(zq5 s.heap t1 t2).get? (zq3 s.heap t1 t2).objs.size=some _:=Heap.get?_push_of_some _ (Heap.get?_push_size _ rfl)
  have a3:(zq5 s.heap t1 t2).get? (zq2 s.heap t1 t2).objs.size=some _:=Heap.get?_push_of_some _ (Heap.get?_push_of_some _ (Heap.get?_push_size _ rfl))
  have a2:(zq5 s.heap t1 t2).get? (zq1 s.heap t1).objs.size=some _:=Heap.get?_push_of_some _ (Heap.get?_push_of_some _ (Heap.get?_push_of_some _ (Heap.get?_push_size _ rfl)))
  have a1:(zq5 s.heap t1 t2).get? s.heap.objs.size=some _:=Heap.get?_push_of_some _ (Heap.get?_push_of_some _ (Heap.get?_push_of_some _ (Heap.get?_push_of_some _ (Heap.get?_push_size _ rfl))))
  show _∧_
  rw [z2,z3,z4] at a5
  rw [z1,z2] at a3
  rw [z3] at a4
  rw [z1] at a2
  rw [z4]
  exact ⟨⟨_,a5,rfl⟩,h _ _ rfl ⟨a5,a3,⟨_,_,a4⟩,⟨_,a1,rfl,rfl⟩,⟨_,a2,rfl,rfl⟩⟩ fun c o x=>Heap.get?_push_of_some _ (Heap.get?_push_of_some _ (Heap.get?_push_of_some _ (Heap.get?_push_of_some _ (Heap.get?_push_of_some _ x))))⟩
end
def Itz (K:PySem.W.Frag) (t1 t2:Addr) (n:Nat):It :=
  ⟨fun i H=>i < n∧∃ xs ys,SqT K H t1 xs∧SqT K H t2 ys∧n=min xs.length ys.length,fun i H v H'=>∃ p x y,v=.ref p∧H p=none∧H'=upd H p (.tup [x,y])∧∀ xs ys,SqT K H t1 xs→SqT K H t2 ys→xs[i]?=some x∧ys[i]?=some y,
    fun i H=>i=n∧∃ xs ys,SqT K H t1 xs∧SqT K H t2 ys∧n=min xs.length ys.length⟩
theorem zaP0 {P:Program} {w:World} {K:PySem.W.Frag} {elts:List Expr} {j:Nat} {pos:Pos} {z TI TO i1 i2 t1 t2:Addr} {n:Nat} (D:ZipApart z TI TO i1 i2 t1 t2) :
    Turn P w K (.Tuple elts j pos) (Itz K t1 t2 n) [z,TI,TO,i1,i2] z (fun i h=>Zst h z TI TO i1 i2 t1 t2 .none i) where
  mem:=by simp
  obj:=fun i h st b hb=>by
    obtain ⟨h1,h2,⟨a,c,h3⟩,⟨o4,e4,_,d4⟩,⟨o5,e5,_,d5⟩⟩:=st
    simp only [List.mem_cons,List.not_mem_nil,or_false] at hb
    rcases hb with rfl | rfl | rfl | rfl | rfl
    · exact ⟨_,h1,fun v q=>nomatch q⟩
    · exact ⟨_,h2,fun v q=>nomatch q⟩
    · exact ⟨_,h3,fun v q=>nomatch q⟩
    · exact ⟨_,e4,fun v q=>by rw [d4] at q; cases q⟩
    · exact ⟨_,e5,fun v q=>by rw [d5] at q; cases q⟩
  keep:=fun i h h' st k=>by
    obtain ⟨h1,h2,⟨a,c,h3⟩,h4,h5⟩:=st
    exact ⟨k z (by simp) _ h1,k TI (by simp) _ h2,⟨a,c,k TO (by simp) _ h3⟩,h4.at fun o e=>k i1 (by simp) o e,h5.at fun o e=>k i2 (by simp) o e⟩
  item:=by
    intro X hP hw hK hc i pins s σ H E I hf st hg
    subst hP hw hK
    obtain ⟨hi,xs,ys,q1,q2,hn⟩:=hg
    obtain ⟨its1,r1,p1,l1⟩:=I.tuple q1
    obtain ⟨its2,r2,p2,l2⟩:=I.tuple q2
    have e1:xs[i]?=some (xs[i]'(by omega)):=List.getElem?_eq_getElem (by omega)
    have e2:ys[i]?=some (ys[i]'(by omega)):=List.getElem?_eq_getElem (by omega)
    obtain ⟨u1,hu1,ru1⟩:=r1.get e1
    obtain ⟨u2,hu2,ru2⟩:=r2.get e2
    have hT:s.TypeIs (.ref z) "zip":=⟨_,st.z,rfl⟩
    have hp:H s.heap.objs.size=none:=I.hok.fresh (Nat.le_refl _)
    unfold pyNext
    refine wpAny_bind (wpAny_attempt (wpAny_callSpecial?_slot (name:=Str.ofString "__next__") hT F.slot_zip_next (wpAny_call_entry F.slot_zip_next hT F.entry_zip_next (zaV8 D st (show s.heap.IsTuple t1 its1.toArray from p1) (show s.heap.IsTuple t2 its2.toArray from p2) (by simpa using hu1) (by simpa using hu2) fun h' st' np k=>wpAny_pure ?_) (F.args_zip_next_1 _))))
    refine ⟨_,rfl,?_⟩
    refine wpAny_letOwnedTupleGo_zip (s:={ s with heap:=h' }) st'.z fun h2 z2 c2=>?_
    have I1:Inv X pins σ (upd H s.heap.objs.size (.tup [_,_])) { s with heap:=s.heap.push { cls:=.type "tuple",data:=.seq #[u1,u2] } } :=
      I.laid (t':=s.toks) (fun b o e=>Heap.get?_push_of_some _ e) (Nat.le_refl _) (show ObjOk X.prog X.w _ _ _ (.tup [_,_]) from ⟨⟨by show 2≤sizeLine; rw [sizeLine_eq]; decide,NoD.new _ _ _⟩,[u1,u2],.cons ru1 (.cons ru2 .nil),IsTup.new _ _⟩)
    have lt:∀ {c o},s.heap.get? c=some o→c≠s.heap.objs.size:=fun e=>Nat.ne_of_lt (Heap.lt_size e)
    have zne:s.heap.objs.size≠z:=fun e=>lt st.z e.symm
    have hf':∀ b∈[z,TI,TO,i1,i2],FpOk X pins (upd H s.heap.objs.size (.tup [xs[i]'(by omega),ys[i]'(by omega)])) b:=fun b hb=>by
      obtain ⟨f0,f1,f2,f3,f4,f5⟩:=hf b hb
      refine ⟨?_,f1,f2,f3,f4,f5⟩
      rw [zd6]
      · exact f0
      · obtain ⟨h1,h2,⟨a,c,h3⟩,⟨o4,e4,_⟩,⟨o5,e5,_⟩⟩:=st
        simp only [List.mem_cons,List.not_mem_nil,or_false] at hb
        rcases hb with rfl | rfl | rfl | rfl | rfl
        · exact lt h1
        · exact lt h2
        · exact lt h3
        · exact lt e4
        · exact lt e5
    have kk:∀ b o,b ∉ [z,TI,TO,i1,i2]→(s.heap.push { cls:=.type "tuple",data:=.seq #[u1,u2] }).get? b=some o→h2.get? b=some o:=fun b o hb e=>by
      simp only [List.mem_cons,List.not_mem_nil,or_false,not_or] at hb
      obtain ⟨n1,n2,n3,n4,n5⟩:=hb
      refine c2.extBut _ _ n1 ?_
      rcases Heap.get?_push_cases e with ⟨rfl,rfl⟩ | e
      · exact np
      · exact k b o n1 n3 n4 n5 e
    have I2:=zax6 (s:={ s with heap:=s.heap.push { cls:=.type "tuple",data:=.seq #[u1,u2] } }) (h':=h2) (t':=s.toks) (ch:=[z,TI,TO,i1,i2]) I1 kk hf'
    refine ⟨.ref s.heap.objs.size,upd H s.heap.objs.size (.tup [xs[i]'(by omega),ys[i]'(by omega)]),I2,rfl,⟨_,_,_,rfl,hp,rfl,fun xs' ys' g1 g2=>?_⟩,?_,fun b hb=>(hf' b hb).1⟩
    · rw [I.tuple_inj g1 q1,I.tuple_inj g2 q2]
      exact ⟨e1,e2⟩
    · obtain ⟨h1,h2',⟨a,c,h3⟩,h4,h5⟩:=st'
      exact ⟨z2,c2.extBut _ _ D.TIz h2',⟨a,c,c2.extBut _ _ D.TOz h3⟩,h4.at fun o e=>c2.extBut _ _ D.i1z e,h5.at fun o e=>c2.extBut _ _ D.i2z e⟩
  done:=by
    intro X hP hw hK hc i pins s σ H E I hf st hg
    subst hP hw hK
    obtain ⟨hi,xs,ys,q1,q2,hn⟩:=hg
    obtain ⟨its1,r1,p1,l1⟩:=I.tuple q1
    obtain ⟨its2,r2,p2,l2⟩:=I.tuple q2
    have m1:=r1.length
    have m2:=r2.length
    have hT:s.TypeIs (.ref z) "zip":=⟨_,st.z,rfl⟩
    unfold pyNext
    refine wpAny_bind (wpAny_attempt (wpAny_callSpecial?_slot (name:=Str.ofString "__next__") hT F.slot_zip_next (wpAny_call_entry F.slot_zip_next hT F.entry_zip_next (zba2 (I.ok.hd hc) D st (show s.heap.IsTuple t1 its1.toArray from p1) (show s.heap.IsTuple t2 its2.toArray from p2) ?_ fun h' e k he=>?_) (F.args_zip_next_1 _))))
    · by_cases c:xs.length≤ys.length
      · left
        simp
        omega
      · right
        simp
        omega
    · obtain ⟨o,ho,hce⟩:=he
      refine wpAny_bind (wpAny_isInstance (T:="StopIteration") (b:=true) ⟨o,ho,hce⟩ isSubtype_stop ?_)
      refine wpAny_pure ⟨rfl,zax6 (t':=s.toks) (ch:=[z,TI,TO,i1,i2]) I (fun b o hb e=>?_) hf⟩
      simp only [List.mem_cons,List.not_mem_nil,or_false,not_or] at hb
      exact k b o hb.1 hb.2.2.1 hb.2.2.2.1 hb.2.2.2.2 e
  self:=fun _ _ _ _ _ st h=>wpAny_pyIter_zip st.z h
theorem zbi2 (n a1 a2:Nat) (h1:a1 < n) (h2:a2 < n):ZipApart (n + 4) (n + 2) (n + 3) n (n + 1) a1 a2:=by
  constructor <;> exact fun e=>absurd (show (_:Nat)=_ from e) (by omega)
theorem zaC5:bootBuiltins "zip"=some (.type "zip"):=by decide +kernel
@[simp] def zaO8 (f g:DE):DI:=fun d m Q=>f d m fun x m1=>g d m1 fun y m2=>∃ ps qs,x=.dat (.tuple ps)∧y=.dat (.tuple qs)∧Q ((ps.zip qs).map fun z=>.dat (.tuple [z.1,z.2])) m2
section
variable {X:Cx} {a b:Expr} {elts:List Expr} {j:Nat} {f g:DE} {pos p p2:Pos}
theorem zbg5 (hg:Gl X "zip") (hm:X.mg "zip"=none) (ha:PE X a (LE X.K f)) (hb:PE X b (LE X.K g)) (hs:starEach [a,b] X.env=[(false,eval a X.env),(false,eval b X.env)]:=by rfl) (hs2:starEach [b] X.env=[(false,eval b X.env)]:=by rfl) :
    PI X (.Tuple elts j p2) (.Call (.Name "zip" p) [a,b] [] pos) (LI X.K (zaO8 f g)):=by
  intro pins s σ H R I h
  obtain ⟨Z,d,m,ZZ,ok,rs,h,k⟩:=h
  have hA:=zZ0 (X:=X) ha (zZ0 hb zav2 (by rw [hs2]; rfl)) (by rw [hs,hs2]) pos pins s σ H (fun vs H1=>∃ a1 a2 xs ys ps qs m1,vs=[.ref a1,.ref a2]∧SqT X.K H1 a1 xs∧SqT X.K H1 a2 ys∧RPs X.K Z m1 H1 ps xs∧RPs X.K Z m1 H1 qs ys ∧
      ZZ ((ps.zip qs).map fun z=>.dat (.tuple [z.1,z.2])) m1∧Ext X.K Z m H m1 H1∧Ok X.K Z m1 H1) I ⟨Z,d,m,fun ds m1=>match ds with | [x,y]=>∃ ps qs,x=.dat (.tuple ps)∧y=.dat (.tuple qs)∧ZZ ((ps.zip qs).map fun z=>.dat (.tuple [z.1,z.2])) m1 | _=>False,ok,rs,h,fun xs m1 vs H1 q e1 ok1 rd=>?_⟩
  · refine Call_ (zQ8 I hg hm zaC5 (PyProof.Rows.callWith_type1 (thn hA fun us s1 ⟨vs,H1,I1,r1,q1⟩=>?_) (by rw [hs,hs2]) (by rw [hs2]; rfl)))
    obtain ⟨a1,a2,xs,ys,ps,qs,m1,e,h1,h2,rp,rq,q,e1,ok1⟩:=q1
    subst e
    obtain ⟨u1,u2,rfl,ru1,ru2⟩:=zaW3 r1
    cases ru1
    cases ru2
    obtain ⟨its1,rv1,pt1,l1⟩:=I1.tuple h1
    obtain ⟨its2,rv2,pt2,l2⟩:=I1.tuple h2
    refine zaU9 (show s1.heap.IsTuple a1 its1.toArray from pt1) (show s1.heap.IsTuple a2 its2.toArray from pt2) fun h' n hn st kp=>?_
    have D:ZipApart (n + 4) (n + 2) (n + 3) n (n + 1) a1 a2:=zbi2 n a1 a2 (by obtain ⟨o,ho,_⟩:=pt1; rw [hn]; exact Heap.lt_size ho) (by obtain ⟨o,ho,_⟩:=pt2; rw [hn]; exact Heap.lt_size ho)
    refine wpAny_pyIter_zip (s:={ s1 with heap:=h' }) st.z ?_
    refine ⟨n + 4,[n + 4,n + 2,n + 3,n,n + 1],_,_,H1,rfl,I1.kept (t':=s1.toks) kp,zaP0 (n:=min xs.length ys.length) D,st,fun c hc=>?_,k _ m1 H1 _ q e1 ok1 ?_⟩
    · have hle:s1.heap.objs.size≤c:=by
        simp only [List.mem_cons,List.not_mem_nil,or_false] at hc
        subst hn
        rcases hc with rfl | rfl | rfl | rfl | rfl
        · exact Nat.le_add_right _ 4
        · exact Nat.le_add_right _ 2
        · exact Nat.le_add_right _ 3
        · exact Nat.le_refl _
        · exact Nat.le_add_right _ 1
      exact I1.fpOk hle (I1.hok.fresh hle)
    · intro m2 H2 e2
      have q1:=e2.t a1 xs h1
      have q2:=e2.t a2 ys h2
      have lp:=rp.length
      have lq:=rq.length
      refine ⟨fun i x hx=>?_,?_,xs,ys,q1,q2,rfl⟩
      · rw [List.getElem?_map] at hx
        cases ez:(ps.zip qs)[i]? with
        | none=>rw [ez] at hx; cases hx
        | some z =>
          rw [ez] at hx
          cases hx
          obtain ⟨z1,z2⟩:=z
          obtain ⟨ea,eb⟩:=List.getElem?_zip_eq_some.mp ez
          obtain ⟨v1,hv1,rv1'⟩:=rp.get ea
          obtain ⟨v2,hv2,rv2'⟩:=rq.get eb
          have b1:=(List.getElem?_eq_some_iff.mp hv1).1
          have b2:=(List.getElem?_eq_some_iff.mp hv2).1
          refine ⟨⟨by omega,xs,ys,q1,q2,rfl⟩,fun v H3 ⟨pp,x',y',ev,hp,eH,al⟩=>?_⟩
          obtain ⟨w1,w2⟩:=al xs ys q1 q2
          rw [hv1] at w1
          rw [hv2] at w2
          cases w1
          cases w2
          refine .inr ⟨pp,[z1,z2],[_,_],rfl,ev,hp,eH,?_⟩
          simp only [RPs]
          exact ⟨_,_,rfl,rv1',_,_,rfl,rv2',rfl⟩
      · show ((ps.zip qs).map _).length=min xs.length ys.length
        rw [List.length_map,List.length_zip,lp,lq]
  · match xs,q,rd with
    | [],q,_=>exact q.elim
    | [_],q,_=>exact q.elim
    | _ :: _ :: _ :: _,q,_=>exact q.elim
    | [x,y],q,rd =>
    obtain ⟨ps,qs,rfl,rfl,q⟩:=q
    obtain ⟨v,w,rfl,g1,g2⟩:=rd.two
    simp only [RD,RP] at g1 g2
    obtain ⟨a1,xs,rfl,h1,h2⟩:=g1
    obtain ⟨a2,ys,rfl,h3,h4⟩:=g2
    exact ⟨a1,a2,xs,ys,ps,qs,m1,rfl,h1,h3,h2,h4,q,e1,ok1⟩
end
end DL
set_option Elab.async false
set_option linter.all false
set_option maxRecDepth 100000
set_option maxHeartbeats 4000000
namespace DL
open PySem PySem.Spec PyProof.Rows L2
section
variable {X:Cx} {a e o:Expr} {es:List Expr} {f g:DE} {ga:DA} {pos p p1 p2:Pos}
theorem zV9:∀ {zs:List Str} {us:List Value},Vals (zs.map V.str) us→StrsAre us zs
  | [],_,.nil=>.nil
  | z :: zs,_,.cons ⟨t,e⟩ r=>by
    rw [e]
    exact .cons z t (zV9 r)
theorem zaj4:∀ {zs:List Str} {us:List Value},StrsAre us zs→Vals (zs.map V.str) us
  | _,_,.nil=>.nil
  | _,_,.cons z t r=>.cons ⟨t,rfl⟩ (zaj4 r)
theorem zaj7:bootBuiltins "sorted"=some (.builtin "sorted"):=by decide +kernel
@[simp] def zar7:DC
  | [.dat (.list ps)],m,Q=>∃ zs:List Str,ps=zs.map .str∧zs.length < 64∧∀ ys:List Str,ys.Perm zs→PyProof.Rows.sortedS ys=true→Q (.dat (.list (ys.map .str))) m
  | _,_,_=>False
theorem zaI5:CallD X (.builtin "sorted") zar7:=by
  intro pins s σ H Z m xs ds us R Q I ok rv rd h k
  unfold zar7 at h
  split at h
  · obtain ⟨v,rfl,r1⟩:=rd.one
    obtain ⟨zs,rfl,hl,hh⟩:=h
    simp only [RD,RP] at r1
    obtain ⟨a,vs,rfl,_,h1,h2⟩:=r1
    cases zs1 h2
    obtain ⟨u,rfl,ru⟩:=zN6 rv
    cases ru
    obtain ⟨its,r',pl,hz⟩:=I.list h1
    have hlen:=r'.length
    rw [List.length_map] at hlen
    refine sorted_strs pl.isList (zV9 r') (by omega) fun out ys hS hp hs=>?_
    obtain ⟨e',he⟩:=sortedAll_at s.heap its out
    have hv:=zaj4 hS
    have hvl:=hv.length
    have hpl:=hp.length_eq
    rw [List.length_map] at hvl
    have hle:s.heap.objs.size≤s.heap.objs.size + 1:=Nat.le_succ _
    have I2:=I.laid (t':=s.toks) (a:=s.heap.objs.size + 1) (o:=.lst (ys.map V.str)) (fun b u q=>sortedAll_old (out:=out) (vs:=its) q) hle ⟨by rw [List.length_map]; have:=zU2; rw [sizeLine_eq]; omega,out.toList,e',hv,he⟩
    have hf:H (s.heap.objs.size + 1)=none:=I.hok.fresh hle
    have sm:Same H (upd H (s.heap.objs.size + 1) (.lst (ys.map V.str))):=zf9 hf
    refine ⟨.ref _,_,I2,rfl,k _ m _ _ (hh ys hp hs) (ok.ext sm) (ok.grow sm) ?_⟩
    simp only [RD,RP]
    exact ⟨_,_,rfl,zF8 ok hf,.inl (.inl zf4),zV1 ys⟩
  · exact h.elim
def zbo2 (K:PySem.W.Frag):V→List V→Hp→VK→Prop:=fun x xs H Q=>∃ (z:Str) (a:Addr) (zs:List Str),x=.str z∧xs=[.ref a]∧SqL K H a (zs.map V.str)∧z.length≤16∧(zs.map (·.length)).sum + zs.length≤1048576∧Q (.str (Txt.join z zs)) H
theorem zaU1:MtR X "str.join" (zbo2 X.K):=by
  intro pins s σ H x xs v us Q I rx rs ⟨z,a,zs,e1,e2,hq,h1,h2,q⟩
  subst e1 e2
  obtain ⟨t,rfl⟩:=rx
  obtain ⟨u,rfl,ru⟩:=zN6 rs
  cases ru
  obtain ⟨its,r',pl,hz⟩:=I.list hq
  exact join_listW pl.isList (zV9 r') h1 h2 fun t' k=>⟨.str _,H,I.tok _,⟨_,rfl⟩,q⟩
@[simp] def zaT7 (z:Str) (g:DE):DE:=fun d m Q=>g d m fun y m1=>∃ zs:List Str,y=.dat (.list (zs.map .str))∧z.length≤16∧(zs.map (·.length)).sum + zs.length≤1048576∧Q (.dat (.str (Txt.join z zs))) m1
theorem zaW0 {z:Str} {jc:Nat} {apos cpos:Pos} (he:PE X e (LE X.K g))
    (hbase:attributeBase (.Constant (.str z) jc p) "join" X.env (eval (.Constant (.str z) jc p) X.env)=eval (.Constant (.str z) jc p) X.env:=by rfl)
    (hfew:((backTo cpos (starEach [e] X.env)).all (fun x=>!x.1) && (backToKw cpos (keywordEach [] X.env)).all (fun x=>x.1.isSome) && decide ([e].length + ([]:List Keyword).length + (if ([]:List Keyword).isEmpty then 0 else 1) < 30))=true:=by rfl)
    (hline:(apos.endLine == cpos.line)=true:=by rfl) (hs:starEach [e] X.env=(false,eval e X.env) :: starEach [] X.env:=by rfl):PE X (.Call (.Attribute (.Constant (.str z) jc p) "join" apos) [e] [] cpos) (LE X.K (zaT7 z g)) :=
  PE.imp (zba1 (T:="str") (id:="str.join") (name:="join") PySem.F.plainAttrs_str PySem.F.slot_str_join PySem.F.type_str_join zaU1 zaR8 (zD4 he zab0 hs) hbase hfew hline hs rfl) fun s H Q h=>by
    obtain ⟨Z,d,m,R,ok,rs,h,k⟩:=h
    refine ⟨rfl,?_⟩
    refine ⟨Z,d,m,_,ok,rs,h,fun y m1 v H1 ⟨zs,ey,h1,h2,q⟩ e1 ok1 rd=>?_⟩
    subst ey
    simp only [RD,RP] at rd
    obtain ⟨a,vs,rfl,_,hq,hr⟩:=rd
    cases zs1 hr
    exact ⟨z,a,zs,rfl,rfl,hq,h1,h2,k _ m1 _ H1 q e1 ok1 .ofStr⟩
theorem zaP8 (x:Str) (l u:Option (Int×Tok)):(slicePicked x l u none).length≤x.length:=by
  unfold slicePicked Builtin.Str.strSliceIndices sliceRange
  simp only [List.length_map,List.length_range,Option.map_none,Option.getD_none]
  have h1:(1:Int) > 0:=by decide
  simp only [h1,if_true]
  cases l <;> cases u <;> simp only [Option.map_none,Option.map_some] <;> repeat' split <;> omega
theorem zaJ5 {α β:Type} (f:α→Option β):∀ xs:List α,(xs.filterMap f).length≤xs.length
  | []=>Nat.le_refl _
  | x :: xs=>by
    rw [List.filterMap_cons]
    have:=zaJ5 f xs
    cases f x with
    | none=>exact Nat.le_succ_of_le this
    | some y=>exact Nat.succ_le_succ this
def rSlS:V→Option Int→Option Int→Hp→VK→Prop:=fun x lo hi H Q=>∃ z:Str,x=.str z∧z.length≤sizeLine∧∀ y:Str,y.length≤z.length→Q (.str y) H
theorem zaE3 {v:Value} {lo:Option Int} (h:IsPart v lo):∃ l,v=partValue l:=by
  cases h with
  | none=>exact ⟨none,rfl⟩
  | int i t=>exact ⟨some (i,t),rfl⟩
theorem zbg0:SlR X rSlS:=by
  intro pins s σ H x v vl vu lo hi sl Q I rx hs pl pu h
  obtain ⟨z,rfl,hz,q⟩:=h
  obtain ⟨t,rfl⟩:=rx
  obtain ⟨l,rfl⟩:=zaE3 pl
  obtain ⟨u,rfl⟩:=zaE3 pu
  refine ⟨"str",_,PySem.F.slot_str_getitem.lookup,typeIs_str s z t,?_⟩
  refine wpAny_getItem_str_slice (l:=l) (u:=u) (st:=none) hs rfl ?_
  unfold sliceMade
  split
  · exact ⟨.str z,H,I,⟨_,rfl⟩,q z (Nat.le_refl _)⟩
  · have hl:(⟨((slicePicked z l u none).filterMap (z.cps[·]?)).toArray⟩:Str).length≤z.length:=by
      show ((slicePicked z l u none).filterMap (z.cps[·]?)).toArray.size≤z.length
      rw [List.size_toArray]
      exact Nat.le_trans (zaJ5 _ _) (zaP8 z l u)
    exact ⟨Nat.le_trans hl hz,.str _,H,I.tok _,⟨_,rfl⟩,q _ hl⟩
@[simp] def dApp (fo g:DE):DE:=fun d m Q=>fo d m fun o m1=>∃ c,o=.cel c∧(∃ ys,m1 c=some (.l ys))∧g d m1 fun x m2=>∃ xs p,x=.dat p∧m2 c=some (.l xs)∧xs.length < sizeLine∧Q (.dat .none) (updM m2 c (.l (xs++[p])))
theorem zbf5 {apos cpos:Pos} (ho:PE X o (LE X.K f)) (he:PE X e (LE X.K g)) (hbase:attributeBase o "append" X.env (eval o X.env)=eval o X.env:=by rfl)
    (hfew:((backTo cpos (starEach [e] X.env)).all (fun x=>!x.1) && (backToKw cpos (keywordEach [] X.env)).all (fun x=>x.1.isSome) && decide ([e].length + ([]:List Keyword).length + (if ([]:List Keyword).isEmpty then 0 else 1) < 30))=true:=by rfl)
    (hline:(apos.endLine == cpos.line)=true:=by rfl) (hs:starEach [e] X.env=(false,eval e X.env) :: starEach [] X.env:=by rfl):PE X (.Call (.Attribute o "append" apos) [e] [] cpos) (LE X.K (dApp f g)) :=
  PE.imp (zba1 (T:="list") (id:="list.append") (name:="append") PySem.F.plainAttrs_list PySem.F.slot_list_append PySem.F.type_list_append zY4 ho (zD4 he zab0 hs) hbase hfew hline hs rfl) fun s H Q h=>by
    obtain ⟨Z,d,m,R,ok,rs,h,k⟩:=h
    refine ⟨Z,d,m,_,ok,rs,h,fun x m1 v H1 ⟨c,ex,⟨xs0,hx0⟩,q⟩ e1 ok1 rd=>?_⟩
    subst ex
    obtain ⟨rfl,hc⟩:=rd
    obtain ⟨vs0,g0,_⟩:=ok1.l hx0
    refine ⟨.inl ⟨rfl,vs0,.inl (.inl g0)⟩,Z,d,m1,_,ok1,rs.ext e1,q,fun y m2 w H2 ⟨xs,pp,ey,hm,hz,q2⟩ e2 ok2 rd2=>?_⟩
    subst ey
    obtain ⟨vs,g1,g2⟩:=ok2.l hm
    refine ⟨c,vs,w,rfl,rfl,g1,by rw [g2.length]; exact hz,?_⟩
    refine k _ _ _ _ q2 (e1.trans (e2.trans (Ext.put ok2 hm g1))) (ok2.put hm g1 (show RPs _ _ _ _ _ _ from g2.append ?_)) (by simp only [RD,RP])
    simp only [RPs]
    exact ⟨w,[],rfl,rd2,rfl⟩
@[simp] def dSlX (f:DE) (lo hi:DO):DE:=fun d m Q=>f d m fun x m1=>lo d m1 fun l m2=>hi d m2 fun u m3 =>
  (∃ xs,x=.dat (.tuple xs)∧Q (.dat (.tuple (cutP xs l u))) m3)∨(∃ xs,x=.dat (.list xs)∧Q (.dat (.list (cutP xs l u))) m3)∨(∃ z:Str,x=.dat (.str z)∧z.length≤sizeLine∧∀ y:Str,y.length≤z.length→Q (.dat (.str y)) m3)
theorem zbi9 {lo hi:Option Expr} {tl th:DO} (ha:PE X a (LE X.K f)) (hl:PO X lo (LO X.K tl)) (hu:PO X hi (LO X.K th)):PE X (.Subscript a (.Slice lo hi none p2) pos) (LE X.K (dSlX f tl th)) :=
  PE.imp (zaw3 (zbi0.or (zaK4.or (zba0.or zbg0))) ha hl hu) fun s H Q h=>by
    obtain ⟨Z,d,m,R,ok,rs,h,k⟩:=h
    refine ⟨Z,d,m,_,ok,rs,h,fun x m1 v H1 q e1 ok1 rx=>⟨Z,d,m1,_,ok1,rs.ext e1,q,fun l m2 H2 q2 e2 ok2=>⟨Z,d,m2,_,ok2,(rs.ext e1).ext e2,q2,fun u m3 H3 q3 e3 ok3=>?_⟩⟩⟩
    have e13:=e1.trans (e2.trans e3)
    have rx3:=rx.ext (e2.trans e3)
    rcases q3 with ⟨xs,rfl,q4⟩ | ⟨xs,rfl,q4⟩ | ⟨z,rfl,hz,q4⟩
    · simp only [RD,RP] at rx3
      obtain ⟨a,vs,rfl,h1,h2⟩:=rx3
      by_cases hw:HT.sIx vs.length 0 l=0∧HT.sIx vs.length vs.length u=vs.length
      · refine .inr (.inl ⟨a,vs,rfl,h1,hw,k _ m3 _ H3 q4 e13 ok3 ?_⟩)
        rw [h2.length] at hw
        rw [zaG0 xs hw]
        simp only [RD,RP]
        exact ⟨a,vs,rfl,h1,h2⟩
      · refine .inl ⟨a,vs,rfl,h1,hw,fun p hp=>?_⟩
        have sm:Same H3 (upd H3 p (.tup (cutV vs l u))):=zf9 hp
        refine k _ m3 _ _ q4 (e13.trans (ok3.ext sm)) (ok3.grow sm) ?_
        simp only [RD,RP]
        exact ⟨p,_,rfl,.inl (.inl zf4),RPs.ext (ok3.ext sm) _ _ h2.cut⟩
    · simp only [RD,RP] at rx3
      obtain ⟨a,vs,rfl,h0,h1,h2⟩:=rx3
      refine .inr (.inr (.inl ⟨a,vs,rfl,h1,fun p hp=>?_⟩))
      have sm:Same H3 (upd H3 p (.lst (cutV vs l u))):=zf9 hp
      refine k _ m3 _ _ q4 (e13.trans (ok3.ext sm)) (ok3.grow sm) ?_
      simp only [RD,RP]
      exact ⟨p,_,rfl,zF8 ok3 hp,.inl (.inl zf4),RPs.ext (ok3.ext sm) _ _ h2.cut⟩
    · cases rx3.str
      exact .inr (.inr (.inr ⟨z,rfl,hz,fun y hy=>k _ m3 _ H3 (q4 y hy) e13 ok3 .ofStr⟩))
end
end DL
set_option Elab.async false
set_option linter.all false
set_option maxRecDepth 100000
set_option maxHeartbeats 4000000
namespace DL
open PySem PySem.Spec PyProof.Rows L2
def valP {κ:Type} [DecidableEq κ] (kvs:List (κ×PyData)) (k:κ):Option PyData:=(kvs.find? fun kv=>decide (kv.1=k)).map (·.2)
def putP {κ:Type} [DecidableEq κ] (kvs:List (κ×PyData)) (k:κ) (p:PyData):List (κ×PyData) :=
  if (kvs.any fun kv=>decide (kv.1=k))=true then kvs.map (fun kv=>if kv.1=k then (kv.1,p) else kv) else kvs++[(k,p)]
section
variable {κ:Type} [DecidableEq κ] {K:PySem.W.Frag} {Z:Addr→Prop} {m:Mu} {H:Hp}
theorem RKV.length:∀ {kvs:List (κ×PyData)} {vs:List (κ×V)},RKV K Z m H kvs vs→vs.length=kvs.length
  | [],_,h=>by cases (show _=[] from h); rfl
  | _ :: _,_,⟨v,r,h1,_,h3⟩=>by subst h1; rw [List.length_cons,List.length_cons,RKV.length h3]
theorem RKV.val {k:κ} {p:PyData}:∀ {kvs:List (κ×PyData)} {vs:List (κ×V)},RKV K Z m H kvs vs→valP kvs k=some p→∃ v,valV vs k=some v∧RP K Z m H p v
  | [],_,_,e=>by simp [valP] at e
  | (j,q) :: xs,_,⟨v,r,h1,h2,h3⟩,e=>by
    subst h1
    unfold valP at e
    unfold valV
    by_cases c:j=k
    · simp [List.find?_cons,c] at e ⊢
      exact e ▸ h2
    · simp [List.find?_cons,c] at e ⊢
      have:=RKV.val (k:=k) (p:=p) h3 (by unfold valP; simpa using e)
      unfold valV at this
      simpa using this
theorem RKV.any {k:κ}:∀ {kvs:List (κ×PyData)} {vs:List (κ×V)},RKV K Z m H kvs vs→(vs.any fun kv=>decide (kv.1=k))=(kvs.any fun kv=>decide (kv.1=k))
  | [],_,h=>by cases (show _=[] from h); rfl
  | _ :: _,_,⟨v,r,h1,_,h3⟩=>by subst h1; rw [List.any_cons,List.any_cons,RKV.any h3]
theorem RKV.repl {k:κ} {p:PyData} {v:V} (hp:RP K Z m H p v):∀ {kvs:List (κ×PyData)} {vs:List (κ×V)},RKV K Z m H kvs vs→RKV K Z m H (kvs.map fun kv=>if kv.1=k then (kv.1,p) else kv) (vs.map fun kv=>if kv.1=k then (kv.1,v) else kv)
  | [],_,h=>by cases (show _=[] from h); exact (rfl:([]:List (κ×V))=[])
  | (j,q) :: xs,_,⟨w,r,h1,h2,h3⟩=>by
    subst h1
    rw [List.map_cons,List.map_cons]
    by_cases c:j=k
    · rw [if_pos c,if_pos c]
      exact ⟨v,_,rfl,hp,RKV.repl hp h3⟩
    · rw [if_neg c,if_neg c]
      exact ⟨w,_,rfl,h2,RKV.repl hp h3⟩
theorem RKV.snoc {k:κ} {p:PyData} {v:V} (hp:RP K Z m H p v):∀ {kvs:List (κ×PyData)} {vs:List (κ×V)},RKV K Z m H kvs vs→RKV K Z m H (kvs++[(k,p)]) (vs++[(k,v)])
  | [],_,h=>by cases (show _=[] from h); exact ⟨v,[],rfl,hp,rfl⟩
  | _ :: _,_,⟨w,r,h1,h2,h3⟩=>by subst h1; exact ⟨w,_,rfl,h2,RKV.snoc hp h3⟩
theorem RKV.put {k:κ} {p:PyData} {v:V} {kvs:List (κ×PyData)} {vs:List (κ×V)} (h:RKV K Z m H kvs vs) (hp:RP K Z m H p v):RKV K Z m H (putP kvs k p) (putK vs k v):=by
  unfold putP putK
  rw [h.any]
  split
  · exact h.repl hp
  · exact h.snoc hp
end
@[simp] def keyD:D→Option Key
  | .dat (.str z)=>some (.inr z)
  | .dat (.int i)=>some (.inl i)
  | _=>none
theorem RD.key {K:PySem.W.Frag} {Z:Addr→Prop} {m:Mu} {H:Hp} {x:D} {v:V} {k:Key} (h:RD K Z m H x v) (e:keyD x=some k):v=kV k:=by
  unfold keyD at e
  split at e
  · cases e; cases h.str; rfl
  · cases e; cases h.int; rfl
  · cases e
section
variable {X:Cx} {o i e:Expr} {fo fi f:DE} {pos tpos:Pos}
@[simp] def zaS9 (fo fi:DE):DE:=fun d m Q=>fo d m fun o m1=>fi d m1 fun y m2=>∃ c k kvs p,o=.cel c∧keyD y=some k∧m2 c=some (.d kvs)∧valP kvs k=some p∧Q (.dat p) m2
theorem zaV7 (hu:X.A.units + 100 < cLine) (ho:PE X o (LE X.K fo)) (hi:PE X i (LE X.K fi)) (hs:NoSl i:=by exact fun _ _=>rfl):PE X (.Subscript o i pos) (LE X.K (zaS9 fo fi)) :=
  PE.imp (zaZ1 (by omega) ho hi hs) fun s H Q h=>by
    obtain ⟨Z,d,m,R,ok,rs,h,k⟩:=h
    refine ⟨Z,d,m,_,ok,rs,h,fun o m1 v H1 q e1 ok1 r1=>⟨Z,d,m1,_,ok1,rs.ext e1,q,fun y m2 w H2 q2 e2 ok2 r2=>?_⟩⟩
    obtain ⟨c,ky,kvs,p,rfl,hk,hm,hv,q⟩:=q2
    cases r2.key hk
    obtain ⟨rfl,_⟩:=r1.ext e2
    obtain ⟨vs,g1,g2⟩:=ok2.d hm
    obtain ⟨v,hv',rv⟩:=g2.val hv
    exact ⟨c,v,rfl,.inl ⟨vs,ky,.inl g1,rfl,hv'.symm⟩,k _ m2 _ H2 q (e1.trans e2) ok2 rv⟩
end
end DL
set_option Elab.async false
set_option linter.all false
set_option maxRecDepth 100000
set_option maxHeartbeats 4000000
namespace DL
open PySem PySem.Spec PyProof.Rows L2
open AutoSeq1 (wpAny_loadPart')
section
variable {prog:Program} {w:World} {A:Around} {E:Value→Shared→Prop} {s:Shared}
end
section
variable {X:Cx} {e:Expr} {f:DE} {pos p p2 pos2:Pos}
end
end DL
set_option Elab.async false
set_option linter.all false
set_option maxRecDepth 100000
set_option maxHeartbeats 4000000
namespace DL
open PySem PySem.Spec PyProof.Rows L2
def KEnt (w:World):List DictEntry→List (Str×V)→Prop
  | [],[]=>True
  | e :: es,(z,v) :: kvs=>e.hash=PyData.keyHash w.params z∧(∃ t,e.key=.str z t)∧RelV v e.val∧KEnt w es kvs
  | _,_=>False
def KDt (K:PySem.W.Frag) (w:World) (a:Addr) (kvs:List (Str×V)):Prop :=
  ∃ (o:Obj) (es:Array DictEntry) (ep:Nat),K.lookup a=some o∧o.cls=.type "dict"∧o.dict=none∧o.slots=#[]∧o.data=.dict es ep∧KEnt w es.toList kvs∧(kvs.map (·.1)).Nodup∧(a == sysModules)=false
def KD (K:PySem.W.Frag) (w:World) (a:Addr) (kvs:List (Str×PyData)):Prop:=∃ vs:List (Str×V),KDt K w a vs∧∀ (Z:Addr→Prop) (m:Mu) (H:Hp),RKV K Z m H kvs vs
def inrs {α:Type} (kvs:List (Str×α)):List (Key×α):=kvs.map fun kv=>(.inr kv.1,kv.2)
theorem KEnt.out {P:Program} {w:World}:∀ {es:List DictEntry} {kvs:List (Str×V)},KEnt w es kvs→∃ vs:List (Str×Value),KV (inrs kvs) (inrs vs)∧Pairs (zg6 P w) es (inrs vs)∧(∀ e∈es,∃ k,(zg6 P w).is k e.key=true∧e.hash=(zg6 P w).hash k)∧vs.map (·.1)=kvs.map (·.1)
  | [],[],_=>⟨[],.nil,.nil,by simp,rfl⟩
  | e :: es,(z,v) :: kvs,⟨h1,⟨t,h2⟩,h3,h4⟩=>by
    obtain ⟨vs,q1,q2,q3,q4⟩:=KEnt.out (P:=P) h4
    have hk:(zg6 P w).is (.inr z) e.key=true:=by
      rw [h2]
      exact decide_eq_true (rfl:z=z)
    refine ⟨(z,e.val) :: vs,.cons ⟨rfl,h3⟩ q1,.cons hk rfl q2,fun x hx=>?_,by simp [q4]⟩
    rcases List.mem_cons.mp hx with rfl | hx
    · exact ⟨_,hk,h1⟩
    · exact q3 x hx
  | [],_ :: _,h=>h.elim
  | _ :: _,[],h=>h.elim
theorem KDt.dictOf {K:PySem.W.Frag} {P:Program} {w:World} {a:Addr} {kvs:List (Str×V)} {h:Heap} (q:KDt K w a kvs) (hK:K.In h):∃ vs:List (Key×Value),KV (inrs kvs) vs∧h.DictOf (zg6 P w) a vs:=by
  obtain ⟨o,es,ep,h1,h2,h3,h4,h5,h6,h7,_⟩:=q
  obtain ⟨vs,q1,q2,q3,q4⟩:=KEnt.out (P:=P) h6
  refine ⟨_,q1,o,es,ep,hK _ _ h1,⟨h2,h3,h4⟩,h5,fun e he=>q3 e (by simpa using he),q2,?_⟩
  have e:(inrs vs).map (·.1)=(kvs.map (·.1)).map Sum.inr:=by
    rw [← q4]
    simp [inrs,Function.comp_def]
  rw [e]
  exact List.Pairwise.map _ (fun a b hab h=>hab (Sum.inr.inj h)) h7
theorem zam7 {z:Str}:∀ kvs:List (Str×V),valV (inrs kvs) (.inr z)=valV kvs z
  | []=>rfl
  | (y,v) :: kvs=>by
    have ih:=zam7 (z:=z) kvs
    unfold valV inrs at *
    by_cases c:y=z
    · simp [List.find?_cons,c]
    · simp only [List.map_cons,List.find?_cons,c,decide_false,Sum.inr.injEq]
      exact ih
theorem RKV.val_none {κ:Type} [DecidableEq κ] {K:PySem.W.Frag} {Z:Addr→Prop} {m:Mu} {H:Hp} {k:κ}:∀ {kvs:List (κ×PyData)} {vs:List (κ×V)},RKV K Z m H kvs vs→valP kvs k=none→valV vs k=none
  | [],_,h,_=>by cases (show _=[] from h); rfl
  | (j,q) :: xs,_,⟨v,r,h1,h2,h3⟩,e=>by
    subst h1
    unfold valP at e
    unfold valV
    by_cases c:j=k
    · simp [List.find?_cons,c] at e
    · simp [List.find?_cons,c] at e ⊢
      have:=RKV.val_none (k:=k) h3 (by unfold valP; simpa using e)
      unfold valV at this
      simpa using this
theorem zr6 {K:PySem.W.Frag} {Z:Addr→Prop} {m:Mu} {H:Hp} {a:Addr} {is:List Int} (h:SqT K H a (is.map V.int)):RP K Z m H (.tuple (is.map PyData.int)) (.ref a):=by
  simp only [RP]
  exact ⟨a,_,rfl,h,zag7 is⟩
section
variable {X:Cx} {i e g:Expr} {fi f fg:DE} {p pos apos cpos:Pos}
@[simp] def zav4 (kvs:List (Str×PyData)) (fi:DE):DE:=fun d m Q=>fi d m fun y m1=>∃ (z:Str) (q:PyData),y=.dat (.str z)∧valP kvs z=some q∧Q (.dat q) m1
theorem zaN7 {x:Str} {c:Addr} {kvs:List (Str×PyData)} (hg:Gl X x) (hm:X.mg x=some (.ref c)) (hk:KD X.K X.w c kvs) (hi:PE X i (LE X.K fi)) (hd:(x == ("__debug__" : Str))=false:=by decide) (hs:NoSl i:=by exact fun _ _=>rfl) :
    PE X (.Subscript (.Name x p) i pos) (LE X.K (zav4 kvs fi)):=by
  intro pins s σ H Q I h
  obtain ⟨Z,d,m,R,ok,rs,h,k⟩:=h
  obtain ⟨vs,kd,rk⟩:=hk
  refine zaE2 PySem.F.slot_dict_getitem.lookup hs (thn (zas3 (v:=.ref c) hg hm rfl hd pins s σ H (fun x H1=>x=.ref c∧H1=H) I ⟨rfl,rfl⟩) fun u s1 ⟨x,H1,I1,rx,ex,eH⟩=>?_)
  subst ex; subst eH
  obtain rfl:u=Value.ref c:=rx
  refine thn (hi pins s1 σ _ (fun v H2=>∃ (z:Str) (w:V),v=.str z∧valV vs z=some w∧Q w H2) I1 ⟨Z,d,m,_,ok,rs,h,fun y m1 v H1 ⟨z,q,ey,hv,hq⟩ e1 ok1 r1=>?_⟩) fun iv s2 ⟨y,H2,I2,ry,z,w,ey,hw,q2⟩=>?_
  · subst ey
    cases r1.str
    obtain ⟨w,hw,rw'⟩:=(rk Z m1 H1).val hv
    exact ⟨z,w,rfl,hw,k _ m1 _ H1 hq e1 ok1 rw'⟩
  · subst ey
    obtain ⟨ws,rel,dd⟩:=kd.dictOf (P:=X.prog) I2.kIn
    obtain ⟨w',hw',rw'⟩:=RelO.some_of (v:=w) (o:=valueAt ws (.inr z)) (by rw [← hw,← zam7]; exact rel.val _)
    exact ⟨dd.typeIs,wpAny_getItem_of (zaL6 (k:=.inr z) ry) dd.mapOf hw' ⟨w,H2,I2.tok _,rw',q2⟩⟩
end
end DL
set_option Elab.async false
set_option linter.all false
set_option maxRecDepth 100000
set_option maxHeartbeats 4000000
namespace DL
open PySem PySem.Spec PyProof.Rows L2
section
variable {X:Cx} {e g:Expr} {f fg:DE} {tg:Expr} {pos:Pos}
@[simp] def zaG5 (f fg:DE):DI:=fun d m Q=>f d m fun x m1=>fg d m1 fun y m2=>∃ i j:Int,x=.dat (.int i)∧y=.dat (.int j)∧(-(2 ^ 62)≤i∧i < 2 ^ 62∧-(2 ^ 62)≤j∧j < 2 ^ 62)∧Q (zu0 i (j - i).toNat) m2
theorem zaE5 {p:Pos} (hg:Gl X "range") (hm:X.mg "range"=none) (ha:PE X e (LE X.K f)) (hb:PE X g (LE X.K fg)) (hs:starEach [e,g] X.env=[(false,eval e X.env),(false,eval g X.env)]:=by rfl) (hs2:starEach [g] X.env=[(false,eval g X.env)]:=by rfl) :
    PI X tg (.Call (.Name "range" p) [e,g] [] pos) (LI X.K (zaG5 f fg)) :=
  PI.imp (zaA9 hg hm (zD4 ha (zD4 hb zab0 (by rw [hs2]; rfl)) (by rw [hs,hs2])) hs hs2) fun s H R h=>by
    obtain ⟨Z,d,m,ZZ,ok,rs,h,k⟩:=h
    refine ⟨Z,d,m,_,ok,rs,h,fun x m1 v H1 q e1 ok1 rd=>⟨Z,d,m1,_,ok1,rs.ext e1,q,fun y m2 v2 H2 ⟨i0,j,ex,ey,hb,q2⟩ e2 ok2 rd2=>?_⟩⟩
    subst ex; subst ey
    cases rd.int
    cases rd2.int
    show ∃ i' j':Int,[V.int i0,V.int j]=[V.int i',V.int j']∧_
    refine ⟨i0,j,rfl,hb,k _ m2 H2 _ q2 (e1.trans e2) ok2 fun m3 H3 e3=>⟨fun i x hx=>?_,?_⟩⟩
    · unfold zu0 at hx
      rw [List.getElem?_map] at hx
      cases ei:(List.range (j - i0).toNat)[i]? with
      | none=>rw [ei] at hx; cases hx
      | some i' =>
        rw [ei] at hx
        cases hx
        have hl:=(List.getElem?_eq_some_iff.mp ei).1
        have hi:i'=i:=by
          obtain ⟨_,z⟩:=List.getElem?_eq_some_iff.mp ei
          rw [List.getElem_range] at z
          exact z.symm
        subst hi
        rw [List.length_range] at hl
        refine ⟨hl,fun v' H3 y=>.inl ⟨y.1,?_⟩⟩
        rw [y.2]
        exact .ofInt
    · show (j - i0).toNat≤(zu0 i0 (j - i0).toNat).length
      unfold zu0
      rw [List.length_map,List.length_range]
      exact Nat.le_refl _
end
end DL
set_option Elab.async false
set_option linter.all false
set_option maxRecDepth 100000
set_option maxHeartbeats 4000000
namespace DL
open PySem PySem.Spec PyProof.Rows L2
theorem zaZ4:typeLookup (.type "tuple") "keys"=pure none:=by rw [typeLookup_type,builtinLookup_eq_fast]; kernel_rfl
theorem zV6:plainId "dict.update.loop"=true:=by decide +kernel
theorem zat5:entryFor table "dict.update.loop"=some Builtin.«dict.update.loop»:=entryFor_of_fast (by kernel_rfl)
section
variable {prog:Program} {w:World} {A:Around} {E:Value→Shared→Prop} {s:Shared}
theorem zaD9 {a:Addr} {o:Obj} {xs:Array Value} {k:Nat} {Q:Option Value→Shared→Prop}
    (hx:s.heap.get? a=some o) (hc:o.cls=.type "tuple") (hdat:o.data=.seq xs k) (hd:o.dict=none) (hA:A.handled=none)
    (h:∀ h' tk,(∀ b ob,s.heap.get? b=some ob→h'.get? b=some ob)→Q none { s with heap:=h',toks:=tk }) :
    wpAny (model prog w) A (getAttr? (.ref a) "keys") Q E s:=by
  obtain ⟨c,dct,dat,sl⟩:=o
  simp only at hc hdat hd
  subst hc hdat hd
  obtain ⟨hp,g,d,tk,os⟩:=s
  have hT:∀ tk',(⟨hp,g,d,tk',os⟩:Shared).TypeIs (.ref a) "tuple":=fun _=>⟨_,hx,rfl⟩
  have f1:=sub_AttributeError
  have f3:=F.slot_tuple_getattribute.lookup
  have f4:=F.slot_tuple_getattribute.bind (.ref a)
  have f5:=am_tuple_getattr_none
  have hsz:(Str.ofString "keys").length + 100≤sizeLine:=by rw [sizeLine_eq]; decide
  have hname:(["__module__","__name__","__qualname__","__doc__","__annotations__"]:List Str).contains (Str.ofString "keys")=false:=by decide
  unfold getAttr? getAttrBy? getAttrBy
  repeat (any_goals (first | assumption | exact hT _ | ((with_reducible show wpAny _ _ (call (Value.builtin "tuple.__getattribute__") _ _) _ _ _); refine call_meets F.slot_tuple_getattribute (hT _) am_entry_tuple_getattribute (F.args_tuple_getattribute_2 _ _) (meets_getattribute_miss_tuple a xs k sl (Str.ofString "keys") _ zaZ4 hname hsz) ⟨hx,hA,fun h' tk' e hx'=>?_⟩) | wp_step))
  obtain ⟨t',u',he⟩:=hx'.there
  show wpAny _ _ (getattributeRaised _ _ _ _ _ _ _) _ _ _
  unfold getattributeRaised
  repeat (any_goals (first | assumption | wp_step))
  exact h h' tk' hx'.keeps
end
section
variable {prog:Program} {w:World} {κ:Type} [DecidableEq κ] {knd:KeyKind prog w κ} {A:Around} {E:Value→Shared→Prop} {s:Shared}
def zah6 (knd:KeyKind prog w κ) (h:Heap):List Value→List (κ×Value)→Prop
  | [],[]=>True
  | x :: xs,(k,v) :: r=>(∃ b key,x=.ref b∧h.IsTuple b #[key,v]∧knd.is k key=true)∧zah6 knd h xs r
  | _,_=>False
def zat1 (acc:List (κ×Value)) (r:List (κ×Value)):List (κ×Value):=r.foldl (fun acc kv=>stored acc kv.1 kv.2) acc
theorem zay5 (acc:List (κ×Value)) (k:κ) (v:Value):(stored acc k v).length≤acc.length + 1:=by
  unfold stored
  split
  · simp
  · simp
theorem zaj8 {R:Result→Shared→Prop} {hb:Heap} {d it tq:Addr} {items:Array Value} (hh:A.handled=none) (hd:hb.get? d=none) (hi:hb.get? it=none) (hne:d≠it) (ht:hb.IsTuple tq items) :
    ∀ (rest:List (κ×Value)) (i:Nat) (s:Shared) (acc:List (κ×Value)) (tk0:Tok),(∀ b o,hb.get? b=some o→s.heap.get? b=some o)→s.heap.IsTupleIter it tq i→s.heap.DictOf knd d acc→zah6 knd hb (items.toList.drop i) rest→acc.length + rest.length≤sizeLine →
    (∀ h' tk,(∀ b o,hb.get? b=some o→h'.get? b=some o)→h'.DictOf knd d (zat1 acc rest)→R (.ok (.ret .none)) { s with heap:=h',toks:=tk }) →
    codeAny (model prog w) A (.builtin "dict.update.loop" ⟨[.ref d,.ref it,.int i tk0,.none],[]⟩) R s
  | [],i,s,acc,tk0,keeps,hit,hdo,hp,hsz,hR=>by
    have hx:items[i]?=none:=by
      cases e:items.toList.drop i with
      | nil =>
        have:=List.drop_eq_nil_iff.mp e
        rw [Array.getElem?_eq_none_iff]
        simpa using this
      | cons x xs=>rw [e] at hp; exact hp.elim
    have ht':s.heap.IsTuple tq items:=by
      obtain ⟨o,ho,r⟩:=ht
      exact ⟨o,keeps _ _ ho,r⟩
    refine codeAny_builtin zat5 ?_
    rw [Around.under_plainId zV6 _]
    show wpAny _ A.in1 (pyNext (.ref it)>>=_) _ _ s
    refine wpAny_bind (wpAny_pyNext_tuple_end hh hit ht' hx fun h' hs=>?_)
    show wpAny _ A.in1 (Builtin.Dict.addKeywords d []>>=_) _ _ _
    refine wpAny_bind (wpAny_pure (wpAny_pure ?_))
    refine hR h' s.toks (fun b o e=>hs b o (fun q=>by rw [q,hi] at e; cases e) (keeps b o e)) (hdo.extBut hs hne)
  | (k,v) :: rest,i,s,acc,tk0,keeps,hit,hdo,hp,hsz,hR=>by
    cases e:items.toList.drop i with
    | nil=>rw [e] at hp; exact hp.elim
    | cons x xs =>
      rw [e] at hp
      obtain ⟨⟨b,key,rfl,hb2,hk⟩,hp2⟩:=hp
      have hx:items[i]?=some (.ref b):=by
        have:=congrArg List.head? e
        rw [List.head?_drop] at this
        simpa using this
      have e2:items.toList.drop (i + 1)=xs:=by
        have:=congrArg List.tail e
        rw [List.tail_drop] at this
        simpa using this
      have ht':s.heap.IsTuple tq items:=by
        obtain ⟨o,ho,r⟩:=ht
        exact ⟨o,keeps _ _ ho,r⟩
      refine codeAny_builtin zat5 ?_
      rw [Around.under_plainId zV6 _]
      show wpAny _ A.in1 (pyNext (.ref it)>>=_) _ _ s
      refine wpAny_bind (wpAny_pyNext_tuple_item hit ht' hx fun h1 hit1 hs1=>?_)
      have k1:∀ b o,hb.get? b=some o→h1.get? b=some o:=fun b o e=>hs1.extBut b o (fun q=>by rw [q,hi] at e; cases e) (keeps b o e)
      have ht1:({ s with heap:=h1 }:Shared).heap.IsTuple b #[key,v]:=by
        obtain ⟨o,ho,r⟩:=hb2
        exact ⟨o,k1 _ _ ho,r⟩
      have hdo1:({ s with heap:=h1 }:Shared).heap.DictOf knd d acc:=hdo.sameBut hs1 hne
      obtain ⟨o,ho,hoc,no,hod⟩:=id ht1
      refine wpAny_bind (wpAny_holding (wpAny_bind (wpAny_tryCatch ?_)))
      unfold Builtin.Dict.pairItems
      refine wpAny_bind (wpAny_typeOf ht1.typeIs ?_)
      rw [if_pos (by decide)]
      refine wpAny_bind (wpAny_seqItems ho hod (wpAny_pure ?_))
      show wpAny _ A.in1 (holding [key,v] (dictSet d key v)) _ _ _
      refine wpAny_holding (wpAny_dictSet_pairs (hsz:=by simp at hsz; omega) hk hdo1 fun h2 hdo2 hs2=>?_)
      refine wpAny_pure ⟨plainId_quiet zV6 _,?_⟩
      have ih:=zaj8 (R:=R) hh hd hi hne ht rest (i + 1) { s with heap:=h2,toks:=s.toks + 1 } (stored acc k v) 0
        (fun b o e=>hs2.extBut b o (fun q=>by rw [q,hd] at e; cases e) (k1 b o e)) (hit1.extBut hs2.extBut (Ne.symm hne)) hdo2 (by rw [e2]; exact hp2)
        (by have:=zay5 acc k v; simp at hsz; omega) (fun h' tk q1 q2=>hR h' tk q1 q2)
      exact ih
theorem zZ5 {Q:Value→Shared→Prop} {tq:Addr} {o:Obj} {items:Array Value} {n:Nat} {kvs:List (κ×Value)} (hh:A.handled=none) (ho:s.heap.get? tq=some o) (hc:o.cls=.type "tuple") (hdn:o.dict=none) (hdat:o.data=.seq items n)
    (hp:zah6 knd s.heap items.toList kvs) (hsz:kvs.length≤sizeLine)
    (hQ:∀ h' tk,(∀ b o,s.heap.get? b=some o→h'.get? b=some o)→h'.DictOf knd s.heap.objs.size (zat1 [] kvs)→Q (.ref s.heap.objs.size) { s with heap:=h',toks:=tk }) :
    wpAny (model prog w) A (call (.type "dict") [.ref tq]) Q E s:=by
  refine callType_codes (Q₁:=fun obj s₁=>obj=.ref s.heap.objs.size∧s₁={ s with heap:=s.heap.push { cls:=.type "dict",data:=.dict #[] } }) F.kt_called_dict (F.kt_typeCall_dict_1 _) F.entry_dict_init (kt_code_dict_new _ ⟨rfl,rfl⟩) ?_
  rintro obj s₁ ⟨rfl,rfl⟩
  have hnew:(s.heap.push { cls:=.type "dict",data:=.dict #[] }).DictOf knd s.heap.objs.size []:=Heap.DictOf.new s.heap
  refine ⟨hnew.typeIs,F.args_dict_init_2 _ _,?_⟩
  unfold Builtin.«dict.__init__»
  refine wpAny_bind ?_
  unfold Builtin.Dict.selfAndRest
  refine wpAny_bind (wpAny_notOrdered_dict hnew.typeIs ?_)
  show wpAny _ _ (pure (s.heap.objs.size,[Value.ref tq])) _ _ _
  refine wpAny_pure ?_
  show wpAny _ _ (Builtin.Dict.updateFrom "dict.__init__" s.heap.objs.size (.ref tq) [] .none) _ _ _
  unfold Builtin.Dict.updateFrom
  have ho1:(s.heap.push { cls:=.type "dict",data:=.dict #[] }).get? tq=some o:=Heap.get?_push_of_some _ ho
  refine wpAny_bind (wpAny_typeOf (T:="tuple") ⟨_,ho1,hc⟩ ?_)
  rw [if_pos (by decide)]
  refine wpAny_bind (zaD9 ho1 hc hdat hdn hh fun h1 tk1 k1=>?_)
  rw [if_pos (show (none:Option Value).isNone=true from rfl)]
  have g0:s.heap.get? s.heap.objs.size=none:=by
    cases e:s.heap.get? s.heap.objs.size with
    | none=>rfl
    | some ob=>exact absurd (Heap.lt_size e) (Nat.lt_irrefl _)
  have g1:s.heap.get? h1.objs.size=none:=by
    cases e:s.heap.get? h1.objs.size with
    | none=>rfl
    | some ob=>exact absurd (Heap.lt_size (k1 _ _ (Heap.get?_push_of_some _ e))) (Nat.lt_irrefl _)
  have hd1:h1.DictOf knd s.heap.objs.size []:=by
    obtain ⟨ob,es,ep,q,r⟩:=hnew
    exact ⟨ob,es,ep,k1 _ _ q,r⟩
  have hne:s.heap.objs.size≠h1.objs.size:=by
    obtain ⟨ob,es,ep,q,r⟩:=hd1
    exact Nat.ne_of_lt (Heap.lt_size q)
  have ht:s.heap.IsTuple tq items:=⟨o,ho,hc,n,hdat⟩
  refine wpAny_bind (wpAny_rule (wpAny_bind (wpAny_pyIter_tuple (t:=tq) (items:=items) ⟨o,k1 _ _ ho1,hc,n,hdat⟩ ?_)))
  refine wpAny_pure ⟨plainId_quiet zV6 _,?_⟩
  refine zaj8 (A:=A.in1) (knd:=knd) (hb:=s.heap) (show A.in1.handled=none from hh) g0 g1 hne ht kvs 0 { s with heap:=h1.push { cls:=.type "tuple_iterator",data:=.fields #[.ref tq,.int 0 0] },toks:=tk1 } [] 0 (fun b ob e=>Heap.get?_push_of_some _ (k1 _ _ (Heap.get?_push_of_some _ e))) ⟨_,Heap.get?_push_size _ rfl,rfl,rfl⟩ (hd1.push _) (by simpa using hp) (by simpa using hsz) fun h' tk q1 q2=>?_
  exact ⟨rfl,hQ h' tk q1 q2⟩
end
end DL
set_option Elab.async false
set_option linter.all false
set_option maxRecDepth 100000
set_option maxHeartbeats 4000000
namespace DL
open PySem PySem.Spec PyProof.Rows L2
@[simp] def zaL1:List D→Option (List Key)
  | []=>some []
  | x :: xs=>match keyD x,zaL1 xs with
    | some k,some ks=>some (k :: ks)
    | _,_=>none
theorem RDs.keys {K:PySem.W.Frag} {Z:Addr→Prop} {m:Mu} {H:Hp}:∀ {xs:List D} {vs:List V} {ks:List Key},RDs K Z m H xs vs→zaL1 xs=some ks→vs=ks.map kV
  | [],vs,ks,h,e=>by
    cases e
    exact h
  | x :: xs,vs,ks,h,e=>by
    obtain ⟨v,r,rfl,h1,h2⟩:=h
    unfold zaL1 at e
    cases e1:keyD x with
    | none=>rw [e1] at e; cases e
    | some k =>
      cases e2:zaL1 xs with
      | none=>rw [e1,e2] at e; cases e
      | some ks' =>
        rw [e1,e2] at e
        cases e
        rw [h1.key e1,RDs.keys h2 e2]
        rfl
section
variable {X:Cx} {o i e:Expr} {es:List Expr} {fo f:DE} {fa:DA} {pos tpos ipos:Pos} {j:Nat}
end
end DL
set_option Elab.async false
set_option linter.all false
set_option maxRecDepth 100000
set_option maxHeartbeats 4000000
namespace DL
open PySem PySem.Spec PyProof.Rows L2
def keyP:Key→PyData
  | .inl i=>.int i
  | .inr z=>.str z
theorem Inv.noD {X:Cx} {pins:List (Addr×Obj)} {σ:L2.St} {H:Hp} {s:Shared} {a:Addr} {xs:List V} (I:Inv X pins σ H s) (h:SqT X.K H a xs):NoD s.heap a:=by
  rcases h with h | ⟨o,its,n,hk,hc,hs,hz,r⟩
  · obtain ⟨z,its,r,p⟩:=h.ok I.hok
    exact z.2
  · exact ⟨o,I.kIn a o hk,hc.2⟩
theorem zau5 {X:Cx} {pins:List (Addr×Obj)} {σ:L2.St} {H:Hp} {s:Shared} {Z:Addr→Prop} {m:Mu} (I:Inv X pins σ H s):∀ {kvs:List (Key×PyData)} {vs:List V} {us:List Value},RPs X.K Z m H (kvs.map fun kv=>PyData.tuple [keyP kv.1,kv.2]) vs→Vals vs us →
    ∃ ws:List (Key×V),∃ xs:List (Key×Value),RKV X.K Z m H kvs ws∧KV ws xs∧zah6 (zg6 X.prog X.w) s.heap us xs∧xs.length=kvs.length
  | [],vs,us,h,r=>by
    simp only [List.map_nil,RPs] at h
    subst h
    cases r
    exact ⟨[],[],rfl,.nil,trivial,rfl⟩
  | (k,p) :: kvs,vs,us,h,r=>by
    simp only [List.map_cons,RPs] at h
    obtain ⟨v,vs',rfl,h1,h2⟩:=h
    cases r with
    | cons r1 r2 =>
      obtain ⟨ws,xs,q1,q2,q3,q4⟩:=zau5 I h2 r2
      simp only [RP] at h1
      obtain ⟨a,ps,rfl,hs,hp⟩:=h1
      obtain ⟨its,rv,it,_⟩:=I.tuple hs
      simp only [RPs] at hp
      obtain ⟨v1,r',rfl,g1,v2,r'',rfl,g2,rfl⟩:=hp
      cases rv with
      | cons w1 rv =>
        cases rv with
        | cons w2 rv =>
          cases rv
          have ev:v1=kV k:=by
            cases k with
            | inl i =>
              simp only [keyP,RP] at g1
              exact g1
            | inr z =>
              simp only [keyP,RP] at g1
              exact g1
          subst ev
          refine ⟨(k,v2) :: ws,(k,_) :: xs,⟨_,_,rfl,g2,q1⟩,.cons ⟨rfl,w2⟩ q2,⟨⟨a,_,r1,it,zaL6 w1⟩,q3⟩,by simp [q4]⟩
def zar6 (acc:List (Key×PyData)) (r:List (Key×PyData)):List (Key×PyData):=r.foldl (fun acc kv=>putP acc kv.1 kv.2) acc
def zax8 (acc:List (Key×V)) (r:List (Key×V)):List (Key×V):=r.foldl (fun acc kv=>putK acc kv.1 kv.2) acc
theorem RKV.puts {K:PySem.W.Frag} {Z:Addr→Prop} {m:Mu} {H:Hp}:∀ {r:List (Key×PyData)} {ws:List (Key×V)} {acc:List (Key×PyData)} {aw:List (Key×V)},RKV K Z m H acc aw→RKV K Z m H r ws→RKV K Z m H (zar6 acc r) (zax8 aw ws)
  | [],ws,acc,aw,ha,hr=>by
    cases (show ws=[] from hr)
    exact ha
  | (k,p) :: r,vs,acc,aw,ha,h=>by
    obtain ⟨v,ws,rfl,h1,h2⟩:=h
    exact RKV.puts (r:=r) (ws:=ws) (acc:=putP acc k p) (aw:=putK aw k v) (ha.put h1) h2
theorem KV.puts {ws:List (Key×V)} {xs:List (Key×Value)} (t:KV ws xs):∀ {aw:List (Key×V)} {ax:List (Key×Value)},KV aw ax→KV (zax8 aw ws) (zat1 ax xs):=by
  unfold KV at t
  induction t with
  | nil=>exact fun ha=>ha
  | @cons p q ps qs h t ih =>
    intro aw ax ha
    obtain ⟨e,h⟩:=h
    have:=ih (KV.put ha p.1 h)
    show KV (zax8 (putK aw p.1 p.2) ps) (zat1 (stored ax q.1 q.2) qs)
    rw [← e]
    exact this
theorem zat7:∀ (r acc:List (Key×PyData)),(zar6 acc r).length≤acc.length + r.length
  | [],acc=>by simp [zar6]
  | kv :: r,acc=>by
    have:=zat7 r (putP acc kv.1 kv.2)
    have h2:(putP acc kv.1 kv.2).length≤acc.length + 1:=by
      unfold putP
      split
      · rw [List.length_map]; omega
      · simp
    unfold zar6 at *
    simp only [List.foldl_cons,List.length_cons]
    omega
section
variable {X:Cx} {e:Expr} {f:DE} {pos p:Pos}
@[simp] def zaH9 (f:DE):DE:=fun d m Q=>f d m fun x m1=>∃ kvs:List (Key×PyData),x=.dat (.tuple (kvs.map fun kv=>.tuple [keyP kv.1,kv.2]))∧kvs.length≤sizeLine∧∀ a,m1 a=none→Q (.cel a) (updM m1 a (.d (zar6 [] kvs)))
theorem zaK9 (hc:X.calm=true) (hg:Gl X "dict") (hm:X.mg "dict"=none) (he:PE X e (LE X.K f)) (hs:starEach [e] X.env=[(false,eval e X.env)]:=by rfl):PE X (.Call (.Name "dict" p) [e] [] pos) (LE X.K (zaH9 f)):=by
  intro pins s σ H Q I h
  obtain ⟨Z,d,m,R,ok,rs,h,k⟩:=h
  have hA:=zD4 (X:=X) he zab0 (by rw [hs]; rfl) pos pins s σ H (fun vs H1=>∃ (v:V) (kvs:List (Key×PyData)) (m1:Mu),vs=[v]∧RD X.K Z m1 H1 (.dat (.tuple (kvs.map fun kv=>.tuple [keyP kv.1,kv.2]))) v∧kvs.length≤sizeLine∧(∀ a,m1 a=none→R (.cel a) (updM m1 a (.d (zar6 [] kvs))))∧Ext X.K Z m H m1 H1∧Ok X.K Z m1 H1) I ⟨Z,d,m,_,ok,rs,h,fun x m1 v H1 ⟨kvs,ex,hn,q⟩ e1 ok1 rd=>by
    subst ex
    exact ⟨v,kvs,m1,rfl,rd,hn,q,e1,ok1⟩⟩
  refine Call_ (zQ8 I hg hm boot_dict (PyProof.Rows.callWith_type1 (thn hA fun us s1 ⟨vs,H1,I1,r1,q1⟩=>?_) hs rfl))
  obtain ⟨v,kvs,m1,ev,rd,hn,q,e1,ok1⟩:=q1
  subst ev
  simp only [RD,RP] at rd
  obtain ⟨a,ps,rfl,hsq,hp⟩:=rd
  obtain ⟨u,rfl,hu⟩:=zN6 r1
  cases (show u=Value.ref a from hu)
  obtain ⟨its,rv,⟨o,ho,hoc,n,hod⟩,_⟩:=I1.tuple hsq
  obtain ⟨o',ho',hdn⟩:=Inv.noD I1 hsq
  rw [ho] at ho'
  cases ho'
  obtain ⟨ws,xs,q1,q2,q3,q4⟩:=zau5 (Z:=Z) (m:=m1) I1 hp rv
  have hp0:H1 s1.heap.objs.size=none:=I1.hok.fresh (Nat.le_refl _)
  have hk0:X.K.lookup s1.heap.objs.size=none:=by
    cases e:X.K.lookup s1.heap.objs.size with
    | none=>rfl
    | some o=>exact absurd (Heap.lt_size (I1.kIn _ o e)) (Nat.lt_irrefl _)
  refine zZ5 (knd:=zg6 X.prog X.w) (I1.ok.hd hc) ho hoc hdn hod (by simpa using q3) (by rw [q4]; exact hn) fun h' tk kp dd=>?_
  have rk:RKV X.K Z m1 H1 (zar6 [] kvs) (zax8 [] ws):=RKV.puts (show RKV _ _ _ _ _ _ from rfl) q1
  have ob:ObjOk X.prog X.w (upd H1 s1.heap.objs.size (.dK (zax8 [] ws))) h' s1.heap.objs.size (.dK (zax8 [] ws)):=by
    refine ⟨?_,beq_eq_false_iff_ne.mpr (Ne.symm (Nat.ne_of_lt I1.big)),_,KV.puts q2 .nil,dd⟩
    rw [rk.length]
    exact Nat.le_trans (zat7 kvs []) (by simpa using hn)
  exact ⟨.ref s1.heap.objs.size,_,I1.laid (t':=tk) kp (Nat.le_refl _) ob,rfl,k _ _ _ _ (q _ (zF8 ok1 hp0).1) (e1.trans (Ext.cell ok1 hp0 hk0)) (ok1.cell hp0 hk0 (show RKV _ _ _ _ _ _ from rk)) ⟨rfl,by rw [zd0]; rfl⟩⟩
end
end DL
set_option Elab.async false
set_option linter.all false
set_option maxRecDepth 100000
set_option maxHeartbeats 4000000
namespace DL
open PySem PySem.Spec PyProof.Rows L2
def KTEnt (K:PySem.W.Frag) (w:World):List DictEntry→List (List Str×Addr×V)→Prop
  | [],[]=>True
  | e :: es,(zs,a,v) :: xs=>e.hash=reduceHash (Builtin.Tuple.tupleHashOf (zs.map (PyData.keyHash w.params)))∧e.key=.ref a∧RelV v e.val∧KT K a zs∧KTEnt K w es xs
  | _,_=>False
def KTDt (K:PySem.W.Frag) (w:World) (c:Addr) (xs:List (List Str×Addr×V)):Prop :=
  ∃ (o:Obj) (es:Array DictEntry) (ep:Nat),K.lookup c=some o∧o.cls=.type "dict"∧o.dict=none∧o.slots=#[]∧o.data=.dict es ep∧KTEnt K w es.toList xs∧(xs.map (·.1)).Nodup∧(c == sysModules)=false
def KTD (K:PySem.W.Frag) (w:World) (c:Addr) (kvs:List (List Str×PyData)):Prop:=∃ xs:List (List Str×Addr×V),KTDt K w c xs∧∀ (Z:Addr→Prop) (m:Mu) (H:Hp),RKV K Z m H kvs (xs.map fun x=>(x.1,x.2.2))
theorem zaW5 (zs:List Str):(zs.map (Sum.inr:Str→Key)).map kV=zs.map V.str:=by
  rw [List.map_map]
  rfl
section
variable {X:Cx} {pins:List (Addr×Obj)} {σ:L2.St} {H:Hp} {s:Shared}
theorem zaS1 {a:Addr} {zs:List Str} (I:Inv X pins σ H s) (h:SqT X.K H a (zs.map V.str)):(tupleKind (zg6 X.prog X.w)).is s.heap (zs.map Sum.inr) a:=by
  obtain ⟨its,r,⟨o,h1,h2,n,h3⟩,_⟩:=I.tuple h
  rw [← zaW5] at r
  exact ⟨o,its.toArray,n,h1,h2,h3,by simpa using zab2 r⟩
theorem KTEnt.out (I:Inv X pins σ H s):∀ {es:List DictEntry} {xs:List (List Str×Addr×V)},KTEnt X.K X.w es xs→∃ ys:List (List Key×Addr×Value),es=ys.map (entryOfKey (tupleKind (zg6 X.prog X.w)))∧(∀ y∈ys,(tupleKind (zg6 X.prog X.w)).is s.heap y.1 y.2.1)∧ys.map (·.1)=xs.map (fun x=>x.1.map Sum.inr) ∧
    ∀ zs:List Str,RelO (valV (xs.map fun x=>(x.1,x.2.2)) zs) ((atKey ys (zs.map Sum.inr)).map (·.2))
  | [],[],_=>⟨[],rfl,by simp,rfl,fun _=>True.intro⟩
  | e :: es,(zs,a,v) :: xs,⟨h1,h2,h3,h4,h5⟩=>by
    obtain ⟨ys,q1,q2,q3,q4⟩:=KTEnt.out I h5
    refine ⟨(zs.map Sum.inr,a,e.val) :: ys,?_,fun y hy=>?_,by simp [q3],fun z=>?_⟩
    · rw [List.map_cons,← q1]
      congr 1
      obtain ⟨eh,ek,ev⟩:=e
      simp only at h1 h2
      subst h1 h2
      unfold entryOfKey
      congr 1
      show _=reduceHash (Builtin.Tuple.tupleHashOf ((zs.map Sum.inr).map (zg6 X.prog X.w).hash))
      rw [List.map_map]
      rfl
    · rcases List.mem_cons.mp hy with rfl | hy
      · exact zaS1 I h4.sq
      · exact q2 y hy
    · by_cases c:zs=z
      · subst c
        unfold valV atKey
        simp only [List.map_cons,List.find?_cons,decide_true,Option.map_some]
        exact h3
      · have c':¬ zs.map (Sum.inr:Str→Key)=z.map Sum.inr:=fun h=>c ((List.map_inj_right (fun _ _ q=>Sum.inr.inj q)).mp h)
        have:=q4 z
        unfold valV atKey at this ⊢
        simp only [List.map_cons,List.find?_cons,decide_eq_false c,decide_eq_false c']
        exact this
  | [],_ :: _,h=>h.elim
  | _ :: _,[],h=>h.elim
theorem KTDt.out {c:Addr} {xs:List (List Str×Addr×V)} (I:Inv X pins σ H s) (q:KTDt X.K X.w c xs):(c == sysModules)=false∧∃ ys:List (List Key×Addr×Value),s.heap.DictOfH (tupleKind (zg6 X.prog X.w)) c ys ∧
    ∀ zs:List Str,RelO (valV (xs.map fun x=>(x.1,x.2.2)) zs) ((atKey ys (zs.map Sum.inr)).map (·.2)):=by
  obtain ⟨o,es,ep,h1,h2,h3,h4,h5,h6,h7,h8⟩:=q
  obtain ⟨ys,q1,q2,q3,q4⟩:=KTEnt.out I h6
  refine ⟨h8,ys,⟨o,es,ep,I.kIn _ _ h1,⟨h2,h3,h4⟩,h5,q1,q2,?_⟩,q4⟩
  rw [q3]
  have e:xs.map (fun x=>x.1.map (Sum.inr:Str→Key))=(xs.map (·.1)).map (fun z=>z.map Sum.inr):=by simp
  rw [e]
  exact List.Pairwise.map _ (fun a b hab h=>hab ((List.map_inj_right (fun _ _ q=>Sum.inr.inj q)).mp h)) h7
end
theorem KT.rp {K:PySem.W.Frag} {a:Addr} {zs:List Str} {Z:Addr→Prop} {m:Mu} {H:Hp} (h:KT K a zs):RP K Z m H (.tuple (zs.map PyData.str)) (.ref a):=by
  simp only [RP]
  exact ⟨a,_,rfl,h.sq,zV1 zs⟩
section
variable {X:Cx} {e g:Expr} {fi fg:DE} {p apos cpos:Pos}
@[simp] def zaj1 (kvs:List (List Str×PyData)) (fi fg:DE):DE:=fun d m Q=>fi d m fun y m1=>∃ zs:List Str,y=.dat (.tuple (zs.map .str))∧fg d m1 fun x m2=>Q (match valP kvs zs with | some q=>.dat q | none=>x) m2
theorem zaB4 {x:Str} {c:Addr} {kvs:List (List Str×PyData)} (hu:X.A.units + 100 < cLine) (hg:Gl X x) (hm:X.mg x=some (.ref c)) (hk:KTD X.K X.w c kvs) (he:PE X e (LE X.K fi)) (hf:PE X g (LE X.K fg)) (hd:(x == ("__debug__" : Str))=false:=by decide)
    (hbase:attributeBase (.Name x p) "get" X.env (eval (.Name x p) X.env)=eval (.Name x p) X.env:=by rfl)
    (hfew:((backTo cpos (starEach [e,g] X.env)).all (fun x=>!x.1) && (backToKw cpos (keywordEach [] X.env)).all (fun x=>x.1.isSome) && decide (([e,g]:List Expr).length + ([]:List Keyword).length + (if ([]:List Keyword).isEmpty then 0 else 1) < 30))=true:=by rfl)
    (hline:(apos.endLine == cpos.line)=true:=by rfl) (hs:backTo cpos (starEach [e,g] X.env)=[(false,eval e X.env),(false,eval g X.env)]:=by rfl) :
    PE X (.Call (.Attribute (.Name x p) "get" apos) [e,g] [] cpos) (LE X.K (zaj1 kvs fi fg)):=by
  intro pins s σ H Q I h
  obtain ⟨Z,d,m,R,ok,rs,h,k⟩:=h
  obtain ⟨xs,kd,rk⟩:=hk
  refine wpAny_Call_method hbase hfew hline PySem.F.plainAttrs_dict PySem.F.slot_dict_get PySem.F.type_dict_get (thn (zas3 (v:=.ref c) hg hm rfl hd pins s σ H (fun x H1=>x=.ref c∧H1=H) I ⟨rfl,rfl⟩) fun u s1 ⟨x,H1,I1,rx,ex,eH⟩=>?_)
  subst ex; subst eH
  obtain rfl:u=Value.ref c:=rx
  obtain ⟨_,ws1,dd1,_⟩:=kd.out I1
  refine ⟨dd1.typeIs,fun b q=>?_,?_⟩
  · cases q
    obtain ⟨ob,_,_,h1,h2,_⟩:=dd1
    exact ⟨ob,h1,h2.2.1⟩
  rw [hs]
  refine Calls.callWith_builtin rfl (Calls.evalArgs_plain (Calls.spliced_cons (thn (he pins s1 σ _ (fun v H2=>∃ (zs:List Str) (b:Addr),v=.ref b∧LE X.K fg σ H2 fun v2 H3=>SqT X.K H3 b (zs.map V.str)∧Q ((valV (xs.map fun x=>(x.1,x.2.2)) zs).getD v2) H3) I1 ⟨Z,d,m,_,ok,rs,h,fun y m1 v H1 ⟨zs,ey,hq⟩ e1 ok1 r1=>?_⟩) fun iv s2 ⟨y,H2,I2,ry,zs,b,ey,q2⟩ =>
    Calls.spliced_cons (thn (hf pins s2 σ H2 _ I2 q2) fun fv s3 ⟨v2,H3,I3,rz,sq,q3⟩=>Calls.spliced_nil ?_))))
  · subst ey
    have r1':=r1
    simp only [RD,RP] at r1'
    obtain ⟨b,vs,rfl,_,_⟩:=r1'
    refine ⟨zs,b,rfl,Z,d,m1,_,ok1,rs.ext e1,hq,fun x m2 v2 H2 hq2 e2 ok2 r2=>⟨?_,?_⟩⟩
    · have r3:=r1.ext e2
      simp only [RD,RP] at r3
      obtain ⟨b',vs',e',h1,h2⟩:=r3
      cases e'
      cases zs1 h2
      exact h1
    · cases hv:valP kvs zs with
      | none =>
        rw [hv] at hq2
        rw [(rk Z m2 H2).val_none hv]
        exact k _ m2 _ H2 hq2 (e1.trans e2) ok2 r2
      | some q =>
        rw [hv] at hq2
        obtain ⟨w,hw,rw'⟩:=(rk Z m2 H2).val hv
        rw [hw]
        exact k _ m2 _ H2 hq2 (e1.trans e2) ok2 rw'
  · subst ey
    cases (show iv=Value.ref b from ry)
    obtain ⟨sy,ys,dd,rel⟩:=kd.out I3
    exact call_meetsIn PySem.F.slot_dict_get dd.typeIs PySem.F.entry_dict_get (PySem.F.args_dict_get_3 _ _ _) (meetsH_dict_get_default (tupleKind (zg6 X.prog X.w)) c b sy fv) ⟨tupleKind_room_in1 (by omega),zs.map Sum.inr,ys,zaS1 I3 sq,dd,⟨_,H3,I3.tok _,(rel zs).getD rz,q3⟩⟩
end
end DL
set_option Elab.async false
set_option linter.all false
set_option maxRecDepth 100000
set_option maxHeartbeats 4000000
namespace DL
open PySem PySem.Spec PyProof.Rows L2
section
variable {X:Cx} {o e:Expr} {f g:DE} {apos cpos:Pos}
def zbk5 (K:PySem.W.Frag):V→List V→Hp→VK→Prop:=fun x xs H Q=>∃ (a:Addr) (y:Str) (zs:List Str),x=.ref a∧xs=[.str y]∧SqL K H a (zs.map V.str)∧y∈zs∧Q (.int (zs.idxOf y:Nat)) H
theorem zaY0:MtR X "list.index" (zbk5 X.K):=by
  intro pins s σ H x xs v us Q I rx rs ⟨a,y,zs,e1,e2,hq,hk,q⟩
  subst e1 e2
  cases rx
  obtain ⟨u,rfl,ru⟩:=zN6 rs
  obtain ⟨tk,rfl⟩:=id ru
  obtain ⟨its,rv,p,hz⟩:=I.list hq
  have hl:=rv.length
  rw [List.length_map] at hl hz
  have hj:zs.idxOf y < zs.length:=List.idxOf_lt_length_iff.mpr hk
  have hsz:(zs.length:Int)≤1000000000:=by
    rw [sizeLine_eq] at hz
    omega
  have hit:∀ m (hm:m < its.toArray.size) (hm2:m < zs.length),eqU (.str y) its.toArray[m]=(zs[m] == y):=fun m hm hm2=>by
    obtain ⟨t,e⟩:=zZ6 rv m (by simpa using hm) hm2
    have e':its.toArray[m]=.str zs[m] t:=by simpa using e
    rw [e']
    rfl
  have hfl:(zs.map V.str).all zR0=true:=by
    rw [List.all_eq_true]
    intro v hv
    obtain ⟨z,_,rfl⟩:=List.mem_map.mp hv
    rfl
  obtain ⟨⟨cl,dd,dt,sl⟩,n,p1,p2,p3,p4⟩:=id p
  simp only at p2 p4
  subst p2 p4
  refine call_meets PySem.F.slot_list_index p.isList.typeIs PySem.F.entry_list_index (PySem.F.args_list_index_2 _ _) (SeqAt.list_indexAt a its.toArray n dd sl (.str y tk) (eqU (.str y)) (zs.idxOf y) (by rw [List.size_toArray]; omega) (by omega) ?_ ?_) ⟨p1,?_,?_⟩
  · rw [hit _ _ hj,List.getElem_idxOf hj]
    simp
  · intro m hm hlt
    have hm2:m < zs.length:=by omega
    rw [hit m hm hm2]
    simp only [beq_eq_false_iff_ne]
    exact zaA6 _ _ hm2 hlt
  · exact fun w hw=>zP1 (x:=.str y) ⟨tk,rfl⟩ rfl rv hfl w (by simpa using hw)
  · exact ⟨.int _,H,I.tok _,⟨_,rfl⟩,q⟩
def SqX (t:Bool) (K:PySem.W.Frag) (H:Hp) (a:Addr) (zs:List Str):Prop:=if t then SqT K H a (zs.map V.str) else SqL K H a (zs.map V.str)
@[simp] def zaW2 (f g:DE):DE:=fun d m Q=>f d m fun x m1=>∃ zs:List Str,(x=.dat (.tuple (zs.map .str))∨x=.dat (.list (zs.map .str)))∧g d m1 fun y m2=>∃ z:Str,y=.dat (.str z)∧z∈zs∧Q (.dat (.int (zs.idxOf z:Nat))) m2
theorem zaV3 (ho:PE X o (LE X.K f)) (he:PE X e (LE X.K g)) (hbase:attributeBase o "index" X.env (eval o X.env)=eval o X.env:=by rfl)
    (hfew:((backTo cpos (starEach [e] X.env)).all (fun x=>!x.1) && (backToKw cpos (keywordEach [] X.env)).all (fun x=>x.1.isSome) && decide ([e].length + ([]:List Keyword).length + (if ([]:List Keyword).isEmpty then 0 else 1) < 30))=true:=by rfl)
    (hline:(apos.endLine == cpos.line)=true:=by rfl) (hs:backTo cpos (starEach [e] X.env)=[(false,eval e X.env)]:=by rfl):PE X (.Call (.Attribute o "index" apos) [e] [] cpos) (LE X.K (zaW2 f g)):=by
  intro pins s σ H Q I h
  obtain ⟨Z,d,m,R,ok,rs,h,k⟩:=h
  refine wpAny_Call_method_late hbase hfew hline rfl (thn (ho pins s σ H (fun v H1=>∃ (t:Bool) (a:Addr) (zs:List Str),v=.ref a∧SqX t X.K H1 a zs∧LE X.K g σ H1 fun v2 H2=>∃ z:Str,v2=.str z∧z∈zs∧SqX t X.K H2 a zs∧Q (.int (zs.idxOf z:Nat)) H2) I ⟨Z,d,m,_,ok,rs,h,fun x m1 v H1 ⟨zs,ex,hq⟩ e1 ok1 r1=>?_⟩) fun v s1 ⟨x,H1,I1,rx,t,a,zs,ex,sq,q1⟩=>?_)
  · rcases ex with rfl | rfl
    · have r1':=r1
      simp only [RD,RP] at r1'
      obtain ⟨a,vs,rfl,h1,h2⟩:=r1'
      cases zs1 h2
      refine ⟨true,a,zs,rfl,h1,Z,d,m1,_,ok1,rs.ext e1,hq,fun y m2 v2 H2 ⟨z,ey,hz,q⟩ e2 ok2 r2=>?_⟩
      subst ey
      cases r2.str
      have r3:=r1.ext e2
      simp only [RD,RP] at r3
      obtain ⟨a',vs',e',h1',h2'⟩:=r3
      cases e'
      cases zs1 h2'
      exact ⟨z,rfl,hz,h1',k _ m2 _ H2 q (e1.trans e2) ok2 .ofInt⟩
    · have r1':=r1
      simp only [RD,RP] at r1'
      obtain ⟨a,vs,rfl,_,h1,h2⟩:=r1'
      cases zs1 h2
      refine ⟨false,a,zs,rfl,h1,Z,d,m1,_,ok1,rs.ext e1,hq,fun y m2 v2 H2 ⟨z,ey,hz,q⟩ e2 ok2 r2=>?_⟩
      subst ey
      cases r2.str
      have r3:=r1.ext e2
      simp only [RD,RP] at r3
      obtain ⟨a',vs',e',_,h1',h2'⟩:=r3
      cases e'
      cases zs1 h2'
      exact ⟨z,rfl,hz,h1',k _ m2 _ H2 q (e1.trans e2) ok2 .ofInt⟩
  · subst ex
    obtain rfl:v=Value.ref a:=rx
    cases t with
    | true =>
      obtain ⟨its,_,p,_⟩:=I1.tuple (show SqT _ _ _ _ from sq)
      refine ⟨"tuple","tuple.index",PySem.F.plainAttrs_tuple,PySem.F.slot_tuple_index,PySem.F.type_tuple_index,p.typeIs,fun b e=>by cases e; exact Inv.noD I1 (show SqT _ _ _ _ from sq),?_⟩
      rw [hs]
      refine Calls.callWith_builtin rfl (Calls.evalArgs_plain (Calls.spliced_cons (thn (he pins s1 σ H1 _ I1 q1) fun iv s2 ⟨v2,H2,I2,ry,z,ez,hz,sq2,q2⟩=>Calls.spliced_nil ?_)))
      subst ez
      exact zaU2 pins s2 σ H2 (.ref a) [.str z] _ [iv] Q I2 rfl (.cons ry .nil) ⟨a,z,zs,rfl,rfl,sq2,hz,q2⟩
    | false =>
      obtain ⟨its,_,p,_⟩:=I1.list (show SqL _ _ _ _ from sq)
      refine ⟨"list","list.index",PySem.F.plainAttrs_list,PySem.F.slot_list_index,PySem.F.type_list_index,p.isList.typeIs,fun b e=>by cases e; obtain ⟨ob,n,e,c,hd,_⟩:=p; exact ⟨ob,e,hd⟩,?_⟩
      rw [hs]
      refine Calls.callWith_builtin rfl (Calls.evalArgs_plain (Calls.spliced_cons (thn (he pins s1 σ H1 _ I1 q1) fun iv s2 ⟨v2,H2,I2,ry,z,ez,hz,sq2,q2⟩=>Calls.spliced_nil ?_)))
      subst ez
      exact zaY0 pins s2 σ H2 (.ref a) [.str z] _ [iv] Q I2 rfl (.cons ry .nil) ⟨a,z,zs,rfl,rfl,sq2,hz,q2⟩
end
end DL
set_option Elab.async false
set_option linter.all false
set_option maxRecDepth 100000
set_option maxHeartbeats 4000000
namespace DL
open PySem PySem.Spec PyProof.Rows L2
section
variable {X:Cx} {a:Expr} {f:DE} {pos p2:Pos}
theorem zaA8 {v:Value} {lo:Option Int} (h:IsPart v lo):∃ l:Option (Int×Tok),v=partValue l∧lo=l.map (·.1):=by
  cases h with
  | none=>exact ⟨none,rfl,rfl⟩
  | int i t=>exact ⟨some (i,t),rfl,rfl⟩
theorem zaa9 (z:Str) (lo hi:Option Int):(Txt.slice z lo hi).length≤z.length:=by
  unfold Txt.slice
  split
  · exact Nat.le_refl _
  · show ((Builtin.Str.strSliceIndices lo hi 1 z.length).filterMap (z.cps[·]?)).toArray.size≤z.length
    rw [List.size_toArray]
    exact Nat.le_trans (zaJ5 _ _) (sliceIndices_le lo hi z.length)
def rSlE:V→Option Int→Option Int→Hp→VK→Prop:=fun x lo hi H Q=>∃ z:Str,x=.str z∧z.length≤sizeLine∧Q (.str (Txt.slice z lo hi)) H
theorem zaX7:SlR X rSlE:=by
  intro pins s σ H x v vl vu lo hi sl Q I rx hs pl pu h
  obtain ⟨z,rfl,hz,q⟩:=h
  obtain ⟨t,rfl⟩:=rx
  obtain ⟨l,rfl,rfl⟩:=zaA8 pl
  obtain ⟨u,rfl,rfl⟩:=zaA8 pu
  refine ⟨"str",_,PySem.F.slot_str_getitem.lookup,typeIs_str s z t,?_⟩
  refine wpAny_getItem_str_slice (l:=l) (u:=u) (st:=none) hs rfl ?_
  have hl:=zaa9 z (l.map (·.1)) (u.map (·.1))
  unfold Txt.slice at q hl
  unfold sliceMade
  split
  · rename_i c
    have c2:((1:Int) == 1 && (Builtin.Str.strSliceIndices (l.map (·.1)) (u.map (·.1)) 1 z.length).length == z.length)=true:=c
    rw [if_pos c2] at q
    exact ⟨.str z,H,I,⟨_,rfl⟩,q⟩
  · rename_i c
    have c2:¬ ((1:Int) == 1 && (Builtin.Str.strSliceIndices (l.map (·.1)) (u.map (·.1)) 1 z.length).length == z.length)=true:=c
    rw [if_neg c2] at q hl
    exact ⟨Nat.le_trans hl hz,.str _,H,I.tok _,⟨_,rfl⟩,q⟩
@[simp] def dSlE (f:DE) (lo hi:DO):DE:=fun d m Q=>f d m fun x m1=>lo d m1 fun l m2=>hi d m2 fun u m3=>∃ z:Str,x=.dat (.str z)∧z.length≤sizeLine∧Q (.dat (.str (Txt.slice z l u))) m3
theorem zbj5 {lo hi:Option Expr} {tl th:DO} (ha:PE X a (LE X.K f)) (hl:PO X lo (LO X.K tl)) (hu:PO X hi (LO X.K th)):PE X (.Subscript a (.Slice lo hi none p2) pos) (LE X.K (dSlE f tl th)) :=
  PE.imp (zaw3 zaX7 ha hl hu) fun s H Q h=>by
    obtain ⟨Z,d,m,R,ok,rs,h,k⟩:=h
    refine ⟨Z,d,m,_,ok,rs,h,fun x m1 v H1 q e1 ok1 rx=>⟨Z,d,m1,_,ok1,rs.ext e1,q,fun l m2 H2 q2 e2 ok2=>⟨Z,d,m2,_,ok2,(rs.ext e1).ext e2,q2,fun u m3 H3 q3 e3 ok3=>?_⟩⟩⟩
    obtain ⟨z,rfl,hz,q4⟩:=q3
    cases (rx.ext (e2.trans e3)).str
    exact ⟨z,rfl,hz,k _ m3 _ H3 q4 (e1.trans (e2.trans e3)) ok3 .ofStr⟩
end
end DL
set_option Elab.async false
set_option linter.all false
set_option maxRecDepth 100000
set_option maxHeartbeats 4000000
namespace DL
open PySem PySem.Spec PyProof.Rows L2
def Ite (K:PySem.W.Frag) (l:Addr) (n:Nat):It :=
  ⟨fun i H=>i < n∧∃ xs,SqL K H l xs∧n=xs.length,fun i H v H'=>∃ p x,v=.ref p∧H p=none∧H'=upd H p (.tup [.int i,x])∧∀ xs,SqL K H l xs→xs[i]?=some x,
    fun i H=>i=n∧∃ xs,SqL K H l xs∧n=xs.length⟩
abbrev Est (h:Heap) (e it l:Addr) (i:Nat):Prop:=(∃ old,IsEnum h e it i old)∧h.IsListIter it l i
theorem zaF6 {P:Program} {w:World} {K:PySem.W.Frag} {elts:List Expr} {j:Nat} {pos:Pos} {e it l:Addr} {n:Nat} (hei:e≠it) :
    Turn P w K (.Tuple elts j pos) (Ite K l n) [e,it] e (fun i h=>Est h e it l i) where
  mem:=by simp
  obj:=fun i h st b hb=>by
    obtain ⟨⟨old,h1⟩,⟨o2,e2,_,d2⟩⟩:=st
    simp only [List.mem_cons,List.not_mem_nil,or_false] at hb
    rcases hb with rfl | rfl
    · exact ⟨_,h1,fun v q=>nomatch q⟩
    · exact ⟨_,e2,fun v q=>by rw [d2] at q; cases q⟩
  keep:=fun i h h' st k=>by
    obtain ⟨⟨old,h1⟩,h2⟩:=st
    exact ⟨⟨old,k e (by simp) _ h1⟩,h2.at fun o q=>k it (by simp) o q⟩
  item:=by
    intro X hP hw hK hc i pins s σ H E I hf st hg
    subst hP hw hK
    obtain ⟨hi,xs,q1,hn⟩:=hg
    obtain ⟨its,r1,p1,l1⟩:=I.list q1
    obtain ⟨⟨old,he⟩,hit⟩:=st
    have e1:xs[i]?=some (xs[i]'(by omega)):=List.getElem?_eq_getElem (by omega)
    obtain ⟨u1,hu1,ru1⟩:=r1.get e1
    have hp:H s.heap.objs.size=none:=I.hok.fresh (Nat.le_refl _)
    refine wpAny_pyNext_enum_item he hit p1.isList (by simpa using hu1) hei fun h' ho hit' hT hsz k=>?_
    refine ⟨_,rfl,?_⟩
    refine wpAny_letOwnedTupleGo_enum (s:={ s with heap:=h',toks:=s.toks + 1 }) ho fun h2 z2 c2=>?_
    have I1:Inv X pins σ (upd H s.heap.objs.size (.tup [_,_])) { s with heap:=s.heap.push { cls:=.type "tuple",data:=.seq #[.int i s.toks,u1] } } :=
      I.laid (t':=s.toks) (fun b o e=>Heap.get?_push_of_some _ e) (Nat.le_refl _) (show ObjOk X.prog X.w _ _ _ (.tup [.int i,xs[i]'(by omega)]) from ⟨⟨by show 2≤sizeLine; rw [sizeLine_eq]; decide,NoD.new _ _ _⟩,[.int i s.toks,u1],.cons ⟨_,rfl⟩ (.cons ru1 .nil),IsTup.new _ _⟩)
    have lt:∀ {c o},s.heap.get? c=some o→c≠s.heap.objs.size:=fun e=>Nat.ne_of_lt (Heap.lt_size e)
    have hf':∀ b∈[e,it],FpOk X pins (upd H s.heap.objs.size (.tup [.int i,xs[i]'(by omega)])) b:=fun b hb=>by
      obtain ⟨f0,f1,f2,f3,f4,f5⟩:=hf b hb
      refine ⟨?_,f1,f2,f3,f4,f5⟩
      rw [zd6]
      · exact f0
      · obtain ⟨o4,e4,_⟩:=hit
        simp only [List.mem_cons,List.not_mem_nil,or_false] at hb
        rcases hb with rfl | rfl
        · exact lt he
        · exact lt e4
    have kk:∀ b o,b ∉ [e,it]→(s.heap.push { cls:=.type "tuple",data:=.seq #[.int i s.toks,u1] }).get? b=some o→h2.get? b=some o:=fun b o hb q=>by
      simp only [List.mem_cons,List.not_mem_nil,or_false,not_or] at hb
      refine c2.extBut _ _ hb.1 ?_
      rcases Heap.get?_push_cases q with ⟨rfl,rfl⟩ | q
      · exact hT
      · exact k b o hb.1 hb.2 q
    have I2:=zax6 (s:={ s with heap:=s.heap.push { cls:=.type "tuple",data:=.seq #[.int i s.toks,u1] } }) (h':=h2) (t':=s.toks + 1) (ch:=[e,it]) I1 kk hf'
    refine ⟨.ref s.heap.objs.size,upd H s.heap.objs.size (.tup [.int i,xs[i]'(by omega)]),I2,rfl,⟨_,_,rfl,hp,rfl,fun xs' g1=>?_⟩,?_,fun b hb=>(hf' b hb).1⟩
    · rw [I.list_inj g1 q1]
      exact e1
    · exact ⟨⟨_,z2⟩,hit'.at fun o q=>c2.extBut _ _ (Ne.symm hei) q⟩
  done:=by
    intro X hP hw hK hc i pins s σ H E I hf st hg
    subst hP hw hK
    obtain ⟨hi,xs,q1,hn⟩:=hg
    obtain ⟨its,r1,p1,l1⟩:=I.list q1
    obtain ⟨⟨old,he⟩,hit⟩:=st
    have m1:=r1.length
    refine wpAny_pyNext_enum_end (I.ok.hd hc) he hit p1.isList (by simp; omega) fun h' k=>?_
    refine ⟨rfl,zax6 (t':=s.toks) (ch:=[e,it]) I (fun b o hb q=>?_) hf⟩
    simp only [List.mem_cons,List.not_mem_nil,or_false,not_or] at hb
    exact k b o hb.2 q
  self:=fun _ _ _ _ _ st h=>by
    obtain ⟨⟨old,he⟩,_⟩:=st
    exact wpAny_pyIter_enum he h
theorem zad7:bootBuiltins "enumerate"=some (.type "enumerate"):=by decide +kernel
def numD (ps:List PyData):List D:=ps.zipIdx.map fun z=>.dat (.tuple [.int z.2,z.1])
@[simp] def zaI2 (f:DE):DI:=fun d m Q=>f d m fun x m1=>∃ ps,x=.dat (.list ps)∧Q (numD ps) m1
section
variable {X:Cx} {a:Expr} {elts:List Expr} {j:Nat} {f:DE} {pos p p2:Pos}
theorem zaT5 (hg:Gl X "enumerate") (hm:X.mg "enumerate"=none) (ha:PE X a (LE X.K f)) (hs:starEach [a] X.env=[(false,eval a X.env)]:=by rfl) :
    PI X (.Tuple elts j p2) (.Call (.Name "enumerate" p) [a] [] pos) (LI X.K (zaI2 f)):=by
  intro pins s σ H R I h
  obtain ⟨Z,d,m,ZZ,ok,rs,h,k⟩:=h
  have hA:=zZ0 (X:=X) ha zav2 (by rw [hs]; rfl) pos pins s σ H (fun vs H1=>∃ a1 xs ps m1,vs=[.ref a1]∧(m1 a1=none∧¬ Z a1)∧SqL X.K H1 a1 xs∧RPs X.K Z m1 H1 ps xs ∧
      ZZ (numD ps) m1∧Ext X.K Z m H m1 H1∧Ok X.K Z m1 H1) I ⟨Z,d,m,fun ds m1=>match ds with | [x]=>∃ ps,x=.dat (.list ps)∧ZZ (numD ps) m1 | _=>False,ok,rs,h,fun xs m1 vs H1 q e1 ok1 rd=>?_⟩
  · refine Call_ (zQ8 I hg hm zad7 (PyProof.Rows.callWith_type1 (thn hA fun us s1 ⟨vs,H1,I1,r1,q1⟩=>?_) (by rw [hs]; rfl) (by rfl)))
    obtain ⟨a1,xs,ps,m1,e,h0,h1,rp,q,e1,ok1⟩:=q1
    subst e
    obtain ⟨u1,rfl,ru1⟩:=zN6 r1
    cases ru1
    obtain ⟨its1,rv1,pt1,l1⟩:=I1.list h1
    refine call_enumerate_list pt1.isList fun h' he hit hsz kp=>?_
    refine wpAny_pyIter_enum (s:={ s1 with heap:=h' }) he ?_
    refine ⟨s1.heap.objs.size + 1,[s1.heap.objs.size + 1,s1.heap.objs.size],_,_,H1,rfl,I1.kept (t':=s1.toks) kp,zaF6 (l:=a1) (n:=xs.length) (Nat.succ_ne_self _),⟨⟨_,he⟩,hit⟩,fun c hc=>?_,k _ m1 H1 _ q e1 ok1 ?_⟩
    · have hle:s1.heap.objs.size≤c:=by
        simp only [List.mem_cons,List.not_mem_nil,or_false] at hc
        rcases hc with rfl | rfl
        · exact Nat.le_add_right _ 1
        · exact Nat.le_refl _
      exact I1.fpOk hle (I1.hok.fresh hle)
    · intro m2 H2 e2
      obtain ⟨_,q1⟩:=e2.l a1 xs h0 h1
      have lp:=rp.length
      refine ⟨fun i x hx=>?_,?_,xs,q1,rfl⟩
      · unfold numD at hx
        rw [List.getElem?_map,List.getElem?_zipIdx] at hx
        cases ez:ps[i]? with
        | none=>rw [ez] at hx; cases hx
        | some z =>
          rw [ez] at hx
          simp at hx
          subst hx
          obtain ⟨v1,hv1,rv1'⟩:=rp.get ez
          have b1:=(List.getElem?_eq_some_iff.mp hv1).1
          refine ⟨⟨by omega,xs,q1,rfl⟩,fun v H3 ⟨pp,x',ev,hp,eH,al⟩=>?_⟩
          have w1:=al xs q1
          rw [hv1] at w1
          cases w1
          refine .inr ⟨pp,[.int i,z],[_,_],rfl,ev,hp,eH,?_⟩
          simp only [RPs]
          exact ⟨_,_,rfl,by simp only [RP],_,_,rfl,rv1',rfl⟩
      · show (numD ps).length=xs.length
        unfold numD
        rw [List.length_map,List.length_zipIdx,lp]
  · match xs,q,rd with
    | [],q,_=>exact q.elim
    | _ :: _ :: _,q,_=>exact q.elim
    | [x],q,rd =>
    obtain ⟨ps,rfl,q⟩:=q
    obtain ⟨v,rfl,g1⟩:=rd.one
    simp only [RD,RP] at g1
    obtain ⟨a1,xs,rfl,h0,h1,h2⟩:=g1
    exact ⟨a1,xs,ps,m1,rfl,h0,h1,h2,q,e1,ok1⟩
end
end DL
set_option Elab.async false
set_option linter.all false
set_option maxRecDepth 100000
set_option maxHeartbeats 4000000
namespace DL
open PySem PySem.Spec PyProof.Rows L2
section
variable {prog:Program} {w:World} {A:Around} {E:Value→Shared→Prop} {s:Shared}
theorem zaj6 {it t:Addr} {its:Array Value} (hh:A.handled=none) (hne:t≠it):Draws prog w A it [it,t] its.size (fun i x=>its[i]?=some x) (fun i h=>h.IsTupleIter it t i∧h.IsTuple t its) where
  live:=fun i h ⟨⟨o,e,_⟩,_⟩=>⟨o,e⟩
  frame:=fun i h h' ⟨⟨o,e,r⟩,⟨o2,e2,r2⟩⟩ k=>⟨⟨o,k it (by simp) o e,r⟩,⟨o2,k t (by simp) o2 e2,r2⟩⟩
  item:=fun i s Q E hi ⟨h1,h2⟩ hQ=>zai0 h1 h2 (Array.getElem?_eq_getElem hi) fun h' a b=>hQ _ h' s.toks (Array.getElem?_eq_getElem hi) ⟨a,by
    obtain ⟨o,e,r⟩:=h2
    exact ⟨o,b.extBut _ _ hne e,r⟩⟩ b
  done:=fun s Q E ⟨h1,h2⟩ hE=>zaK1 hh h1 h2 (by simp) hE
theorem zaY8 {M:Model} {c:Value} {Q:Bool→Shared→Prop} (h:∀ b,Q b s):wpAny M A (Builtin.SmallTypes.calledThroughType c) Q E s:=by
  unfold Builtin.SmallTypes.calledThroughType
  exact wpAny_bind (wpAny_stack_any fun st=>wpAny_pure (h _))
theorem zbi8 (t:Addr) (xs:Array Value):Meets (Builtin.«enumerate.__new__» ⟨[.type "enumerate",.ref t],[]⟩) (fun _ R s=>s.heap.IsTuple t xs ∧
    R (.ok (.ret (.ref (zq1 s.heap t).objs.size))) { s with heap:=(zq1 s.heap t).push { cls:=.type "enumerate",data:=.fields #[.none,.bool false,.ref s.heap.objs.size,rawInt 0,.none,.none] } }):=.of_wp fun prog w A R s hs=>by
  obtain ⟨hp,g,d,tk,os⟩:=s; obtain ⟨hl1,h⟩:=hs
  have hsub:=sub_enumerate
  have u1:Heap.IsTuple (Shared.heap ⟨hp,g,d,tk,os⟩) t xs:=hl1
  wp_walk using zaY8
  intro b
  cases b with
  | true =>
    refine wpAny_bind (wpAny_of_eq (a:=(Value.ref t,none)) rfl ?_)
    refine wpAny_bind (wpAny_pyIter_tuple u1 ?_)
    wp_walk
    exact ⟨_,rfl,h⟩
  | false =>
    refine wpAny_bind (wpAny_of_eq (a:=(Value.ref t,none)) rfl ?_)
    refine wpAny_bind (wpAny_pyIter_tuple u1 ?_)
    wp_walk
    exact ⟨_,rfl,h⟩
theorem zaf2 {t:Addr} {xs:Array Value} {Q:Value→Shared→Prop} (g:s.heap.IsTuple t xs)
    (h:∀ h',IsEnum h' (s.heap.objs.size + 1) s.heap.objs.size 0 .none→h'.IsTupleIter s.heap.objs.size t 0→(∀ c o,s.heap.get? c=some o→h'.get? c=some o)→Q (.ref (s.heap.objs.size + 1)) { s with heap:=h' }):wpAny (model prog w) A (call (.type "enumerate") [.ref t]) Q E s:=by
  refine callType_new F.called_enumerate (by decide) (F.typeCall_enumerate_1 _) (F.newCall_enumerate_1 _) (fun obj=>F.args_object_init_2 obj _) F.entry_enumerate_new (zbi8 t xs) ⟨g,?_⟩
  have z1:(zq1 s.heap t).objs.size=s.heap.objs.size + 1:=Heap.size_push ..
  have a2:((zq1 s.heap t).push { cls:=.type "enumerate",data:=.fields #[.none,.bool false,.ref s.heap.objs.size,rawInt 0,.none,.none] }).get? (zq1 s.heap t).objs.size=some _:=Heap.get?_push_size _ rfl
  have a1:((zq1 s.heap t).push { cls:=.type "enumerate",data:=.fields #[.none,.bool false,.ref s.heap.objs.size,rawInt 0,.none,.none] }).get? s.heap.objs.size=some _:=Heap.get?_push_of_some _ (Heap.get?_push_size _ rfl)
  show _∧_
  rw [z1] at a2
  rw [z1]
  exact ⟨⟨_,a2,rfl⟩,h _ a2 ⟨_,a1,rfl,rfl⟩ fun c o x=>Heap.get?_push_of_some _ (Heap.get?_push_of_some _ x)⟩
end
def Itet (K:PySem.W.Frag) (l:Addr) (n:Nat):It :=
  ⟨fun i H=>i < n∧∃ xs,SqT K H l xs∧n=xs.length,fun i H v H'=>∃ p x,v=.ref p∧H p=none∧H'=upd H p (.tup [.int i,x])∧∀ xs,SqT K H l xs→xs[i]?=some x,
    fun i H=>i=n∧∃ xs,SqT K H l xs∧n=xs.length⟩
abbrev Estt (h:Heap) (e it l:Addr) (i:Nat):Prop:=(∃ old,IsEnum h e it i old)∧h.IsTupleIter it l i
theorem zak5 {h:Heap} {it t:Addr} {i:Nat} {its:Array Value} (a:h.IsTupleIter it t i) (b:h.IsTuple t its):t≠it:=by
  rintro rfl
  obtain ⟨o,e,c,_⟩:=a
  obtain ⟨o2,e2,c2,_⟩:=b
  rw [e] at e2
  cases e2
  rw [c] at c2
  exact absurd c2 (by simp)
theorem zaG1 {h:Heap} {en it t:Addr} {i:Int} {old:Value} {its:Array Value} (a:IsEnum h en it i old) (b:h.IsTuple t its):en≠t:=by
  rintro rfl
  obtain ⟨o2,e2,c2,_⟩:=b
  rw [a] at e2
  cases e2
  exact absurd c2 (by simp)
theorem zay6 {P:Program} {w:World} {K:PySem.W.Frag} {elts:List Expr} {j:Nat} {pos:Pos} {e it l:Addr} {n:Nat} (hei:e≠it) :
    Turn P w K (.Tuple elts j pos) (Itet K l n) [e,it] e (fun i h=>Estt h e it l i) where
  mem:=by simp
  obj:=fun i h st b hb=>by
    obtain ⟨⟨old,h1⟩,⟨o2,e2,_,d2⟩⟩:=st
    simp only [List.mem_cons,List.not_mem_nil,or_false] at hb
    rcases hb with rfl | rfl
    · exact ⟨_,h1,fun v q=>nomatch q⟩
    · exact ⟨_,e2,fun v q=>by rw [d2] at q; cases q⟩
  keep:=fun i h h' st k=>by
    obtain ⟨⟨old,h1⟩,h2⟩:=st
    exact ⟨⟨old,k e (by simp) _ h1⟩,h2.at fun o q=>k it (by simp) o q⟩
  item:=by
    intro X hP hw hK hc i pins s σ H E I hf st hg
    subst hP hw hK
    obtain ⟨hi,xs,q1,hn⟩:=hg
    obtain ⟨its,r1,p1,l1⟩:=I.tuple q1
    have p1':s.heap.IsTuple l its.toArray:=p1
    obtain ⟨⟨old,he⟩,hit⟩:=st
    have e1:xs[i]?=some (xs[i]'(by omega)):=List.getElem?_eq_getElem (by omega)
    obtain ⟨u1,hu1,ru1⟩:=r1.get e1
    have hp:H s.heap.objs.size=none:=I.hok.fresh (Nat.le_refl _)
    have m1:=r1.length
    refine wpAny_pyNext_enum_itemD (zaj6 (its:=its.toArray) (I.ok.hd hc) (zak5 hit p1')) he ⟨hit,p1'⟩ (by simp; omega) hei (by simp; exact ⟨hei,zaG1 he p1'⟩) fun x h' tk hx ho hit' hT hsz k=>?_
    have hx2:its[i]?=some x:=by simpa using hx
    have ex:x=u1:=by
      rw [hu1] at hx2
      cases hx2
      rfl
    subst ex
    refine ⟨_,rfl,?_⟩
    refine wpAny_letOwnedTupleGo_enum (s:={ s with heap:=h',toks:=tk + 1 }) ho fun h2 z2 c2=>?_
    have I1:Inv X pins σ (upd H s.heap.objs.size (.tup [_,_])) { s with heap:=s.heap.push { cls:=.type "tuple",data:=.seq #[.int i tk,x] } } :=
      I.laid (t':=s.toks) (fun b o e=>Heap.get?_push_of_some _ e) (Nat.le_refl _) (show ObjOk X.prog X.w _ _ _ (.tup [.int i,xs[i]'(by omega)]) from ⟨⟨by show 2≤sizeLine; rw [sizeLine_eq]; decide,NoD.new _ _ _⟩,[.int i tk,x],.cons ⟨_,rfl⟩ (.cons ru1 .nil),IsTup.new _ _⟩)
    have lt:∀ {c o},s.heap.get? c=some o→c≠s.heap.objs.size:=fun e=>Nat.ne_of_lt (Heap.lt_size e)
    have hf':∀ b∈[e,it],FpOk X pins (upd H s.heap.objs.size (.tup [.int i,xs[i]'(by omega)])) b:=fun b hb=>by
      obtain ⟨f0,f1,f2,f3,f4,f5⟩:=hf b hb
      refine ⟨?_,f1,f2,f3,f4,f5⟩
      rw [zd6]
      · exact f0
      · obtain ⟨o4,e4,_⟩:=hit
        simp only [List.mem_cons,List.not_mem_nil,or_false] at hb
        rcases hb with rfl | rfl
        · exact lt he
        · exact lt e4
    have kk:∀ b o,b ∉ [e,it]→(s.heap.push { cls:=.type "tuple",data:=.seq #[.int i tk,x] }).get? b=some o→h2.get? b=some o:=fun b o hb q=>by
      simp only [List.mem_cons,List.not_mem_nil,or_false,not_or] at hb
      refine c2.extBut _ _ hb.1 ?_
      rcases Heap.get?_push_cases q with ⟨rfl,rfl⟩ | q
      · exact hT
      · exact k b o hb.1 hb.2 q
    have I2:=zax6 (s:={ s with heap:=s.heap.push { cls:=.type "tuple",data:=.seq #[.int i tk,x] } }) (h':=h2) (t':=tk + 1) (ch:=[e,it]) I1 kk hf'
    refine ⟨.ref s.heap.objs.size,upd H s.heap.objs.size (.tup [.int i,xs[i]'(by omega)]),I2,rfl,⟨_,_,rfl,hp,rfl,fun xs' g1=>?_⟩,?_,fun b hb=>(hf' b hb).1⟩
    · rw [I.tuple_inj g1 q1]
      exact e1
    · exact ⟨⟨_,z2⟩,hit'.1.at fun o q=>c2.extBut _ _ (Ne.symm hei) q⟩
  done:=by
    intro X hP hw hK hc i pins s σ H E I hf st hg
    subst hP hw hK
    obtain ⟨hi,xs,q1,hn⟩:=hg
    obtain ⟨its,r1,p1,l1⟩:=I.tuple q1
    have p1':s.heap.IsTuple l its.toArray:=p1
    obtain ⟨⟨old,he⟩,hit⟩:=st
    have m1:=r1.length
    have ei:its.toArray.size=i:=by simp; omega
    refine wpAny_pyNext_enum_endD (zaj6 (its:=its.toArray) (I.ok.hd hc) (zak5 hit p1')) he (by rw [ei]; exact ⟨hit,p1'⟩) fun h' k=>?_
    refine ⟨rfl,zax6 (t':=s.toks) (ch:=[e,it]) I (fun b o hb q=>?_) hf⟩
    simp only [List.mem_cons,List.not_mem_nil,or_false,not_or] at hb
    exact k b o hb.2 q
  self:=fun _ _ _ _ _ st h=>by
    obtain ⟨⟨old,he⟩,_⟩:=st
    exact wpAny_pyIter_enum he h
@[simp] def zaD2 (f:DE):DI:=fun d m Q=>f d m fun x m1=>∃ ps,x=.dat (.tuple ps)∧Q (numD ps) m1
section
variable {X:Cx} {a:Expr} {elts:List Expr} {j:Nat} {f:DE} {pos p p2:Pos}
theorem zaP5 (hg:Gl X "enumerate") (hm:X.mg "enumerate"=none) (ha:PE X a (LE X.K f)) (hs:starEach [a] X.env=[(false,eval a X.env)]:=by rfl) :
    PI X (.Tuple elts j p2) (.Call (.Name "enumerate" p) [a] [] pos) (LI X.K (zaD2 f)):=by
  intro pins s σ H R I h
  obtain ⟨Z,d,m,ZZ,ok,rs,h,k⟩:=h
  have hA:=zZ0 (X:=X) ha zav2 (by rw [hs]; rfl) pos pins s σ H (fun vs H1=>∃ a1 xs ps m1,vs=[.ref a1]∧SqT X.K H1 a1 xs∧RPs X.K Z m1 H1 ps xs ∧
      ZZ (numD ps) m1∧Ext X.K Z m H m1 H1∧Ok X.K Z m1 H1) I ⟨Z,d,m,fun ds m1=>match ds with | [x]=>∃ ps,x=.dat (.tuple ps)∧ZZ (numD ps) m1 | _=>False,ok,rs,h,fun xs m1 vs H1 q e1 ok1 rd=>?_⟩
  · refine Call_ (zQ8 I hg hm zad7 (PyProof.Rows.callWith_type1 (thn hA fun us s1 ⟨vs,H1,I1,r1,q1⟩=>?_) (by rw [hs]; rfl) (by rfl)))
    obtain ⟨a1,xs,ps,m1,e,h1,rp,q,e1,ok1⟩:=q1
    subst e
    obtain ⟨u1,rfl,ru1⟩:=zN6 r1
    cases ru1
    obtain ⟨its1,rv1,pt1,l1⟩:=I1.tuple h1
    refine zaf2 (show s1.heap.IsTuple a1 its1.toArray from pt1) fun h' he hit kp=>?_
    refine wpAny_pyIter_enum (s:={ s1 with heap:=h' }) he ?_
    refine ⟨s1.heap.objs.size + 1,[s1.heap.objs.size + 1,s1.heap.objs.size],_,_,H1,rfl,I1.kept (t':=s1.toks) kp,zay6 (l:=a1) (n:=xs.length) (Nat.succ_ne_self _),⟨⟨_,he⟩,hit⟩,fun c hc=>?_,k _ m1 H1 _ q e1 ok1 ?_⟩
    · have hle:s1.heap.objs.size≤c:=by
        simp only [List.mem_cons,List.not_mem_nil,or_false] at hc
        rcases hc with rfl | rfl
        · exact Nat.le_add_right _ 1
        · exact Nat.le_refl _
      exact I1.fpOk hle (I1.hok.fresh hle)
    · intro m2 H2 e2
      have q1:=e2.t a1 xs h1
      have lp:=rp.length
      refine ⟨fun i x hx=>?_,?_,xs,q1,rfl⟩
      · unfold numD at hx
        rw [List.getElem?_map,List.getElem?_zipIdx] at hx
        cases ez:ps[i]? with
        | none=>rw [ez] at hx; cases hx
        | some z =>
          rw [ez] at hx
          simp at hx
          subst hx
          obtain ⟨v1,hv1,rv1'⟩:=rp.get ez
          have b1:=(List.getElem?_eq_some_iff.mp hv1).1
          refine ⟨⟨by omega,xs,q1,rfl⟩,fun v H3 ⟨pp,x',ev,hp,eH,al⟩=>?_⟩
          have w1:=al xs q1
          rw [hv1] at w1
          cases w1
          refine .inr ⟨pp,[.int i,z],[_,_],rfl,ev,hp,eH,?_⟩
          simp only [RPs]
          exact ⟨_,_,rfl,by simp only [RP],_,_,rfl,rv1',rfl⟩
      · show (numD ps).length=xs.length
        unfold numD
        rw [List.length_map,List.length_zipIdx,lp]
  · match xs,q,rd with
    | [],q,_=>exact q.elim
    | _ :: _ :: _,q,_=>exact q.elim
    | [x],q,rd =>
    obtain ⟨ps,rfl,q⟩:=q
    obtain ⟨v,rfl,g1⟩:=rd.one
    simp only [RD,RP] at g1
    obtain ⟨a1,xs,rfl,h1,h2⟩:=g1
    exact ⟨a1,xs,ps,m1,rfl,h1,h2,q,e1,ok1⟩
end
end DL
set_option Elab.async false
set_option linter.all false
set_option maxRecDepth 100000
set_option maxHeartbeats 4000000
namespace DL
open PySem PySem.Spec PyProof.Rows L2
section
variable {prog:Program} {w:World} {A:Around} {E:Value→Shared→Prop} {s:Shared}
end
def Itl (K:PySem.W.Frag) (t1 t2:Addr) (n:Nat):It :=
  ⟨fun i H=>i < n∧∃ xs ys,SqL K H t1 xs∧SqT K H t2 ys∧n=min xs.length ys.length,fun i H v H'=>∃ p x y,v=.ref p∧H p=none∧H'=upd H p (.tup [x,y])∧∀ xs ys,SqL K H t1 xs→SqT K H t2 ys→xs[i]?=some x∧ys[i]?=some y,
    fun i H=>i=n∧∃ xs ys,SqL K H t1 xs∧SqT K H t2 ys∧n=min xs.length ys.length⟩
section
variable {X:Cx} {a b:Expr} {elts:List Expr} {j:Nat} {f g:DE} {pos p p2:Pos}
end
end DL
set_option Elab.async false
set_option linter.all false
set_option maxRecDepth 100000
set_option maxHeartbeats 4000000
namespace DL
open PySem PySem.Spec PyProof.Rows L2
section
variable {K:PySem.W.Frag} {Z:Addr→Prop} {m m':Mu} {H:Hp}
end
section
variable {X:Cx} {a:Expr} {f:DE} {pos p2:Pos}
end
end DL
set_option Elab.async false
set_option linter.all false
set_option maxRecDepth 100000
set_option maxHeartbeats 4000000
namespace DL
open PySem PySem.Spec PyProof.Rows L2
section
variable {prog:Program} {w:World} {A:Around} {E:Value→Shared→Prop} {s:Shared}
end
section
variable {prog:Program} {w:World} {κ:Type} [DecidableEq κ] {knd:KeyKind prog w κ} {A:Around} {E:Value→Shared→Prop} {s:Shared}
end
section
variable {X:Cx} {e:Expr} {f:DE} {pos p:Pos}
end
end DL
set_option Elab.async false
set_option linter.all false
set_option maxRecDepth 100000
set_option maxHeartbeats 4000000
namespace DL
open PySem PySem.Spec PyProof.Rows L2
structure QE (X:Cx) (e:Expr) (t:TE):Prop where
  pe:PE X e t
structure QA (X:Cx) (e:List Expr) (t:TA):Prop where
  pe:PA X e t
structure QT (X:Cx) (e:Expr) (t:TT):Prop where
  pe:PT X e t
structure QW (X:Cx) (e:Expr) (t:TT):Prop where
  pe:PW X e t
structure QS (X:Cx) (e:Stmt) (t:TS):Prop where
  pe:PS X e t
structure QSs (X:Cx) (e:List Stmt) (t:TS):Prop where
  pe:PSs X e t
structure QG (X:Cx) (e:Expr) (t:TG):Prop where
  pe:PG X e t
structure QGs (X:Cx) (e:List Expr) (t:TGs):Prop where
  pe:PGs X e t
structure QO (X:Cx) (e:Option Expr) (t:TO):Prop where
  pe:PO X e t
structure QF (X:Cx) (e:List Expr) (t:TT):Prop where
  pe:PF X e t
structure QI (X:Cx) (tg e:Expr) (t:TI):Prop where
  pe:PI X tg e t
theorem QW.pt {X:Cx} {e:Expr} {t:TT} (h:QW X e t):QT X e t:=⟨h.pe.pt⟩
section
variable {X:Cx} {pos:Pos}
theorem za1 (i:Nat) {x:Str} (hN:X.N[i]?=some x:=by rfl) (hv:Vis X.env.scope x:=by first | exact Or.inl rfl | exact Or.inr (Or.inl rfl) | exact Or.inr (Or.inr rfl)) (hd:(x == ("__debug__" : Str))=false:=by decide) (hcd:(x == ("__classdict__" : Str))=false:=by decide):QE X (.Name x pos) (LE X.K (dVar i)):=⟨zba4 (i:=i) (hN:=hN) (hv:=hv) (hd:=hd) (hcd:=hcd)⟩
end
section
variable {X:Cx} {pos:Pos}
theorem za4 {i:Int} {j:Nat}:QE X (.Constant (.int i) j pos) (LE X.K (dCon (.int i))):=⟨zbb1 ⟩
end
section
variable {X:Cx} {pos:Pos}
theorem zal0 {b:Bool} {j:Nat}:QE X (.Constant (.bool b) j pos) (LE X.K (dCon (.bool b))):=⟨zbk9 ⟩
end
section
variable {X:Cx} {pos:Pos}
theorem zaV6 {j:Nat}:QE X (.Constant .none j pos) (LE X.K (dCon .none)):=⟨zbd5 ⟩
end
section
variable {X:Cx} {pos:Pos}
theorem zb3 {x:Str} {j:Nat}:QE X (.Constant (.str x) j pos) (LE X.K (dCon (.str x))):=⟨zbc9 ⟩
end
section
variable {X:Cx} {a b c:Expr} {f g:DE} {pos:Pos}
theorem zb1 {op:Operator} {r:D2} (ho:OpD X (binaryOp op) r) (ha:QE X a (LE X.K f)) (hb:QE X b (LE X.K g)):QE X (.BinOp a op b pos) (LE X.K (dBin r f g)):=⟨zbc6 (ho:=ho) (ha:=ha.pe) (hb:=hb.pe)⟩
end
section
variable {X:Cx} {a b c:Expr} {f g:DE} {pos:Pos}
theorem zM0 {op:CmpOp} {r:D2} (ho:OpD X (compareOp op) r) (ha:QE X a (LE X.K f)) (hb:QE X b (LE X.K g)) (hm:behindInMarks op b=false:=by exact zat2 _):QE X (.Compare a [op] [b] pos) (LE X.K (dBin r f g)):=⟨zbb7 (ho:=ho) (ha:=ha.pe) (hb:=hb.pe) (hm:=hm)⟩
end
section
variable {X:Cx} {a b c:Expr} {f g:DE} {pos:Pos}
theorem zc5 {op:CmpOp} {r:D2} (ho:OpD X (compareOp op) r) (ha:QE X a (LE X.K f)) (hb:QE X b (LE X.K g)) (hm:behindInMarks op b=false:=by exact zat2 _):QT X (.Compare a [op] [b] pos) (LT X.K (dTst (dBin r f g))):=⟨zbj8 (ho:=ho) (ha:=ha.pe) (hb:=hb.pe) (hm:=hm)⟩
end
section
variable {X:Cx} {a b c:Expr} {f g:DE} {pos:Pos}
theorem zr4 (h:QE X a (LE X.K f)) (he:∀ whole,isTrue a X.env whole=(do let v ← whole; standAt a.pos; holding [v] (truthy v)):=by intro _; rfl):QT X a (LT X.K (dTst f)):=⟨zbk0 (h:=h.pe) (he:=he)⟩
end
section
variable {X:Cx} {a b c:Expr} {rest:List Expr} {f g:DE} {t u:DT} {pos:Pos}
theorem zag4 (ha:QT X a (LT X.K t)):QW X (.BoolOp .And [a] pos) (LT X.K t):=⟨zaX9 (ha:=ha.pe)⟩
end
section
variable {X:Cx} {a b c:Expr} {rest:List Expr} {f g:DE} {t u:DT} {pos:Pos}
theorem zaq8 (ha:QT X a (LT X.K t)):QW X (.BoolOp .Or [a] pos) (LT X.K t):=⟨zbc0 (ha:=ha.pe)⟩
end
section
variable {X:Cx} {a b c:Expr} {rest:List Expr} {f g:DE} {t u:DT} {pos:Pos}
theorem zap2 (ha:QT X a (LT X.K t)) (hb:QW X (.BoolOp .And (b :: rest) pos) (LT X.K u)):QW X (.BoolOp .And (a :: b :: rest) pos) (LT X.K (zaF7 t u)):=⟨zbc5 (ha:=ha.pe) (hb:=hb.pe)⟩
end
section
variable {X:Cx} {a b c:Expr} {rest:List Expr} {f g:DE} {t u:DT} {pos:Pos}
theorem zau8 (ha:QT X a (LT X.K t)) (hb:QW X (.BoolOp .Or (b :: rest) pos) (LT X.K u)):QW X (.BoolOp .Or (a :: b :: rest) pos) (LT X.K (dOrT t u)):=⟨zbp7 (ha:=ha.pe) (hb:=hb.pe)⟩
end
section
variable {X:Cx} {a b c:Expr} {rest:List Expr} {f g:DE} {t u:DT} {pos:Pos}
theorem zaA5 (ha:QT X a (LT X.K t)):QT X (.UnaryOp .Not a pos) (LT X.K (zay3 t)):=⟨zbe1 (ha:=ha.pe)⟩
end
section
variable {X:Cx} {a b c:Expr} {rest:List Expr} {f g:DE} {t u:DT} {pos:Pos}
theorem zaB5 {op:BoolOp} (h:QE X a (LE X.K f)):QE X (.BoolOp op [a] pos) (LE X.K f):=⟨zbb9 (h:=h.pe)⟩
end
section
variable {X:Cx} {a b c:Expr} {rest:List Expr} {f g:DE} {t u:DT} {pos:Pos}
theorem zaE0 (ha:QE X a (LE X.K f)) (hb:QE X (.BoolOp .And (b :: rest) pos) (LE X.K g)):QE X (.BoolOp .And (a :: b :: rest) pos) (LE X.K (dAnd f g)):=⟨zbi1 (ha:=ha.pe) (hb:=hb.pe)⟩
end
section
variable {X:Cx} {a b c:Expr} {rest:List Expr} {f g:DE} {t u:DT} {pos:Pos}
end
section
variable {X:Cx} {a b c:Expr} {rest:List Expr} {f g:DE} {t u:DT} {pos:Pos}
theorem zaG8 (ha:QE X a (LE X.K f)):QE X (.UnaryOp .Not a pos) (LE X.K (dNot f)):=⟨zbi5 (ha:=ha.pe)⟩
end
section
variable {X:Cx} {a b c:Expr} {rest:List Expr} {f g:DE} {t u:DT} {pos:Pos}
theorem zw4 (hc:QT X c (LT X.K t)) (ha:QE X a (LE X.K f)) (hb:QE X b (LE X.K g)):QE X (.IfExp c a b pos) (LE X.K (dIte t f g)):=⟨zbg3 (hc:=hc.pe) (ha:=ha.pe) (hb:=hb.pe)⟩
end
section
variable {X:Cx} {e:Expr} {es:List Expr} {f:DE} {g:DA} {pos:Pos}
theorem za5  : QA X [] (LA X.K dNil):=⟨zav2 ⟩
end
section
variable {X:Cx} {e:Expr} {es:List Expr} {f:DE} {g:DA} {pos:Pos}
theorem za0 (ha:QE X e (LE X.K f)) (hr:QA X es (LA X.K g)) (hs:starEach (e :: es) X.env=(false,eval e X.env) :: starEach es X.env:=by rfl):QA X (e :: es) (LA X.K (za3 f g)):=⟨zZ0 (ha:=ha.pe) (hr:=hr.pe) (hs:=hs)⟩
end
section
variable {X:Cx} {e:Expr} {es:List Expr} {f:DE} {g:DA} {pos:Pos}
theorem zd1 {j:Nat} (h:QA X es (LA X.K g)):QE X (.Tuple es j pos) (LE X.K (dTup g)):=⟨zbg1 (h:=h.pe)⟩
end
section
variable {X:Cx} {e:Expr} {es:List Expr} {f:DE} {g:DA} {pos:Pos}
theorem zj7 (h:QA X es (LA X.K g)):QE X (.List es pos) (LE X.K (dLst g)):=⟨zbf1 (h:=h.pe)⟩
end
section
variable {X:Cx} {e:Expr} {es:List Expr} {f:DE} {g:DA} {pos:Pos}
theorem zE3 (h:QA X es (LA X.K g)):QE X (.List es pos) (LE X.K (zae7 g)):=⟨zaT1 (h:=h.pe)⟩
end
section
variable {X:Cx} {a b c e:Expr} {es:List Expr} {f g:DE} {ga:DA} {pos p2 p:Pos}
theorem zX2 (ha:QE X a (LE X.K f)):QE X (.UnaryOp .USub a pos) (LE X.K (dNeg f)):=⟨zbh9 (ha:=ha.pe)⟩
end
section
variable {X:Cx} {a b c e:Expr} {es:List Expr} {f g:DE} {ga:DA} {pos p2 p:Pos}
theorem zb0 (ha:QE X a (LE X.K f)) (hb:QE X b (LE X.K g)) (hs:zap0 b:=by exact fun _ _=>rfl):QE X (.Subscript a b pos) (LE X.K (dBin aIx f g)):=⟨zbp4 (ha:=ha.pe) (hb:=hb.pe) (hs:=hs)⟩
end
section
variable {X:Cx} {a b c e:Expr} {es:List Expr} {f g:DE} {ga:DA} {pos p2 p:Pos}
theorem zO1  : QO X none (LO X.K dNoP):=⟨zaZ5 ⟩
end
section
variable {X:Cx} {a b c e:Expr} {es:List Expr} {f g:DE} {ga:DA} {pos p2 p:Pos}
theorem zQ4 (ha:QE X a (LE X.K f)):QO X (some a) (LO X.K (zag9 f)):=⟨zaX4 (ha:=ha.pe)⟩
end
section
variable {X:Cx} {a b c e:Expr} {es:List Expr} {f g:DE} {ga:DA} {pos p2 p:Pos}
end
section
variable {X:Cx} {a b c e:Expr} {es:List Expr} {f g:DE} {ga:DA} {pos p2 p:Pos}
theorem zc3 {x:Str} {id:String} {r:DC} (hc:CallD X (.builtin id) r) (hg:Gl X x) (hm:X.mg x=none) (hv:bootBuiltins x=some (.builtin id)) (ha:QA X (e :: es) (LA X.K ga)) (hn:x≠"__name__":=by decide) (hdb:(x == ("__debug__" : Str))=false:=by decide) (he:starEach (e :: es) X.env=(false,eval e X.env) :: starEach es X.env:=by rfl) (hpl:(backTo pos (starEach es X.env)).any (·.1)=false:=by rfl):QE X (.Call (.Name x p) (e :: es) [] pos) (LE X.K (zc6 r ga)):=⟨zaO1 (hc:=hc) (hg:=hg) (hm:=hm) (hv:=hv) (ha:=ha.pe) (hn:=hn) (hdb:=hdb) (he:=he) (hpl:=hpl)⟩
end
section
variable {X:Cx} {a b c e:Expr} {es:List Expr} {f g:DE} {ga:DA} {pos p2 p:Pos}
theorem ze2 {x:Str} {T:String} {r:DC} (hc:CallD X (.type T) r) (hg:Gl X x) (hm:X.mg x=none) (hv:bootBuiltins x=some (.type T)) (ha:QA X (e :: es) (LA X.K ga)) (hn:x≠"__name__":=by decide) (hdb:(x == ("__debug__" : Str))=false:=by decide) (he:starEach (e :: es) X.env=(false,eval e X.env) :: starEach es X.env:=by rfl) (hpl:(backTo pos (starEach es X.env)).any (·.1)=false:=by rfl):QE X (.Call (.Name x p) (e :: es) [] pos) (LE X.K (zc6 r ga)):=⟨zaE7 (hc:=hc) (hg:=hg) (hm:=hm) (hv:=hv) (ha:=ha.pe) (hn:=hn) (hdb:=hdb) (he:=he) (hpl:=hpl)⟩
end
section
variable {X:Cx} {st:Stmt} {rest body orelse:List Stmt} {t u b:DS} {e c tg iter:Expr} {f:DE} {tc:DT} {pos:Pos}
theorem za6  : QSs X [] (LS X.K zb7):=⟨zaT3 ⟩
end
section
variable {X:Cx} {st:Stmt} {rest body orelse:List Stmt} {t u b:DS} {e c tg iter:Expr} {f:DE} {tc:DT} {pos:Pos}
theorem za2 (h1:QS X st (LS X.K t)) (h2:QSs X rest (LS X.K u)):QSs X (st :: rest) (LS X.K (dSeq t u)):=⟨zaM1 (h1:=h1.pe) (h2:=h2.pe)⟩
end
section
variable {X:Cx} {st:Stmt} {rest body orelse:List Stmt} {t u b:DS} {e c tg iter:Expr} {f:DE} {tc:DT} {pos:Pos}
end
section
variable {X:Cx} {st:Stmt} {rest body orelse:List Stmt} {t u b:DS} {e c tg iter:Expr} {f:DE} {tc:DT} {pos:Pos}
theorem zz3 (he:QE X e (LE X.K f)) (hs:swapsWith e none pos.line X.env=pure false:=by rfl):QS X (.Expr e pos) (LS X.K (zac3 f)):=⟨zaV2 (he:=he.pe) (hs:=hs)⟩
end
section
variable {X:Cx} {st:Stmt} {rest body orelse:List Stmt} {t u b:DS} {e c tg iter:Expr} {f:DE} {tc:DT} {pos:Pos}
theorem zb5 (he:QE X e (LE X.K f)):QS X (.Return (some e) pos) (LS X.K (dRet f)):=⟨zbg7 (he:=he.pe)⟩
end
section
variable {X:Cx} {st:Stmt} {rest body orelse:List Stmt} {t u b:DS} {e c tg iter:Expr} {f:DE} {tc:DT} {pos:Pos}
theorem zg2 (hc:QT X c (LT X.K tc)) (h1:QSs X body (LS X.K t)) (h2:QSs X orelse (LS X.K u)):QS X (.If c body orelse pos) (LS X.K (dIf tc t u)):=⟨zbl4 (hc:=hc.pe) (h1:=h1.pe) (h2:=h2.pe)⟩
end
section
variable {X:Cx} {st:Stmt} {rest body orelse:List Stmt} {t u b:DS} {e c tg iter:Expr} {f:DE} {tc:DT} {pos:Pos}
theorem zb2 (i:Nat) {x:Str} {pos':Pos} (hN:X.N.Nodup) (he:QE X e (LE X.K f)) (hi:X.N[i]?=some x:=by rfl) (hx:Loc X.env.scope x:=by first | exact Or.inl rfl | exact Or.inr rfl) (hs:swapsWith e (some (.Name x pos')) pos.line X.env=pure false:=by rfl) (hf:X.fn x=true∨X.env.scope.names.lookup x=some .local:=by first | exact .inl rfl | exact .inr rfl):QS X (.Assign [.Name x pos'] e pos) (LS X.K (dSet i f)):=⟨zba7 (i:=i) (hN:=hN) (he:=he.pe) (hi:=hi) (hx:=hx) (hs:=hs) (hf:=hf)⟩
end
section
variable {X:Cx} {st:Stmt} {rest body orelse:List Stmt} {t u b:DS} {e c tg iter:Expr} {f:DE} {tc:DT} {pos:Pos}
theorem zb9 (i:Nat) {x:Str} (hN:X.N.Nodup) (hi:X.N[i]?=some x:=by rfl) (hx:Loc X.env.scope x:=by first | exact Or.inl rfl | exact Or.inr rfl) (hf:X.fn x=true∨X.env.scope.names.lookup x=some .local:=by first | exact .inl rfl | exact .inr rfl):QG X (.Name x pos) (LG X.K (gN i)):=⟨zaW4 (i:=i) (hN:=hN) (hi:=hi) (hx:=hx) (hf:=hf)⟩
end
section
variable {X:Cx} {st:Stmt} {rest body orelse:List Stmt} {t u b:DS} {e c tg iter:Expr} {f:DE} {tc:DT} {pos:Pos}
theorem zo5  : QGs X [] (LGs X.K gN0):=⟨zaV9 ⟩
end
section
variable {X:Cx} {st:Stmt} {rest body orelse:List Stmt} {t u b:DS} {e c tg iter:Expr} {f:DE} {tc:DT} {pos:Pos}
theorem zc9 {es:List Expr} {g:DG} {r:DGs} (h1:QG X e (LG X.K g)) (h2:QGs X es (LGs X.K r)) (hs:(assignEach (e :: es) X.env).map (·.2)=assign e X.env :: (assignEach es X.env).map (·.2):=by rfl):QGs X (e :: es) (LGs X.K (gNs g r)):=⟨zaN2 (h1:=h1.pe) (h2:=h2.pe) (hs:=hs)⟩
end
section
variable {X:Cx} {st:Stmt} {rest body orelse:List Stmt} {t u b:DS} {e c tg iter:Expr} {f:DE} {tc:DT} {pos:Pos}
theorem zv3 {es:List Expr} {j n:Nat} {g:DGs} (hc:X.calm=true) (h:QGs X es (LGs X.K g)) (hn:(assignEach es X.env).length=n:=by rfl) (hst:(assignEach es X.env).findIdx? (·.1)=none:=by rfl):QG X (.Tuple es j pos) (LG X.K (gT n g)):=⟨zbc4 (hc:=hc) (h:=h.pe) (hn:=hn) (hst:=hst)⟩
end
section
variable {X:Cx} {st:Stmt} {rest body orelse:List Stmt} {t u b:DS} {e c tg iter:Expr} {f:DE} {tc:DT} {pos:Pos}
theorem zao9 {g:DG} (he:QE X e (LE X.K f)) (hg:QG X tg (LG X.K g)) (hs:swapsWithSole [tg] e pos.line X.env=pure false:=by rfl) (hw:swappedStores [tg] e X.env=pure none:=by rfl) (h1:(assignEach [tg] X.env).map (·.2)=[assign tg X.env]:=by rfl):QS X (.Assign [tg] e pos) (LS X.K (dAsg f g)):=⟨zbh0 (he:=he.pe) (hg:=hg.pe) (hs:=hs) (hw:=hw) (h1:=h1)⟩
end
section
variable {X:Cx} {st:Stmt} {rest body orelse:List Stmt} {t u b:DS} {e c tg iter:Expr} {f:DE} {tc:DT} {pos:Pos}
theorem zaW8 (i j:Nat) {x y:Str} {a b:Expr} {g:DA} {px py pt:Pos} {kt k2 pt2} (hc:X.calm=true) (hN:X.N.Nodup) (ha:QA X [a,b] (LA X.K g)) (hi:X.N[i]?=some x:=by rfl) (hj:X.N[j]?=some y:=by rfl) (hij:i≠j:=by decide) (hx:X.env.scope.names.lookup x=some .local:=by rfl) (hy:X.env.scope.names.lookup y=some .local:=by rfl) (hw:swappedStores [.Tuple [.Name x px,.Name y py] kt pt] (.Tuple [a,b] k2 pt2) X.env=pure (some [x,y]):=by rfl) (hs:swapsWithSole [.Tuple [.Name x px,.Name y py] kt pt] (.Tuple [a,b] k2 pt2) pos.line X.env=pure false:=by rfl):QS X (.Assign [.Tuple [.Name x px,.Name y py] kt pt] (.Tuple [a,b] k2 pt2) pos) (LS X.K (dPar i j g)):=⟨zbg9 (i:=i) (j:=j) (hc:=hc) (hN:=hN) (ha:=ha.pe) (hi:=hi) (hj:=hj) (hij:=hij) (hx:=hx) (hy:=hy) (hw:=hw) (hs:=hs)⟩
end
section
variable {X:Cx} {st:Stmt} {rest body orelse:List Stmt} {t u b:DS} {e c tg iter:Expr} {f:DE} {tc:DT} {pos:Pos}
theorem zaC4 {o i:Expr} {fo fi:DE} {tpos:Pos} (he:QE X e (LE X.K f)) (ho:QE X o (LE X.K fo)) (hi:QE X i (LE X.K fi)) (ha:∀ v,assign (.Subscript o i tpos) X.env v=(do
      let ov ← holding [v] (eval o X.env)
      let iv ← holding [v,ov] (eval i X.env)
      standAt tpos
      holding [v,ov,iv] (setItem ov iv v)
      release [v,ov,iv] []):=by intro _; rfl) (hs:swapsWithSole [.Subscript o i tpos] e pos.line X.env=pure false:=by rfl) (hw:swappedStores [.Subscript o i tpos] e X.env=pure none:=by rfl) (h1:(assignEach [.Subscript o i tpos] X.env).map (·.2)=[assign (.Subscript o i tpos) X.env]:=by rfl):QS X (.Assign [.Subscript o i tpos] e pos) (LS X.K (dPut fo fi f)):=⟨zbf3 (he:=he.pe) (ho:=ho.pe) (hi:=hi.pe) (ha:=ha) (hs:=hs) (hw:=hw) (h1:=h1)⟩
end
section
variable {X:Cx} {st:Stmt} {rest body orelse:List Stmt} {t u b:DS} {e c tg iter:Expr} {f:DE} {tc:DT} {pos:Pos}
theorem zao0 (hp:PassesOwn (model X.prog X.w) X.A X.env X.xe) (hc:QT X c (LT X.K tc)) (hb:QSs X body (LS X.K b)):QS X (.While c body [] pos) (LS X.K (zau4 tc b)):=⟨zaO2 (hp:=hp) (hc:=hc.pe) (hb:=hb.pe)⟩
end
section
variable {X:Cx} {st:Stmt} {rest body orelse:List Stmt} {t u b:DS} {e c tg iter:Expr} {f:DE} {tc:DT} {pos:Pos}
theorem zq6 (ha:QE X e (LE X.K f)):QI X tg e (LI X.K (zz8 f)):=⟨zba3 (ha:=ha.pe)⟩
end
section
variable {X:Cx} {st:Stmt} {rest body orelse:List Stmt} {t u b:DS} {e c tg iter:Expr} {f:DE} {tc:DT} {pos:Pos}
theorem zj0 {p:Pos} (hg:Gl X "range") (hm:X.mg "range"=none) (ha:QE X e (LE X.K f)) (hs:starEach [e] X.env=[(false,eval e X.env)]:=by rfl):QI X tg (.Call (.Name "range" p) [e] [] pos) (LI X.K (zO8 f)):=⟨zaM5 (hg:=hg) (hm:=hm) (ha:=ha.pe) (hs:=hs)⟩
end
section
variable {X:Cx} {st:Stmt} {rest body orelse:List Stmt} {t u b:DS} {e c tg iter:Expr} {f:DE} {tc:DT} {pos:Pos}
theorem zE1 {fi:DI} {g:DG} (hp:PassesOwn (model X.prog X.w) X.A X.env X.xe) (hc:X.calm=true) (hi:QI X tg iter (LI X.K fi)) (hg:QG X tg (LG X.K g)) (hb:QSs X body (LS X.K b)) (hs:∀ x,foldedSetIterable iter X.env x=pure x:=by intro _; rfl):QS X (.For tg iter body [] pos) (LS X.K (dFor fi g b)):=⟨zbd8 (hp:=hp) (hc:=hc) (hi:=hi.pe) (hg:=hg.pe) (hb:=hb.pe) (hs:=hs)⟩
end
section
variable {X:Cx} {a e:Expr} {es:List Expr} {f:DE} {ga:DA} {pos p p1 p2 p3 p4:Pos}
end
section
variable {X:Cx} {a e:Expr} {es:List Expr} {f:DE} {ga:DA} {pos p p1 p2 p3 p4:Pos}
theorem zab5 {T:Str} {c:String} (hg:Gl X "isinstance") (hm:X.mg "isinstance"=none) (hgT:Gl X T) (hmT:X.mg T=none) (hv:bootBuiltins T=some (.type c)) (hc:c="int"∨c="bool"∨c="str"∨c="tuple"∨c="list") (ha:QE X a (LE X.K f)) (hn:T≠"__name__":=by decide) (hd:(T == ("__debug__" : Str))=false:=by decide) (he:starEach [a,.Name T p2] X.env=(false,eval a X.env) :: starEach [.Name T p2] X.env:=by rfl):QE X (.Call (.Name "isinstance" p1) [a,.Name T p2] [] pos) (LE X.K (dIsi f c)):=⟨zbk2 (hg:=hg) (hm:=hm) (hgT:=hgT) (hmT:=hmT) (hv:=hv) (hc:=hc) (ha:=ha.pe) (hn:=hn) (hd:=hd) (he:=he)⟩
end
section
variable {X:Cx} {a e:Expr} {es:List Expr} {f:DE} {ga:DA} {pos p p1 p2 p3 p4:Pos}
end
section
variable {X:Cx} {a e:Expr} {es:List Expr} {f:DE} {ga:DA} {pos p p1 p2 p3 p4:Pos}
theorem za7 {k n:Nat} {fa:Addr} {fd:FuncData} {ps:List Str} {sp:DC} {x:Str} (F:FnOk X.prog X.w X.K X.mg X.base CX0 k fa fd ps (LSp X.K n sp)) (hr:Room k X.A) (hm:X.mg x=some (.ref fa)) (hk:PySem.W.keepIn X.K (.ref fa)=true) (hb:Binds X.K fd ps []) (hx:X.xe=fun _ _=>False) (ha:QA X (e :: es) (LA X.K ga)) (hg:Gl X x:=by rfl) (hdb:(x == ("__debug__" : Str))=false:=by decide) (he:starEach (e :: es) X.env=(false,eval e X.env) :: starEach es X.env:=by rfl) (hpl:(backTo pos (starEach es X.env)).any (·.1)=false:=by rfl):QE X (.Call (.Name x p) (e :: es) [] pos) (LE X.K (zb6 n sp ga)):=⟨zaZ9 (F:=F) (hr:=hr) (hm:=hm) (hk:=hk) (hb:=hb) (hx:=hx) (ha:=ha.pe) (hg:=hg) (hdb:=hdb) (he:=he) (hpl:=hpl)⟩
end
section
theorem zn5 {Y:Cx}:QF Y [] (LT Y.K zx1):=⟨zbb4 ⟩
end
section
theorem zZ1 {Y:Cx} {c:Expr} {t:TT} (h:QT Y c t):QF Y [c] t:=⟨zbj9 (h:=h.pe)⟩
end
section
variable {X:Cx} {a e o:Expr} {es:List Expr} {f g:DE} {ga:DA} {pos p p1 p2:Pos}
theorem zaZ6 {x:Str} {c:Addr} {zs:List Str} (hg:Gl X x) (hm:X.mg x=some (.ref c)) (hk:KT X.K c zs) (hd:(x == ("__debug__" : Str))=false:=by decide):QE X (.Name x pos) (LE X.K (dCon (.tuple (zs.map .str)))):=⟨zbc1 (hg:=hg) (hm:=hm) (hk:=hk) (hd:=hd)⟩
end
section
variable {X:Cx} {a e o:Expr} {es:List Expr} {f g:DE} {ga:DA} {pos p p1 p2:Pos}
end
section
variable {X:Cx} {a e o:Expr} {es:List Expr} {f g:DE} {ga:DA} {pos p p1 p2:Pos}
end
section
variable {X:Cx} {tg iter elt:Expr} {ifs:List Expr} {scope:Scope} {fi:DI} {g:DG} {t:DT} {f:DE} {pos:Pos}
theorem zD5 (NC:List Str) (src:List (Option Nat)) (hc:X.calm=true) (hi:QI X tg iter (LI X.K fi)) (hg:∀ cl C s2 H2 pins fp,QG (cyOf X scope cl C NC s2 H2 pins fp) tg (LG X.K g)) (ht:∀ cl C s2 H2 pins fp,QF (cyOf X scope cl C NC s2 H2 pins fp) ifs (LT X.K t)) (he:∀ cl C s2 H2 pins fp,QE (cyOf X scope cl C NC s2 H2 pins fp) elt (LE X.K f)) (hkind:scope.kind=.function:=by rfl) (hB:chkB scope X.env=true:=by rfl) (hS:chkS X.N scope X.env NC src=true:=by rfl) (hs:∀ x,foldedSetIterable iter X.env x=pure x:=by intro _; rfl):QE X (.ListComp elt [⟨tg,iter,ifs,0⟩] scope pos) (LE X.K (dLC src fi g t f)):=⟨zbd9 (NC:=NC) (src:=src) (hc:=hc) (hi:=hi.pe) (hg:=fun cl C s2 H2 pins fp=>(hg cl C s2 H2 pins fp).pe) (ht:=fun cl C s2 H2 pins fp=>(ht cl C s2 H2 pins fp).pe) (he:=fun cl C s2 H2 pins fp=>(he cl C s2 H2 pins fp).pe) (hkind:=hkind) (hB:=hB) (hS:=hS) (hs:=hs)⟩
end
section
variable {X:Cx} {tg iter elt:Expr} {ifs:List Expr} {scope:Scope} {fi:DI} {g:DG} {t:DT} {f:DE} {pos:Pos}
end
section
variable {X:Cx} {tg iter elt:Expr} {ifs:List Expr} {scope:Scope} {fi:DI} {g:DG} {t:DT} {f:DE} {pos:Pos}
theorem zM7 (i:Nat) {y:Str} {py spos:Pos} (NC:List Str) (src:List (Option Nat)) (hc:X.calm=true) (hN:X.N.Nodup) (hi:QI X tg iter (LI X.K fi)) (hg:∀ cl C s2 H2 pins fp,QG (cyOf X scope cl C NC s2 H2 pins fp) tg (LG X.K g)) (ht:∀ cl C s2 H2 pins fp,QF (cyOf X scope cl C NC s2 H2 pins fp) ifs (LT X.K t)) (he:∀ cl C s2 H2 pins fp,QE (cyOf X scope cl C NC s2 H2 pins fp) elt (LE X.K f)) (hkind:scope.kind=.function:=by rfl) (hB:chkB scope X.env=true:=by rfl) (hS:chkS X.N scope X.env NC src=true:=by rfl) (hi2:X.N[i]?=some y:=by rfl) (hx:Loc X.env.scope y:=by first | exact Or.inl rfl | exact Or.inr rfl) (hf:X.fn y=true∨X.env.scope.names.lookup y=some .local:=by first | exact .inl rfl | exact .inr rfl) (hsw:swapsWith (.ListComp elt [⟨tg,iter,ifs,0⟩] scope pos) (some (.Name y py)) spos.line X.env=pure true:=by rfl) (hs:∀ x,foldedSetIterable iter X.env x=pure x:=by intro _; rfl):QS X (.Assign [.Name y py] (.ListComp elt [⟨tg,iter,ifs,0⟩] scope pos) spos) (LS X.K (dSet i (dLC src fi g t f))):=⟨zbg6 (i:=i) (NC:=NC) (src:=src) (hc:=hc) (hN:=hN) (hi:=hi.pe) (hg:=fun cl C s2 H2 pins fp=>(hg cl C s2 H2 pins fp).pe) (ht:=fun cl C s2 H2 pins fp=>(ht cl C s2 H2 pins fp).pe) (he:=fun cl C s2 H2 pins fp=>(he cl C s2 H2 pins fp).pe) (hkind:=hkind) (hB:=hB) (hS:=hS) (hi2:=hi2) (hx:=hx) (hf:=hf) (hsw:=hsw) (hs:=hs)⟩
end
section
variable {X:Cx} {a b:Expr} {elts:List Expr} {j:Nat} {f g:DE} {pos p p2:Pos}
theorem zaV5 (hg:Gl X "zip") (hm:X.mg "zip"=none) (ha:QE X a (LE X.K f)) (hb:QE X b (LE X.K g)) (hs:starEach [a,b] X.env=[(false,eval a X.env),(false,eval b X.env)]:=by rfl) (hs2:starEach [b] X.env=[(false,eval b X.env)]:=by rfl):QI X (.Tuple elts j p2) (.Call (.Name "zip" p) [a,b] [] pos) (LI X.K (zaO8 f g)):=⟨zbg5 (hg:=hg) (hm:=hm) (ha:=ha.pe) (hb:=hb.pe) (hs:=hs) (hs2:=hs2)⟩
end
section
variable {X:Cx} {a e o:Expr} {es:List Expr} {f g:DE} {ga:DA} {pos p p1 p2:Pos}
theorem zaM7 {z:Str} {jc:Nat} {apos cpos:Pos} (he:QE X e (LE X.K g)) (hbase:attributeBase (.Constant (.str z) jc p) "join" X.env (eval (.Constant (.str z) jc p) X.env)=eval (.Constant (.str z) jc p) X.env:=by rfl) (hfew:((backTo cpos (starEach [e] X.env)).all (fun x=>!x.1) && (backToKw cpos (keywordEach [] X.env)).all (fun x=>x.1.isSome) && decide ([e].length + ([]:List Keyword).length + (if ([]:List Keyword).isEmpty then 0 else 1) < 30))=true:=by rfl) (hline:(apos.endLine == cpos.line)=true:=by rfl) (hs:starEach [e] X.env=(false,eval e X.env) :: starEach [] X.env:=by rfl):QE X (.Call (.Attribute (.Constant (.str z) jc p) "join" apos) [e] [] cpos) (LE X.K (zaT7 z g)):=⟨zaW0 (he:=he.pe) (hbase:=hbase) (hfew:=hfew) (hline:=hline) (hs:=hs)⟩
end
section
variable {X:Cx} {a e o:Expr} {es:List Expr} {f g:DE} {ga:DA} {pos p p1 p2:Pos}
theorem zG2 {apos cpos:Pos} (ho:QE X o (LE X.K f)) (he:QE X e (LE X.K g)) (hbase:attributeBase o "append" X.env (eval o X.env)=eval o X.env:=by rfl) (hfew:((backTo cpos (starEach [e] X.env)).all (fun x=>!x.1) && (backToKw cpos (keywordEach [] X.env)).all (fun x=>x.1.isSome) && decide ([e].length + ([]:List Keyword).length + (if ([]:List Keyword).isEmpty then 0 else 1) < 30))=true:=by rfl) (hline:(apos.endLine == cpos.line)=true:=by rfl) (hs:starEach [e] X.env=(false,eval e X.env) :: starEach [] X.env:=by rfl):QE X (.Call (.Attribute o "append" apos) [e] [] cpos) (LE X.K (dApp f g)):=⟨zbf5 (ho:=ho.pe) (he:=he.pe) (hbase:=hbase) (hfew:=hfew) (hline:=hline) (hs:=hs)⟩
end
section
variable {X:Cx} {a e o:Expr} {es:List Expr} {f g:DE} {ga:DA} {pos p p1 p2:Pos}
theorem zar1 {lo hi:Option Expr} {tl th:DO} (ha:QE X a (LE X.K f)) (hl:QO X lo (LO X.K tl)) (hu:QO X hi (LO X.K th)):QE X (.Subscript a (.Slice lo hi none p2) pos) (LE X.K (dSlX f tl th)):=⟨zbi9 (ha:=ha.pe) (hl:=hl.pe) (hu:=hu.pe)⟩
end
section
variable {X:Cx} {o i e:Expr} {fo fi f:DE} {pos tpos:Pos}
end
section
variable {X:Cx} {o i e:Expr} {fo fi f:DE} {pos tpos:Pos}
end
section
variable {X:Cx} {o i e:Expr} {fo fi f:DE} {pos tpos:Pos}
theorem zaO7 (hu:X.A.units + 100 < cLine) (ho:QE X o (LE X.K fo)) (hi:QE X i (LE X.K fi)) (hs:NoSl i:=by exact fun _ _=>rfl):QE X (.Subscript o i pos) (LE X.K (zaS9 fo fi)):=⟨zaV7 (hu:=hu) (ho:=ho.pe) (hi:=hi.pe) (hs:=hs)⟩
end
section
variable {X:Cx} {e:Expr} {f:DE} {pos p p2 pos2:Pos}
end
section
variable {X:Cx} {i e g:Expr} {fi f fg:DE} {p pos apos cpos:Pos}
theorem zaF2 {x:Str} {c:Addr} {kvs:List (Str×PyData)} (hg:Gl X x) (hm:X.mg x=some (.ref c)) (hk:KD X.K X.w c kvs) (hi:QE X i (LE X.K fi)) (hd:(x == ("__debug__" : Str))=false:=by decide) (hs:NoSl i:=by exact fun _ _=>rfl):QE X (.Subscript (.Name x p) i pos) (LE X.K (zav4 kvs fi)):=⟨zaN7 (hg:=hg) (hm:=hm) (hk:=hk) (hi:=hi.pe) (hd:=hd) (hs:=hs)⟩
end
section
variable {X:Cx} {i e g:Expr} {fi f fg:DE} {p pos apos cpos:Pos}
end
section
variable {X:Cx} {e g:Expr} {f fg:DE} {tg:Expr} {pos:Pos}
theorem zaz2 {p:Pos} (hg:Gl X "range") (hm:X.mg "range"=none) (ha:QE X e (LE X.K f)) (hb:QE X g (LE X.K fg)) (hs:starEach [e,g] X.env=[(false,eval e X.env),(false,eval g X.env)]:=by rfl) (hs2:starEach [g] X.env=[(false,eval g X.env)]:=by rfl):QI X tg (.Call (.Name "range" p) [e,g] [] pos) (LI X.K (zaG5 f fg)):=⟨zaE5 (hg:=hg) (hm:=hm) (ha:=ha.pe) (hb:=hb.pe) (hs:=hs) (hs2:=hs2)⟩
end
section
variable {X:Cx} {o i e:Expr} {es:List Expr} {fo f:DE} {fa:DA} {pos tpos ipos:Pos} {j:Nat}
end
section
variable {X:Cx} {o i e:Expr} {es:List Expr} {fo f:DE} {fa:DA} {pos tpos ipos:Pos} {j:Nat}
end
section
variable {X:Cx} {o i e:Expr} {es:List Expr} {fo f:DE} {fa:DA} {pos tpos ipos:Pos} {j:Nat}
end
section
variable {X:Cx} {e:Expr} {f:DE} {pos p:Pos}
theorem zaJ8 (hc:X.calm=true) (hg:Gl X "dict") (hm:X.mg "dict"=none) (he:QE X e (LE X.K f)) (hs:starEach [e] X.env=[(false,eval e X.env)]:=by rfl):QE X (.Call (.Name "dict" p) [e] [] pos) (LE X.K (zaH9 f)):=⟨zaK9 (hc:=hc) (hg:=hg) (hm:=hm) (he:=he.pe) (hs:=hs)⟩
end
section
variable {X:Cx} {tg iter tg2 iter2 elt:Expr} {ifs ifs2:List Expr} {scope:Scope} {NC:List Str} {fi fi2:DI} {g g2:DG} {t t2:DT} {f:DE} {pos:Pos}
end
section
variable {X:Cx} {tg iter tg2 iter2 elt:Expr} {ifs ifs2:List Expr} {scope:Scope} {NC:List Str} {fi fi2:DI} {g g2:DG} {t t2:DT} {f:DE} {pos:Pos}
theorem zau7 (NC:List Str) (src:List (Option Nat)) (hc:X.calm=true) (hi:QI X tg iter (LI X.K fi)) (hg:∀ cl C s2 H2 pins fp,QG (cyOf X scope cl C NC s2 H2 pins fp) tg (LG X.K g)) (ht:∀ cl C s2 H2 pins fp,QF (cyOf X scope cl C NC s2 H2 pins fp) ifs (LT X.K t)) (hi2:∀ cl C s2 H2 pins fp,QI (cyOf X scope cl C NC s2 H2 pins fp) tg2 iter2 (LI X.K fi2)) (hg2:∀ cl C s2 H2 pins fp,QG (cyOf X scope cl C NC s2 H2 pins fp) tg2 (LG X.K g2)) (ht2:∀ cl C s2 H2 pins fp,QF (cyOf X scope cl C NC s2 H2 pins fp) ifs2 (LT X.K t2)) (he:∀ cl C s2 H2 pins fp,QE (cyOf X scope cl C NC s2 H2 pins fp) elt (LE X.K f)) (hkind:scope.kind=.function:=by rfl) (hB:chkB scope X.env=true:=by rfl) (hS:chkS X.N scope X.env NC src=true:=by rfl) (hs2:∀ cl C x,foldedSetIterable iter2 (compEnvC scope cl C X.env) x=pure x:=by intro _ _ _; rfl) (hs:∀ x,foldedSetIterable iter X.env x=pure x:=by intro _; rfl):QE X (.ListComp elt [⟨tg,iter,ifs,0⟩,⟨tg2,iter2,ifs2,0⟩] scope pos) (LE X.K (dLC2 src fi g t fi2 g2 t2 f)):=⟨zaU6 (NC:=NC) (src:=src) (hc:=hc) (hi:=hi.pe) (hg:=fun cl C s2 H2 pins fp=>(hg cl C s2 H2 pins fp).pe) (ht:=fun cl C s2 H2 pins fp=>(ht cl C s2 H2 pins fp).pe) (hi2:=fun cl C s2 H2 pins fp=>(hi2 cl C s2 H2 pins fp).pe) (hg2:=fun cl C s2 H2 pins fp=>(hg2 cl C s2 H2 pins fp).pe) (ht2:=fun cl C s2 H2 pins fp=>(ht2 cl C s2 H2 pins fp).pe) (he:=fun cl C s2 H2 pins fp=>(he cl C s2 H2 pins fp).pe) (hkind:=hkind) (hB:=hB) (hS:=hS) (hs2:=hs2) (hs:=hs)⟩
end
section
variable {X:Cx} {e g:Expr} {fi fg:DE} {p apos cpos:Pos}
theorem zaz4 {x:Str} {c:Addr} {kvs:List (List Str×PyData)} (hu:X.A.units + 100 < cLine) (hg:Gl X x) (hm:X.mg x=some (.ref c)) (hk:KTD X.K X.w c kvs) (he:QE X e (LE X.K fi)) (hf:QE X g (LE X.K fg)) (hd:(x == ("__debug__" : Str))=false:=by decide) (hbase:attributeBase (.Name x p) "get" X.env (eval (.Name x p) X.env)=eval (.Name x p) X.env:=by rfl) (hfew:((backTo cpos (starEach [e,g] X.env)).all (fun x=>!x.1) && (backToKw cpos (keywordEach [] X.env)).all (fun x=>x.1.isSome) && decide (([e,g]:List Expr).length + ([]:List Keyword).length + (if ([]:List Keyword).isEmpty then 0 else 1) < 30))=true:=by rfl) (hline:(apos.endLine == cpos.line)=true:=by rfl) (hs:backTo cpos (starEach [e,g] X.env)=[(false,eval e X.env),(false,eval g X.env)]:=by rfl):QE X (.Call (.Attribute (.Name x p) "get" apos) [e,g] [] cpos) (LE X.K (zaj1 kvs fi fg)):=⟨zaB4 (hu:=hu) (hg:=hg) (hm:=hm) (hk:=hk) (he:=he.pe) (hf:=hf.pe) (hd:=hd) (hbase:=hbase) (hfew:=hfew) (hline:=hline) (hs:=hs)⟩
end
section
variable {X:Cx} {o e:Expr} {f g:DE} {apos cpos:Pos}
theorem zaK6 (ho:QE X o (LE X.K f)) (he:QE X e (LE X.K g)) (hbase:attributeBase o "index" X.env (eval o X.env)=eval o X.env:=by rfl) (hfew:((backTo cpos (starEach [e] X.env)).all (fun x=>!x.1) && (backToKw cpos (keywordEach [] X.env)).all (fun x=>x.1.isSome) && decide ([e].length + ([]:List Keyword).length + (if ([]:List Keyword).isEmpty then 0 else 1) < 30))=true:=by rfl) (hline:(apos.endLine == cpos.line)=true:=by rfl) (hs:backTo cpos (starEach [e] X.env)=[(false,eval e X.env)]:=by rfl):QE X (.Call (.Attribute o "index" apos) [e] [] cpos) (LE X.K (zaW2 f g)):=⟨zaV3 (ho:=ho.pe) (he:=he.pe) (hbase:=hbase) (hfew:=hfew) (hline:=hline) (hs:=hs)⟩
end
section
variable {X:Cx} {o e:Expr} {f g:DE} {apos cpos:Pos}
end
section
variable {X:Cx} {a:Expr} {f:DE} {pos p2:Pos}
theorem zaF3 {lo hi:Option Expr} {tl th:DO} (ha:QE X a (LE X.K f)) (hl:QO X lo (LO X.K tl)) (hu:QO X hi (LO X.K th)):QE X (.Subscript a (.Slice lo hi none p2) pos) (LE X.K (dSlE f tl th)):=⟨zbj5 (ha:=ha.pe) (hl:=hl.pe) (hu:=hu.pe)⟩
end
section
variable {X:Cx} {a:Expr} {elts:List Expr} {j:Nat} {f:DE} {pos p p2:Pos}
theorem zaL2 (hg:Gl X "enumerate") (hm:X.mg "enumerate"=none) (ha:QE X a (LE X.K f)) (hs:starEach [a] X.env=[(false,eval a X.env)]:=by rfl):QI X (.Tuple elts j p2) (.Call (.Name "enumerate" p) [a] [] pos) (LI X.K (zaI2 f)):=⟨zaT5 (hg:=hg) (hm:=hm) (ha:=ha.pe) (hs:=hs)⟩
end
section
variable {X:Cx} {a:Expr} {elts:List Expr} {j:Nat} {f:DE} {pos p p2:Pos}
theorem zaH4 (hg:Gl X "enumerate") (hm:X.mg "enumerate"=none) (ha:QE X a (LE X.K f)) (hs:starEach [a] X.env=[(false,eval a X.env)]:=by rfl):QI X (.Tuple elts j p2) (.Call (.Name "enumerate" p) [a] [] pos) (LI X.K (zaD2 f)):=⟨zaP5 (hg:=hg) (hm:=hm) (ha:=ha.pe) (hs:=hs)⟩
end
section
variable {X:Cx} {a b:Expr} {elts:List Expr} {j:Nat} {f g:DE} {pos p p2:Pos}
end
section
variable {X:Cx} {a:Expr} {f:DE} {pos p2:Pos}
end
section
variable {X:Cx} {e:Expr} {f:DE} {pos p:Pos}
end
section
variable {P:Program} {w:World} {K:PySem.W.Frag} {mg:Str→Option Value} {base:Heap}
theorem zc0 {x qual:Str} {st:Stmt} {fa:Addr} {fd:FuncData} {N ps:List Str} {k:Nat} {sp:DC} {body:DS} (F:Fun K x qual st fa fd) (S:FnScope N ps (za8 st))
    (hb:∀ (cdv:Value) (A:Around) (outer:List Env) (s:Shared) (H:Hp) (E:XK),Room k (A.deeper (envOfC qual (za8 st) s.heap.objs.size fa cdv))→QSs (cxOf CX0 P w K mg base N qual (za8 st) fa cdv A outer s H E).nox (zc1 st) (LS K body))
    (hv:∀ ds m R,ds.length=ps.length→sp ds m R→body { nx:=fun _ m=>R (.dat .none) m,rt:=R } (zb4 N ds) m):FnOk P w K mg base CX0 (k + 1) fa fd ps (LSp K ps.length sp):=zaT2 F S (fun cdv A outer s H E hr=>(hb cdv A outer s H E hr).pe) hv
end
end DL
set_option linter.all false
set_option maxHeartbeats 1000000
namespace K01
open PySem PySem.Spec PyProof.Rows L2 DL
theorem zau2 (a b:Int):Int.gcd b (a.fmod b)=Int.gcd a b:=by
  have h:a.fmod b=a - b * a.fdiv b:=by
    have:=Int.mul_fdiv_add_fmod a b
    omega
  rw [h]
  have h2:a - b * a.fdiv b=a + b * (-(a.fdiv b)):=by rw [Int.mul_neg]; omega
  rw [h2,Int.gcd_add_mul_left_right,Int.gcd_comm]
theorem zaD7 (a b:Int) (h:b≠0):(a.fmod b).natAbs < b.natAbs:=by
  rcases Int.lt_or_gt_of_ne h with h | h
  · have h1:=Int.neg_fmod_neg a b
    have h2:=Int.fmod_lt_of_pos (-a) (show 0 < -b by omega)
    have h3:=Int.fmod_nonneg_of_pos (-a) (show 0 < -b by omega)
    omega
  · have h2:=Int.fmod_lt_of_pos a h
    have h3:=Int.fmod_nonneg_of_pos a h
    omega
theorem log2_lt {n k:Nat} (h:n < 2 ^ k) (hk:0 < k):n.log2 < k:=by
  by_cases hn:n=0
  · subst hn
    simpa using hk
  · exact (Nat.log2_lt hn).mpr h
def Bd (n:Nat) (i:Int):Prop:=i.natAbs < 2 ^ n
theorem Bd.mono {m n:Nat} {i:Int} (h:Bd m i) (hl:m≤n):Bd n i:=Nat.lt_of_lt_of_le h (Nat.pow_le_pow_right (by decide) hl)
theorem Bd.mul {m n:Nat} {i j:Int} (h:Bd m i) (g:Bd n j):Bd (m + n) (i * j):=by
  unfold Bd at *
  rw [Int.natAbs_mul,Nat.pow_add]
  exact Nat.mul_lt_mul'' h g
theorem Bd.add {n:Nat} {i j:Int} (h:Bd n i) (g:Bd n j):Bd (n + 1) (i + j):=by
  unfold Bd at *
  have:=Int.natAbs_add_le i j
  rw [Nat.pow_succ]
  omega
theorem Bd.neg {n:Nat} {i:Int} (h:Bd n i):Bd n (-i):=by
  unfold Bd at *
  rw [Int.natAbs_neg]
  exact h
theorem Bd.sub {n:Nat} {i j:Int} (h:Bd n i) (g:Bd n j):Bd (n + 1) (i - j):=by
  rw [Int.sub_eq_add_neg]
  exact h.add g.neg
theorem Bd.log {n:Nat} {i:Int} (h:Bd n i) (hn:0 < n):i.natAbs.log2 < n:=log2_lt h hn
theorem Bd.mulOk {m n:Nat} {i j:Int} (h:Bd m i) (g:Bd n j) (hm:m + n≤134217728):IntMulOk i j :=
  IntMulOk.of_le (intBits_le_iff.mpr h) (intBits_le_iff.mpr g) hm
def fr (t b:Int):PyData:=.tuple [.int (t / (Int.gcd t b:Int)),.int (b / (Int.gcd t b:Int))]
theorem zah1 {t b:Int} (h:b≠0):(0:Int) < (Int.gcd t b:Int):=by
  have:=Int.gcd_pos_of_ne_zero_right t h
  omega
theorem zaO6 {k t b:Int} (hk:0 < k):fr (k * t) (k * b)=fr t b:=by
  unfold fr
  rw [Int.gcd_mul_left]
  have e:((k.natAbs * t.gcd b:Nat):Int)=k * (t.gcd b:Int):=by
    rw [Int.natCast_mul]
    congr 1
    omega
  rw [e,Int.mul_ediv_mul_of_pos _ _ hk,Int.mul_ediv_mul_of_pos _ _ hk]
theorem zaC3 {x g:Int} (hg:0 < g) (hd:g∣x):0 < x / g ↔ 0 < x:=by
  obtain ⟨y,rfl⟩:=hd
  rw [Int.mul_ediv_cancel_left _ (by omega)]
  constructor
  · intro h; exact Int.mul_pos hg h
  · intro h; exact Int.pos_of_mul_pos_right h hg
end K01
set_option Elab.async false
set_option linter.all false
set_option maxRecDepth 100000
set_option maxHeartbeats 4000000
namespace K14
open PySem PySem.Spec PyProof.Rows L2 DL K01
def zbn8 (xs:List PyData):Prop:=∃ a b c d:Int,xs=[.int a,.int b,.int c,.int d]
def Feeds (m:Mu) (a:Addr):Prop:=∃ xs,m a=some (.l xs)∧zbn8 xs
def Kp (a:Addr) (m m':Mu):Prop:=∀ c,c≠a→(m c).isSome=true→m' c=m c
def Kn (m m':Mu):Prop:=∀ c,(m c).isSome=true→m' c=m c
abbrev I (i:Int):D:=.dat (.int i)
abbrev fq (x:Int×Int):PyData:=.tuple [.int x.1,.int x.2]
def ORD:List Str:=["ahead","meets","overlaps","begins","within","ends","same","ended","holds","begun","lapped","met","behind"]
def kd (k:Bool):Str:=if k then "stretch" else "point"
def WS:Bool→Bool→List Str
  | true,true=>ORD
  | false,false=>["ahead","same","behind"]
  | false,true=>["ahead","begins","within","ends","behind"]
  | true,false=>["ahead","ended","holds","begun","behind"]
def sgn (x:Int):Int:=(if 0 < x then 1 else 0) - (if x < 0 then 1 else 0)
def stn (x y:Int×Int):Int:=sgn (x.1 * y.2 - y.1 * x.2)
def row (i j:Int):Str:=if i < 0 then (if j < 0 then "overlaps" else if j=0 then "ended" else "holds") else if i=0 then (if j < 0 then "begins" else if j=0 then "same" else "begun") else (if j < 0 then "within" else if j=0 then "ends" else "lapped")
def wc (both:Bool) (s1 s2 s3 s4:Int):Str:=if s1 < 0 then "ahead" else if 0 < s2 then "behind" else if both=true∧s1=0 then "meets" else if both=true∧s2=0 then "met" else row s3 s4
def wd (both:Bool) (a0 a1 b0 b1:Int×Int):Str:=wc both (stn a1 b0) (stn a0 b1) (stn a0 b0) (stn a1 b1)
structure Tm (p:PyData) (k:Bool) (x y:Int×Int):Prop where
  eq:p=if k then .tuple [fq x,fq y] else fq x
  px:0 < x.2
  py:0 < y.2
  st:k=true→x.1 * y.2 < y.1 * x.2
  pt:k=false→y=x
  b1:Bd 800 x.1
  b2:Bd 800 x.2
  b3:Bd 800 y.1
  b4:Bd 800 y.2
abbrev kds (k l:Bool):PyData:=.tuple [.str (kd k),.str (kd l)]
def WT:List (Str×List Int):=[("ahead",[-1,-1,-1,-1]),("meets",[-1,-1,0,-1]),("overlaps",[-1,-1,1,-1]),("begins",[0,-1,1,-1]),("within",[1,-1,1,-1]),("ends",[1,-1,1,0]),("same",[0,-1,1,0]),("ended",[-1,-1,1,0]),("holds",[-1,-1,1,1]),("begun",[0,-1,1,1]),("lapped",[1,-1,1,1]),("met",[1,0,1,1]),("behind",[1,1,1,1])]
def w4 (z:Str):List Int:=((WT.find? fun kv=>decide (kv.1=z)).map (·.2)).getD []
def WB (k l:Bool) (z:Str):List Int:=match k,l with
  | true,true=>w4 z
  | false,false=>(w4 z).take 1
  | _,_=>[(w4 z).getD 0 0,(w4 z).getD 3 0]
def zw2:DC:=fun ds m R=>∃ a b:Int,ds=[I a,I b]∧R (I (Int.gcd a b)) m
def zg5:DC:=fun ds m R=>∃ t b:Int,ds=[I t,I b]∧b≠0∧Bd 2000 b∧R (.dat (if 0 < b then fr t b else fr (-t) (-b))) m
abbrev T2 (a b:Int):D:=.dat (.tuple [.int a,.int b])
def zX6:DC:=fun _ _ _=>False
def zi6:DC:=fun ds m R=>∃ x y:Int×Int,ds=[.dat (fq x),.dat (fq y)]∧Bd 2000 x.1∧Bd 2000 x.2∧Bd 2000 y.1∧Bd 2000 y.2∧R (.dat (.bool (decide (x.1 * y.2 < y.1 * x.2)))) m
def zu6:DC:=fun ds m R=>∃ k l,ds=[.dat (kds k l)]∧R (.dat (.tuple ((WS k l).map .str))) m
def zq0:DC:=fun ds m R=>∃ k l z,ds=[.dat (kds k l),.dat (.str z)]∧z∈ORD∧R (.dat (.tuple ((WB k l z).map .int))) m
def zi5:DC:=fun ds m R=>∃ p k x y,ds=[.dat p]∧Tm p k x y∧R (.dat (.bool (!k))) m
def zu3:DC:=fun ds m R=>∃ x y:Int×Int,ds=[.dat (fq x),.dat (fq y)]∧Bd 2000 x.1∧Bd 2000 x.2∧Bd 2000 y.1∧Bd 2000 y.2∧R (I (stn x y)) m
def zt9:DC:=fun ds m R=>∃ p q k l a0 a1 b0 b1,ds=[.dat p,.dat q]∧Tm p k a0 a1∧Tm q l b0 b1∧R (.dat (.str (wd (k && l) a0 a1 b0 b1))) m
def zs5:DC:=fun ds m R=>∃ (ns:List Int) (k:Int),ds=[.dat (.list (ns.map .int)),I k]∧ns.length≤63∧0≤k∧k≤1000∧∀ a m',Feeds m' a→R (.cel a) m'
def za9:DC:=fun ds m R=>∃ (a:Addr) (n:Int),ds=[.cel a,I n]∧0 < n∧Bd 2000 n∧Feeds m a∧∀ (r:Int) m',0≤r→r < n→Feeds m' a→Kp a m m'→R (I r) m'
def zb8:DC:=fun ds m R=>∃ t b:Int,ds=[I t,I b]∧0 < b∧Bd 2000 b∧R (.dat (fr t b)) m
def ze0:DC:=zu3
def zj8:DC:=zt9
abbrev TH (ts:List (Str×Bool)):PyData:=.tuple (ts.map fun t=>.tuple [.str t.1,.str (kd t.2)])
def TmAll:List (Str×Bool)→List PyData→Prop
  | [],[]=>True
  | t :: ts,p :: ps=>(∃ x y,Tm p t.2 x y)∧TmAll ts ps
  | _,_=>False
def ends:PyData→Bool×(Int×Int)×(Int×Int)
  | .tuple [.tuple [.int a,.int b],.tuple [.int c,.int d]]=>(true,(a,b),(c,d))
  | .tuple [.int a,.int b]=>(false,(a,b),(a,b))
  | _=>(false,(0,1),(0,1))
def wdP (p q:PyData):Str:=wd ((ends p).1 && (ends q).1) (ends p).2.1 (ends p).2.2 (ends q).2.1 (ends q).2.2
def bdP (n:Nat) (p:PyData):Prop:=Bd n (ends p).2.1.1∧Bd n (ends p).2.1.2∧Bd n (ends p).2.2.1∧Bd n (ends p).2.2.2
def good (z:Str):Prop:=z.cps.toList.all (fun c=>decide (c < 1114112))=true∧z.length≤20
def Nm (zs:List Str):Prop:=zs.Nodup∧zs.length≤6∧∀ z∈zs,good z
def zl5:DC:=fun ds m R=>∃ (a:Addr) (k:Bool) (base many bottom:Int),ds=[.cel a,.dat (.str (kd k)),I base,I many,I bottom]∧2≤many∧many≤9∧-1000≤base∧base≤1000000∧1≤bottom∧bottom≤1000000∧Feeds m a ∧
  ∀ p x y m',Tm p k x y→bdP 60 p→Feeds m' a→R (.dat p) m'
def zn6:DC:=fun ds m R=>∃ ts:List (Str×Bool),ds=[.dat (TH ts)]∧ts.length≤6∧R (.dat (.list (ts.map fun t=>.str t.1))) m
def zl0:DC:=fun ds m R=>∃ (ts:List (Str×Bool)) (ps:List PyData) (z:Str) (p:PyData),ds=[.dat (TH ts),.dat (.tuple ps),.dat (.str z)]∧ts.length≤6∧z∈ts.map (·.1)∧ps[(ts.map (·.1)).idxOf z]?=some p∧R (.dat p) m
def zf8:DC:=fun ds m R=>∃ (ts:List (Str×Bool)) (ps:List PyData) (a b:Str) (p q:PyData) (k l:Bool) (a0 a1 b0 b1:Int×Int),ds=[.dat (TH ts),.dat (.tuple ps),.dat (.str a),.dat (.str b)]∧ts.length≤6∧a∈ts.map (·.1)∧b∈ts.map (·.1)∧ps[(ts.map (·.1)).idxOf a]?=some p∧ps[(ts.map (·.1)).idxOf b]?=some q∧Tm p k a0 a1∧Tm q l b0 b1∧R (.dat (.str (wd (k && l) a0 a1 b0 b1))) m
def zp3:DC:=fun ds m R=>∃ (a:Addr) (n:Int),ds=[.cel a,I n]∧1≤n∧n≤6∧Feeds m a∧∀ (zs:List Str) m',(zs.length:Int)=n→Nm zs→Feeds m' a→R (.dat (.list (zs.map .str))) m'
def zp2:DC:=fun ds m R=>∃ (a:Addr) (n:Int),ds=[.cel a,I n]∧1≤n∧n≤6∧Feeds m a∧∀ (ks:List Bool) m',(ks.length:Int)=n→Feeds m' a→R (.dat (.tuple (ks.map fun k=>.str (kd k)))) m'
def zm4:DC:=fun ds m R=>∃ (a:Addr) (n:Int),ds=[.cel a,I n]∧1≤n∧n≤6∧Feeds m a∧∀ (ts:List (Str×Bool)) m',1≤ts.length→Nm (ts.map (·.1))→Feeds m' a→R (.dat (TH ts)) m'
def zj6:DC:=fun ds m R=>∃ (a:Addr) (ts:List (Str×Bool)),ds=[.cel a,.dat (TH ts)]∧ts.length≤6∧Feeds m a∧∀ (ps:List PyData) m',TmAll ts ps→(∀ p∈ps,bdP 60 p)→Feeds m' a→R (.dat (.tuple ps)) m'
def prs:List Str→List (Str×Str)
  | []=>[]
  | n :: ns=>ns.map (fun k=>(n,k))++prs ns
def tbl:List (Str×PyData)→List PyData
  | []=>[]
  | (n,p) :: r=>r.map (fun z=>.tuple [.str n,.str z.1,.tuple [.str (wdP p z.2)]])++tbl r
def FN (ns:List Str) (ps:List PyData) (z:Str):PyData:=ps.getD (ns.idxOf z) .none
abbrev FT (ts:List (Str×Bool)) (ps:List PyData) (z:Str):PyData:=FN (ts.map (·.1)) ps z
abbrev endD (x:Str×Bool):PyData:=.tuple [.str x.1,.int (if x.2 then 1 else 0)]
def tmP (ts:List (Str×Bool)) (ps:List PyData) (x:Str×Bool):Int×Int:=if x.2 then (ends (FT ts ps x.1)).2.2 else (ends (FT ts ps x.1)).2.1
def zz7:List (Str×Bool)→List (Str×Bool)
  | []=>[]
  | t :: ts=>(t.1,false) :: ((if t.2 then [(t.1,true)] else [])++zz7 ts)
inductive Say where
  | may (a b:Str) (ws:List Str)
  | gap (x y:Str×Bool) (n:Int×Int) (s:Bool)
def SayD:Say→PyData
  | .may a b ws=>.tuple [.str "may",.str a,.str b,.tuple (ws.map .str)]
  | .gap x y n s=>.tuple [.str "gap",endD x,endD y,fq n,.bool s]
def zU7 (ts:List (Str×Bool)):Say→Prop
  | .may a b ws=>a∈ts.map (·.1)∧b∈ts.map (·.1)
  | .gap x y n s=>x.1∈ts.map (·.1)∧y.1∈ts.map (·.1)∧0 < n.2∧Bd 2000 n.1∧Bd 2000 n.2
def zbo6 (t u n:Int×Int) (s:Bool):Bool:=decide (stn (t.1 * u.2 - u.1 * t.2,t.2 * u.2) n < 0) || (decide (stn (t.1 * u.2 - u.1 * t.2,t.2 * u.2) n=0) && !s)
def so (ts:List (Str×Bool)) (ps:List PyData):Say→Bool
  | .may a b ws=>decide (wdP (FT ts ps a) (FT ts ps b)∈ws)
  | .gap x y n s=>zbo6 (tmP ts ps x) (tmP ts ps y) n s
def brkF (ts:List (Str×Bool)) (ps:List PyData):Nat→List Say→List Int
  | _,[]=>[]
  | i,s :: ss=>(if so ts ps s then [] else [(i:Int)])++brkF ts ps (i + 1) ss
abbrev brk (ts:List (Str×Bool)) (ps:List PyData) (ss:List Say):List Int:=brkF ts ps 0 ss
abbrev TK (ts:List (Str×Bool)) (ss:List Say):PyData:=.tuple [TH ts,.tuple (ss.map SayD)]
def zt6:DC:=fun _ _ _=>False
def zo8:DC:=fun _ _ _=>False
def zC7:DC:=fun ds m R=>∃ ts ps a b ws,ds=[.dat (TH ts),.dat (SayD (.may a b ws)),.dat (.tuple ps)]∧Nm (ts.map (·.1))∧TmAll ts ps∧zU7 ts (.may a b ws)∧R (.dat (.bool (so ts ps (.may a b ws)))) m
def zC2:Say→Bool
  | .may ..=>true
  | _=>false
def zB2:DC:=fun ds m R=>∃ ts ps ss,ds=[.dat (TK ts ss),.dat (.tuple ps)]∧Nm (ts.map (·.1))∧TmAll ts ps∧(∀ s∈ss,zU7 ts s∧zC2 s=true)∧ss.length≤40∧R (.dat (.list ((brk ts ps ss).map .int))) m
def zh0:DC:=fun ds m R=>∃ k l,ds=[.dat (kds k l)]∧R (.dat (.list ((WS k l).map .str))) m
def zv8:DC:=fun ds m R=>∃ a k l,ds=[.cel a,.dat (kds k l)]∧Feeds m a∧∀ zs m',List.Sublist zs (WS k l)→Feeds m' a→Kp a m m'→R (.dat (.tuple (zs.map .str))) m'
def zg1:DC:=fun ds m R=>∃ ts:List (Str×Bool),ds=[.dat (TH ts)]∧ts.length≤6∧∀ c m',m c=none→Kn m m'→m' c=some (.l ((zz7 ts).map endD))→R (.cel c) m'
def zk9:DC:=fun ds m R=>∃ ts ps x,ds=[.dat (TH ts),.dat (.tuple ps),.dat (endD x)]∧Nm (ts.map (·.1))∧TmAll ts ps∧x.1∈ts.map (·.1)∧R (.dat (fq (tmP ts ps x))) m
def zh3:DC:=fun ds m R=>∃ (a:Addr) (ts:List (Str×Bool)) (ps:List PyData),ds=[.cel a,.dat (TH ts),.dat (.tuple ps)]∧Nm (ts.map (·.1))∧TmAll ts ps∧2≤ts.length∧Feeds m a∧∀ s m',zU7 ts s→Feeds m' a→Kp a m m'→R (.dat (SayD s)) m'
def zg0:DC:=fun ds m R=>∃ (a:Addr) (ts:List (Str×Bool)) (ps:List PyData),ds=[.cel a,.dat (TH ts),.dat (.tuple ps)]∧Nm (ts.map (·.1))∧TmAll ts ps∧2≤(zz7 ts).length∧Feeds m a∧∀ s m',zU7 ts s→Feeds m' a→Kp a m m'→R (.dat (SayD s)) m'
def zs8:DC:=fun ds m R=>∃ (a:Addr) (ts:List (Str×Bool)) (ps:List PyData) (n:Int),ds=[.cel a,.dat (TH ts),.dat (.tuple ps),I n]∧Nm (ts.map (·.1))∧TmAll ts ps∧0≤n∧n≤40∧Feeds m a∧∀ ss m',ss.length≤40→(∀ s∈ss,zU7 ts s)→Feeds m' a→R (.dat (TK ts ss)) m'
def zx9:DC:=fun ds m R=>∃ ts:List (Str×Bool),ds=[.dat (TH ts)]∧ts.length≤6∧R (.dat (.list ((prs (ts.map (·.1))).map fun z=>.tuple [.str z.1,.str z.2]))) m
def zn0:DC:=fun ds m R=>∃ (ts:List (Str×Bool)) (ps:List PyData),ds=[.dat (TH ts),.dat (.tuple ps)]∧Nm (ts.map (·.1))∧TmAll ts ps∧R (.dat (.tuple (tbl ((ts.map (·.1)).zip ps)))) m
def zw6:DC:=fun ds m R=>∃ (ts:List (Str×Bool)) (ps:List PyData) (i j:Nat) (t u:Str×Bool) (p q:PyData),ds=[.dat (TH ts),.dat (.tuple ps),I i,I j]∧ts[i]?=some t∧ts[j]?=some u∧ps[i]?=some p∧ps[j]?=some q∧TmAll ts ps∧R (.dat (.tuple [.str t.1,.str u.1,.tuple [.str (wdP p q)]])) m
def zi9:DC:=fun ds m R=>∃ (ts:List (Str×Bool)) (ps:List PyData),ds=[.dat (TH ts),.dat (.tuple ps)]∧ts.length≤6∧TmAll ts ps∧∀ m',(∀ c,(m c).isSome=true→m' c=m c)→R (.dat (.tuple (tbl ((ts.map (·.1)).zip ps)))) m'
def zR6:DC:=fun ds m R=>∃ a b c d:Int,ds=[T2 a b,T2 c d]∧0 < b∧0 < d∧Bd 900 a∧Bd 900 b∧Bd 900 c∧Bd 900 d∧R (.dat (fr (a * d + c * b) (b * d))) m
def zt7:DC:=fun ds m R=>∃ a b c d:Int,ds=[T2 a b,T2 c d]∧0 < b∧0 < d∧Bd 900 a∧Bd 900 b∧Bd 900 c∧Bd 900 d∧R (.dat (fr (a * c) (b * d))) m
structure OM (o e:Int×Int):Prop where
  a:0 < o.1
  b:0 < o.2
  c:0 < e.2
  d1:Bd 20 o.1
  d2:Bd 20 o.2
  d3:Bd 20 e.1
  d4:Bd 20 e.2
def mtop (o e x:Int×Int):Int:=x.1 * o.1 * e.2 + e.1 * x.2 * o.2
def mbot (o e x:Int×Int):Int:=x.2 * o.2 * e.2
def mvq (o e x:Int×Int):Int×Int:=(mtop o e x / (Int.gcd (mtop o e x) (mbot o e x):Int),mbot o e x / (Int.gcd (mtop o e x) (mbot o e x):Int))
def mvP (o e:Int×Int) (p:PyData):PyData:=if (ends p).1 then .tuple [fq (mvq o e (ends p).2.1),fq (mvq o e (ends p).2.2)] else fq (mvq o e (ends p).2.1)
def zy6:DC:=fun ds m R=>∃ ts ps o e,ds=[.dat (TH ts),.dat (.tuple ps),.dat (fq o),.dat (fq e)]∧ts.length≤6∧TmAll ts ps∧(∀ p∈ps,bdP 700 p)∧OM o e∧∀ m',Kn m m'→R (.dat (.tuple (ps.map (mvP o e)))) m'
def zd7:DC:=fun ds m R=>∃ x o e,ds=[.dat (fq x),.dat (fq o),.dat (fq e)]∧0 < x.2∧Bd 700 x.1∧Bd 700 x.2∧OM o e∧R (.dat (fq (mvq o e x))) m
def ze5:DC:=zy6
def zg7:DC:=fun ds m R=>∃ ts ps o e e',ds=[.dat (TH ts),.dat (.tuple ps),.dat (.tuple (ps.map (mvP o e))),.dat (fq e')]∧Nm (ts.map (·.1))∧TmAll ts ps∧(∀ p∈ps,bdP 60 p)∧OM o e∧OM (1,999999) e'∧∀ m',R (.dat (.bool true)) m'
def zac5:DC:=fun ds m R=>∃ ns:List Int,ds=[.dat (.list (ns.map .int))]∧ns.length≤63∧∀ m',R (.dat (.bool true)) m'
end K14
set_option Elab.async false
set_option linter.all false
set_option maxRecDepth 100000
set_option maxHeartbeats 4000000
namespace K14
open PySem PySem.Spec PyProof.Rows L2 DL
-- ranks: common 1,fraction 2,plus 3,less 3,product 3,is_below 1,words_of 1,ways_by 1,is_point 1,way_of 2,word_of 3,names_of 1,pairs_of 2,times_of 2,time_of 3,word_between 4,is_gap_met 4,table_of 5,moved 4,is_so 5,broken 6,_law_feed 1,_law_draw 1,_law_fraction 1,_law_stand 1,_law_word 2,_law_words 1,_law_names 2,_law_kinds 2,_law_things 3,_law_may 2,_law_times 2,_law_telling 3,_law_all_ends 1,_law_time 1,_law_may_saying 3,_law_gap_saying 2,_law_talk 4,_law_row 3,_law_table 4,_law_moved_time 2,_law_all_moved 3,_law_often_right 6,law 7
def top (i:Nat):Stmt:=PySem.Challenge.pw_whens_k14_whole_moved.main.body.getD i (.Pass ⟨0,0,0,0⟩)
abbrev zah5:List (Str×PyData):=[("ahead",.tuple [.int (-1),.int (-1),.int (-1),.int (-1)]),("meets",.tuple [.int (-1),.int (-1),.int (0),.int (-1)]),("overlaps",.tuple [.int (-1),.int (-1),.int (1),.int (-1)]),("begins",.tuple [.int (0),.int (-1),.int (1),.int (-1)]),("within",.tuple [.int (1),.int (-1),.int (1),.int (-1)]),("ends",.tuple [.int (1),.int (-1),.int (1),.int (0)]),("same",.tuple [.int (0),.int (-1),.int (1),.int (0)]),("ended",.tuple [.int (-1),.int (-1),.int (1),.int (0)]),("holds",.tuple [.int (-1),.int (-1),.int (1),.int (1)]),("begun",.tuple [.int (0),.int (-1),.int (1),.int (1)]),("lapped",.tuple [.int (1),.int (-1),.int (1),.int (1)]),("met",.tuple [.int (1),.int (0),.int (1),.int (1)]),("behind",.tuple [.int (1),.int (1),.int (1),.int (1)])]
abbrev zz5:List (List Str×PyData):=[(["point","point"],.tuple (List.map PyData.str ["ahead","same","behind"])),(["point","stretch"],.tuple (List.map PyData.str ["ahead","begins","within","ends","behind"])),(["stretch","point"],.tuple (List.map PyData.str ["ahead","ended","holds","begun","behind"]))]
abbrev zE5:Stmt:=top 1
abbrev zaf0:List Str:=["one","other"]
abbrev zD0:List Str:=["one","other"]
theorem zak7:FnScope zaf0 zD0 (za8 zE5):=⟨rfl,rfl,rfl,by decide +kernel,rfl,by decide +kernel,by decide +kernel⟩
def zY9:DS:=(dSeq (dPar 0 1 (za3 (dVar 1) (za3 (dBin aMod (dVar 0) (dVar 1)) dNil))) zb7)
def zad1:DS:=(dSeq (dRet (zc6 bAbs (za3 (dVar 0) dNil))) zb7)
def zV3:DS:=(dSeq (zau4 (dTst (dBin aNe (dVar 1) (dCon (.int 0)))) zY9) zad1)
abbrev zl1:Stmt:=top 2
abbrev zR3:List Str:=["top","bottom","shared"]
abbrev zh9:List Str:=["top","bottom"]
theorem zX5:FnScope zR3 zh9 (za8 zl1):=⟨rfl,rfl,rfl,by decide +kernel,rfl,by decide +kernel,by decide +kernel⟩
def zI2:DS:=(dSeq (dRet (dTup (za3 (dBin aDiv (dVar 0) (dVar 2)) (za3 (dBin aDiv (dVar 1) (dVar 2)) dNil)))) zb7)
def zH9:DS:=(dSeq (dIf (dTst (dBin aLt (dVar 1) (dCon (.int 0)))) (dSeq (dSet 2 (dNeg (dVar 2))) zb7) zb7) zI2)
def zA8:DS:=(dSeq (dSet 2 (zb6 2 zw2 (za3 (dVar 0) (za3 (dVar 1) dNil)))) zH9)
abbrev zab8:Stmt:=top 3
abbrev zaG9:List Str:=["one","other"]
abbrev zY5:List Str:=["one","other"]
theorem zaG2:FnScope zaG9 zY5 (za8 zab8):=⟨rfl,rfl,rfl,by decide +kernel,rfl,by decide +kernel,by decide +kernel⟩
def zat6:DS:=(dSeq (dRet (zb6 2 zg5 (za3 (dBin aAdd (dBin aMul (dBin aIx (dVar 0) (dCon (.int 0))) (dBin aIx (dVar 1) (dCon (.int 1)))) (dBin aMul (dBin aIx (dVar 1) (dCon (.int 0))) (dBin aIx (dVar 0) (dCon (.int 1))))) (za3 (dBin aMul (dBin aIx (dVar 0) (dCon (.int 1))) (dBin aIx (dVar 1) (dCon (.int 1)))) dNil)))) zb7)
abbrev zZ8:Stmt:=top 4
abbrev zaG6:List Str:=["one","other"]
abbrev zZ4:List Str:=["one","other"]
theorem zaH2:FnScope zaG6 zZ4 (za8 zZ8):=⟨rfl,rfl,rfl,by decide +kernel,rfl,by decide +kernel,by decide +kernel⟩
def zaF9:DS:=(dSeq (dRet (zb6 2 zg5 (za3 (dBin aSub (dBin aMul (dBin aIx (dVar 0) (dCon (.int 0))) (dBin aIx (dVar 1) (dCon (.int 1)))) (dBin aMul (dBin aIx (dVar 1) (dCon (.int 0))) (dBin aIx (dVar 0) (dCon (.int 1))))) (za3 (dBin aMul (dBin aIx (dVar 0) (dCon (.int 1))) (dBin aIx (dVar 1) (dCon (.int 1)))) dNil)))) zb7)
abbrev zu7:Stmt:=top 5
abbrev zaa4:List Str:=["one","other"]
abbrev zx5:List Str:=["one","other"]
theorem zad2:FnScope zaa4 zx5 (za8 zu7):=⟨rfl,rfl,rfl,by decide +kernel,rfl,by decide +kernel,by decide +kernel⟩
def zQ9:DS:=(dSeq (dRet (zb6 2 zg5 (za3 (dBin aMul (dBin aIx (dVar 0) (dCon (.int 0))) (dBin aIx (dVar 1) (dCon (.int 0)))) (za3 (dBin aMul (dBin aIx (dVar 0) (dCon (.int 1))) (dBin aIx (dVar 1) (dCon (.int 1)))) dNil)))) zb7)
abbrev zn9:Stmt:=top 6
abbrev zS2:List Str:=["one","other"]
abbrev zl3:List Str:=["one","other"]
theorem zW0:FnScope zS2 zl3 (za8 zn9):=⟨rfl,rfl,rfl,by decide +kernel,rfl,by decide +kernel,by decide +kernel⟩
def zI6:DS:=(dSeq (dRet (dBin aLt (dBin aMul (dBin aIx (dVar 0) (dCon (.int 0))) (dBin aIx (dVar 1) (dCon (.int 1)))) (dBin aMul (dBin aIx (dVar 1) (dCon (.int 0))) (dBin aIx (dVar 0) (dCon (.int 1)))))) zb7)
abbrev zr5:Stmt:=top 11
abbrev zR7:List Str:=["kinds"]
abbrev zp7:List Str:=["kinds"]
theorem zZ9:FnScope zR7 zp7 (za8 zr5):=⟨rfl,rfl,rfl,by decide +kernel,rfl,by decide +kernel,by decide +kernel⟩
def zJ5:DS:=(dSeq (dRet (zaj1 zz5 (dVar 0) (dCon (.tuple (List.map PyData.str ["ahead","meets","overlaps","begins","within","ends","same","ended","holds","begun","lapped","met","behind"]))))) zb7)
abbrev zx4:Stmt:=top 12
abbrev zaa7:List Str:=["kinds","word","ways"]
abbrev zv7:List Str:=["kinds","word"]
theorem zac7:FnScope zaa7 zv7 (za8 zx4):=⟨rfl,rfl,rfl,by decide +kernel,rfl,by decide +kernel,by decide +kernel⟩
def zZ3:DS:=(dSeq (dRet (dTup (za3 (dBin aIx (dVar 2) (dCon (.int 0))) (za3 (dBin aIx (dVar 2) (dCon (.int 3))) dNil)))) zb7)
def zab4:DS:=(dSeq (dIf (dTst (dBin aEq (dVar 0) (dTup (za3 (dCon (.str "point")) (za3 (dCon (.str "point")) dNil))))) (dSeq (dRet (dSlX (dVar 2) dNoP (zag9 (dCon (.int 1))))) zb7) zb7) zZ3)
def zZ2:DS:=(dSeq (dIf (dTst (dBin aEq (dVar 0) (dTup (za3 (dCon (.str "stretch")) (za3 (dCon (.str "stretch")) dNil))))) (dSeq (dRet (dVar 2)) zb7) zb7) zab4)
def zN8:DS:=(dSeq (dSet 2 (zav4 zah5 (dVar 1))) zZ2)
abbrev zq7:Stmt:=top 13
abbrev zR5:List Str:=["times"]
abbrev zs0:List Str:=["times"]
theorem zY0:FnScope zR5 zs0 (za8 zq7):=⟨rfl,rfl,rfl,by decide +kernel,rfl,by decide +kernel,by decide +kernel⟩
def zI5:DS:=(dSeq (dRet (dNot (dIsi (dBin aIx (dVar 0) (dCon (.int 0))) "tuple"))) zb7)
abbrev zE7:Stmt:=top 14
abbrev zag1:List Str:=["one","other"]
abbrev zC8:List Str:=["one","other"]
theorem zak1:FnScope zag1 zC8 (za8 zE7):=⟨rfl,rfl,rfl,by decide +kernel,rfl,by decide +kernel,by decide +kernel⟩
def zae3:DS:=(dSeq (dRet (dCon (.int 0))) zb7)
def zae4:DS:=(dSeq (dIf (dTst (zb6 2 zi6 (za3 (dVar 1) (za3 (dVar 0) dNil)))) (dSeq (dRet (dCon (.int 1))) zb7) zb7) zae3)
def zV4:DS:=(dSeq (dIf (dTst (zb6 2 zi6 (za3 (dVar 0) (za3 (dVar 1) dNil)))) (dSeq (dRet (dNeg (dCon (.int 1)))) zb7) zb7) zae4)
abbrev zu9:Stmt:=top 15
abbrev zW5:List Str:=["one","other","kinds","ones","others","ways"]
abbrev zy1:List Str:=["one","other"]
theorem zae2:FnScope zW5 zy1 (za8 zu9):=⟨rfl,rfl,rfl,by decide +kernel,rfl,by decide +kernel,by decide +kernel⟩
theorem zT5:List.Nodup (["x","y","others"]:List Str):=by decide +kernel
theorem zal5:List.Nodup (["word","kinds","ways"]:List Str):=by decide +kernel
def zN0:DS:=(dSeq (dRet (dBin aIx (dLC [none,some 2,some 5] (zz8 (zb6 1 zu6 (za3 (dVar 2) dNil))) (gN 0) (dTst (dBin aEq (zb6 2 zq0 (za3 (dVar 1) (za3 (dVar 0) dNil))) (dVar 2))) (dVar 0)) (dCon (.int 0)))) zb7)
def zv4:DS:=(dSeq (dSet 5 (zc6 zp6 (za3 (dLC2 [none,none,some 4] (zz8 (dVar 3)) (gN 0) zx1 (zz8 (dVar 2)) (gN 1) zx1 (zb6 2 zu3 (za3 (dVar 0) (za3 (dVar 1) dNil)))) dNil))) zN0)
def zy0:DS:=(dSeq (dSet 4 (dIte (dTst (zb6 1 zi5 (za3 (dVar 1) dNil))) (dTup (za3 (dVar 1) dNil)) (dVar 1))) zv4)
def zx8:DS:=(dSeq (dSet 3 (dIte (dTst (zb6 1 zi5 (za3 (dVar 0) dNil))) (dTup (za3 (dVar 0) dNil)) (dVar 0))) zy0)
def zw5:DS:=(dSeq (dSet 2 (dTup (za3 (dIte (dTst (zb6 1 zi5 (za3 (dVar 0) dNil))) (dCon (.str "point")) (dCon (.str "stretch"))) (za3 (dIte (dTst (zb6 1 zi5 (za3 (dVar 1) dNil))) (dCon (.str "point")) (dCon (.str "stretch"))) dNil)))) zx8)
abbrev zo2:Stmt:=top 17
abbrev zR9:List Str:=["things"]
abbrev zl4:List Str:=["things"]
theorem zaa3:FnScope zR9 zl4 (za8 zo2):=⟨rfl,rfl,rfl,by decide +kernel,rfl,by decide +kernel,by decide +kernel⟩
theorem zQ2:List.Nodup (["name","kind"]:List Str):=by decide +kernel
def zJ4:DS:=(dSeq (dRet (dLC [none,none] (zz8 (dVar 0)) (gT 2 (gNs (gN 0) (gNs (gN 1) gN0))) zx1 (dVar 0))) zb7)
abbrev zp9:Stmt:=top 18
abbrev zS0:List Str:=["things","names"]
abbrev zr9:List Str:=["things"]
theorem zY2:FnScope zS0 zr9 (za8 zp9):=⟨rfl,rfl,rfl,by decide +kernel,rfl,by decide +kernel,by decide +kernel⟩
theorem zE0:List.Nodup (["at","a","b","names"]:List Str):=by decide +kernel
def zT0:DS:=(dSeq (dRet (dLC2 [none,none,none,some 1] (zaI2 (dVar 1)) (gT 2 (gNs (gN 0) (gNs (gN 1) gN0))) zx1 (zz8 (dSlX (dVar 3) (zag9 (dBin aAdd (dVar 0) (dCon (.int 1)))) dNoP)) (gN 2) zx1 (dTup (za3 (dVar 1) (za3 (dVar 2) dNil))))) zb7)
def zJ3:DS:=(dSeq (dSet 1 (zb6 1 zn6 (za3 (dVar 0) dNil))) zT0)
abbrev zo0:Stmt:=top 19
abbrev zS1:List Str:=["things","telling","name"]
abbrev zl2:List Str:=["things","telling","name"]
theorem zW7:FnScope zS1 zl2 (za8 zo0):=⟨rfl,rfl,rfl,by decide +kernel,rfl,by decide +kernel,by decide +kernel⟩
def zJ2:DS:=(dSeq (dRet (dBin aIx (dVar 1) (zaW2 (zb6 1 zn6 (za3 (dVar 0) dNil)) (dVar 2)))) zb7)
abbrev zv0:Stmt:=top 20
abbrev zX4:List Str:=["things","telling","end","name","number","times"]
abbrev zw1:List Str:=["things","telling","end"]
theorem zae1:FnScope zX4 zw1 (za8 zv0):=⟨rfl,rfl,rfl,by decide +kernel,rfl,by decide +kernel,by decide +kernel⟩
def zaq0:DS:=(dSeq (dRet (dIte (dTst (dBin aEq (zaS9 (zaH9 (dVar 0)) (dVar 3)) (dCon (.str "point")))) (dVar 5) (dBin aIx (dVar 5) (dVar 4)))) zb7)
def zao1:DS:=(dSeq (dSet 5 (zb6 3 zl0 (za3 (dVar 0) (za3 (dVar 1) (za3 (dVar 3) dNil))))) zaq0)
def zY8:DS:=(dSeq (dAsg (dVar 2) (gT 2 (gNs (gN 3) (gNs (gN 4) gN0)))) zao1)
abbrev zg3:Stmt:=top 21
abbrev zA1:List Str:=["things","telling","a","b"]
abbrev zf3:List Str:=["things","telling","a","b"]
theorem zH5:FnScope zA1 zf3 (za8 zg3):=⟨rfl,rfl,rfl,by decide +kernel,rfl,by decide +kernel,by decide +kernel⟩
def zs3:DS:=(dSeq (dRet (zb6 2 zt9 (za3 (zb6 3 zl0 (za3 (dVar 0) (za3 (dVar 1) (za3 (dVar 2) dNil)))) (za3 (zb6 3 zl0 (za3 (dVar 0) (za3 (dVar 1) (za3 (dVar 3) dNil)))) dNil)))) zb7)
abbrev zk5:Stmt:=top 22
abbrev zH0:List Str:=["things","telling","gap","x","y","number","strict","apart"]
abbrev zk8:List Str:=["things","telling","gap"]
theorem zO6:FnScope zH0 zk8 (za8 zk5):=⟨rfl,rfl,rfl,by decide +kernel,rfl,by decide +kernel,by decide +kernel⟩
def zac2:DS:=(dSeq (dRet (dIte (dTst (dVar 6)) (zb6 2 zi6 (za3 (dVar 7) (za3 (dVar 5) dNil))) (dNot (zb6 2 zi6 (za3 (dVar 5) (za3 (dVar 7) dNil)))))) zb7)
def zac0:DS:=(dSeq (dSet 7 (zb6 2 zX6 (za3 (zb6 3 zt6 (za3 (dVar 0) (za3 (dVar 1) (za3 (dVar 3) dNil)))) (za3 (zb6 3 zt6 (za3 (dVar 0) (za3 (dVar 1) (za3 (dVar 4) dNil)))) dNil)))) zac2)
def zI0:DS:=(dSeq (dAsg (dVar 2) (gT 4 (gNs (gN 3) (gNs (gN 4) (gNs (gN 5) (gNs (gN 6) gN0)))))) zac0)
abbrev zn8:Stmt:=top 23
abbrev zS7:List Str:=["things","telling"]
abbrev zl6:List Str:=["things","telling"]
theorem zaa8:FnScope zS7 zl6 (za8 zn8):=⟨rfl,rfl,rfl,by decide +kernel,rfl,by decide +kernel,by decide +kernel⟩
theorem zP5:List.Nodup (["a","b","things","telling"]:List Str):=by decide +kernel
def zI9:DS:=(dSeq (dRet (zc6 zp6 (za3 (dLC [none,none,some 0,some 1] (zz8 (zb6 1 zx9 (za3 (dVar 0) dNil))) (gT 2 (gNs (gN 0) (gNs (gN 1) gN0))) zx1 (dTup (za3 (dVar 0) (za3 (dVar 1) (za3 (dTup (za3 (zb6 4 zf8 (za3 (dVar 2) (za3 (dVar 3) (za3 (dVar 0) (za3 (dVar 1) dNil))))) dNil)) dNil))))) dNil))) zb7)
abbrev zF9:Stmt:=top 24
abbrev zar2:List Str:=["things","telling","times","more","found","name","kind","old","ends","new"]
abbrev zE6:List Str:=["things","telling","times","more"]
theorem zav9:FnScope zar2 zE6 (za8 zF9):=⟨rfl,rfl,rfl,by decide +kernel,rfl,by decide +kernel,by decide +kernel⟩
theorem zax1:List.Nodup (["time","times","more"]:List Str):=by decide +kernel
def zH2:DS:=(dSeq (zac3 (dApp (dVar 4) (dIte (dTst (dBin aEq (dVar 6) (dCon (.str "point")))) (dBin aIx (dVar 9) (dCon (.int 0))) (zc6 zp6 (za3 (dVar 9) dNil))))) zb7)
def zI3:DS:=(dSeq (dSet 9 (dLC [none,some 2,some 3] (zz8 (dVar 8)) (gN 0) zx1 (zb6 2 zR6 (za3 (zb6 2 zt7 (za3 (dVar 0) (za3 (dVar 1) dNil))) (za3 (dVar 2) dNil))))) zH2)
def zB3:DS:=(dSeq (dSet 8 (dIte (dTst (dBin aEq (dVar 6) (dCon (.str "point")))) (dTup (za3 (dVar 7) dNil)) (dVar 7))) zI3)
def zak3:DS:=(dSeq (dRet (zc6 zp6 (za3 (dVar 4) dNil))) zb7)
def zam6:DS:=(dSeq (dFor (zaO8 (dVar 0) (dVar 1)) (gT 2 (gNs (gT 2 (gNs (gN 5) (gNs (gN 6) gN0))) (gNs (gN 7) gN0))) zB3) zak3)
def zai1:DS:=(dSeq (dSet 4 (zae7 dNil)) zam6)
abbrev zM3:Stmt:=top 26
abbrev zap3:List Str:=["things","saying","telling"]
abbrev zL9:List Str:=["things","saying","telling"]
theorem zav8:FnScope zap3 zL9 (za8 zM3):=⟨rfl,rfl,rfl,by decide +kernel,rfl,by decide +kernel,by decide +kernel⟩
def zaB7:DS:=(dSeq (dRet (zb6 3 zo8 (za3 (dVar 0) (za3 (dVar 2) (za3 (dSlX (dVar 1) (zag9 (dCon (.int 1))) dNoP) dNil))))) zb7)
def zag0:DS:=(dSeq (dIf (dTst (dBin aEq (dBin aIx (dVar 1) (dCon (.int 0))) (dCon (.str "may")))) (dSeq (dRet (dBin aIn (zb6 4 zf8 (za3 (dVar 0) (za3 (dVar 2) (za3 (dBin aIx (dVar 1) (dCon (.int 1))) (za3 (dBin aIx (dVar 1) (dCon (.int 2))) dNil))))) (dBin aIx (dVar 1) (dCon (.int 3))))) zb7) zb7) zaB7)
abbrev zD6:Stmt:=top 27
abbrev zaj0:List Str:=["talk","telling","things","sayings"]
abbrev zD8:List Str:=["talk","telling"]
theorem zam1:FnScope zaj0 zD8 (za8 zD6):=⟨rfl,rfl,rfl,by decide +kernel,rfl,by decide +kernel,by decide +kernel⟩
theorem zX9:List.Nodup (["number","saying","telling","things"]:List Str):=by decide +kernel
def zac4:DS:=(dSeq (dRet (dLC [none,none,some 1,some 2] (zaD2 (dVar 3)) (gT 2 (gNs (gN 0) (gNs (gN 1) gN0))) (zay3 (dTst (zb6 3 zC7 (za3 (dVar 3) (za3 (dVar 1) (za3 (dVar 2) dNil)))))) (dVar 0))) zb7)
def zV7:DS:=(dSeq (dAsg (dVar 0) (gT 2 (gNs (gN 2) (gNs (gN 3) gN0)))) zac4)
abbrev zm8:Stmt:=top 29
abbrev zN2:List Str:=["_law_script","_law_k","_law_cell"]
abbrev zn4:List Str:=["_law_script","_law_k"]
theorem zT1:FnScope zN2 zn4 (za8 zm8):=⟨rfl,rfl,rfl,by decide +kernel,rfl,by decide +kernel,by decide +kernel⟩
def zD1:DS:=(dSeq (dRet (zae7 (za3 (zc6 bMax (za3 (dCon (.int 0)) (za3 (dBin aSub (dVar 2) (dBin aPow (dCon (.int 10)) (dCon (.int 18)))) dNil))) (za3 (dVar 2) (za3 (dVar 1) (za3 (dCon (.int 0)) dNil)))))) zb7)
def zE2:DS:=(dSeq (dSet 2 (dBin aIx (dVar 0) (dBin aMod (dVar 1) (zc6 bLen (za3 (dVar 0) dNil))))) zD1)
def zw3:DS:=(dSeq (dIf (dTst (dBin aEq (zc6 bLen (za3 (dVar 0) dNil)) (dCon (.int 0)))) (dSeq (dRet (zae7 (za3 (dCon (.int 0)) (za3 (dCon (.int 0)) (za3 (dVar 1) (za3 (dCon (.int 0)) dNil)))))) zb7) zb7) zE2)
abbrev zd2:Stmt:=top 30
abbrev zM9:List Str:=["_law_feed_here","_law_many","_law_figure","_law_number"]
abbrev zc2:List Str:=["_law_feed_here","_law_many"]
theorem zS9:FnScope zM9 zc2 (za8 zd2):=⟨rfl,rfl,rfl,by decide +kernel,rfl,by decide +kernel,by decide +kernel⟩
def zF2:DS:=(dSeq (dRet (dVar 2)) zb7)
def zF4:DS:=(dSeq (dPut (dVar 0) (dCon (.int 0)) (dBin aDiv (dBin aIx (dVar 0) (dCon (.int 0))) (dVar 1))) zF2)
def zK1:DS:=(dSeq (dSet 2 (dBin aMod (dBin aIx (dVar 0) (dCon (.int 0))) (dVar 1))) zF4)
def zQ6:DS:=(dSeq (dRet (dBin aMod (dVar 3) (dVar 1))) zb7)
def zQ1:DS:=(dSeq (dSet 3 (dBin aMod (dBin aAdd (dBin aAdd (dBin aMul (dVar 3) (dVar 3)) (dBin aMul (dCon (.int 69621)) (dVar 3))) (dBin aIx (dVar 0) (dCon (.int 3)))) (dCon (.int 2147483587)))) zQ6)
def zO0:DS:=(dSeq (dSet 3 (dBin aMod (dBin aAdd (dBin aAdd (dBin aMul (dVar 3) (dVar 3)) (dBin aMul (dCon (.int 48271)) (dVar 3))) (dBin aIx (dVar 0) (dCon (.int 2)))) (dCon (.int 2147483629)))) zQ1)
def zN5:DS:=(dSeq (dSet 3 (dBin aMod (dBin aAdd (dBin aAdd (dBin aIx (dVar 0) (dCon (.int 1))) (dBin aMul (dCon (.int 7919)) (dBin aIx (dVar 0) (dCon (.int 2))))) (dBin aMul (dCon (.int 104729)) (dBin aIx (dVar 0) (dCon (.int 3))))) (dCon (.int 2147483629)))) zO0)
def zO3:DS:=(dSeq (dIf (dTst (dBin aGt (dBin aIx (dVar 0) (dCon (.int 0))) (dCon (.int 0)))) zK1 zb7) zN5)
def zC3:DS:=(dSeq (dPut (dVar 0) (dCon (.int 3)) (dBin aAdd (dBin aIx (dVar 0) (dCon (.int 3))) (dCon (.int 1)))) zO3)
abbrev zd4:Stmt:=top 31
abbrev zx2:List Str:=["_law_top","_law_bottom","_law_one","_law_other","_law_rest"]
abbrev zc7:List Str:=["_law_top","_law_bottom"]
theorem zE9:FnScope zx2 zc7 (za8 zd4):=⟨rfl,rfl,rfl,by decide +kernel,rfl,by decide +kernel,by decide +kernel⟩
def zt3:DS:=(dSeq (dSet 3 (dVar 4)) zb7)
def zt1:DS:=(dSeq (dSet 2 (dVar 3)) zt3)
def zy4:DS:=(dSeq (dSet 4 (dBin aMod (dVar 2) (dVar 3))) zt1)
def zA5:DS:=(dSeq (dRet (dTup (za3 (dBin aDiv (dVar 0) (dVar 2)) (za3 (dBin aDiv (dVar 1) (dVar 2)) dNil)))) zb7)
def zB5:DS:=(dSeq (zau4 (dTst (dBin aGt (dVar 3) (dCon (.int 0)))) zy4) zA5)
def zB9:DS:=(dSeq (dSet 3 (zc6 bAbs (za3 (dVar 0) dNil))) zB5)
def zo4:DS:=(dSeq (dSet 2 (dVar 1)) zB9)
abbrev zj9:Stmt:=top 32
abbrev zG0:List Str:=["_law_one","_law_other","_law_apart"]
abbrev zk6:List Str:=["_law_one","_law_other"]
theorem zQ0:FnScope zG0 zk6 (za8 zj9):=⟨rfl,rfl,rfl,by decide +kernel,rfl,by decide +kernel,by decide +kernel⟩
def zK0:DS:=(dSeq (dRet (dBin aSub (zc6 bInt (za3 (dBin aGt (dVar 2) (dCon (.int 0))) dNil)) (zc6 bInt (za3 (dBin aLt (dVar 2) (dCon (.int 0))) dNil)))) zb7)
def zz0:DS:=(dSeq (dSet 2 (dBin aSub (dBin aMul (dBin aIx (dVar 0) (dCon (.int 0))) (dBin aIx (dVar 1) (dCon (.int 1)))) (dBin aMul (dBin aIx (dVar 1) (dCon (.int 0))) (dBin aIx (dVar 0) (dCon (.int 1)))))) zK0)
abbrev zk2:Stmt:=top 33
abbrev zL8:List Str:=["_law_one","_law_other","_law_both","_law_a","_law_b","_law_rows"]
abbrev zi4:List Str:=["_law_one","_law_other"]
theorem zT8:FnScope zL8 zi4 (za8 zk2):=⟨rfl,rfl,rfl,by decide +kernel,rfl,by decide +kernel,by decide +kernel⟩
def zQ7:DS:=(dSeq (dRet (dBin aIx (dBin aIx (dVar 5) (dBin aAdd (dCon (.int 1)) (zb6 2 ze0 (za3 (dBin aIx (dVar 3) (dCon (.int 0))) (za3 (dBin aIx (dVar 4) (dCon (.int 0))) dNil))))) (dBin aAdd (dCon (.int 1)) (zb6 2 ze0 (za3 (dBin aIx (dVar 3) (dCon (.int 1))) (za3 (dBin aIx (dVar 4) (dCon (.int 1))) dNil)))))) zb7)
def zD7:DS:=(dSeq (dSet 5 (dTup (za3 (dTup (za3 (dCon (.str "overlaps")) (za3 (dCon (.str "ended")) (za3 (dCon (.str "holds")) dNil)))) (za3 (dTup (za3 (dCon (.str "begins")) (za3 (dCon (.str "same")) (za3 (dCon (.str "begun")) dNil)))) (za3 (dTup (za3 (dCon (.str "within")) (za3 (dCon (.str "ends")) (za3 (dCon (.str "lapped")) dNil)))) dNil))))) zQ7)
def zC5:DS:=(dSeq (dIf (zaF7 (dTst (dVar 2)) (dTst (dBin aEq (zb6 2 ze0 (za3 (dBin aIx (dVar 3) (dCon (.int 0))) (za3 (dBin aIx (dVar 4) (dCon (.int 1))) dNil))) (dCon (.int 0))))) (dSeq (dRet (dCon (.str "met"))) zb7) zb7) zD7)
def zP6:DS:=(dSeq (dIf (zaF7 (dTst (dVar 2)) (dTst (dBin aEq (zb6 2 ze0 (za3 (dBin aIx (dVar 3) (dCon (.int 1))) (za3 (dBin aIx (dVar 4) (dCon (.int 0))) dNil))) (dCon (.int 0))))) (dSeq (dRet (dCon (.str "meets"))) zb7) zb7) zC5)
def zP3:DS:=(dSeq (dIf (dTst (dBin aGt (zb6 2 ze0 (za3 (dBin aIx (dVar 3) (dCon (.int 0))) (za3 (dBin aIx (dVar 4) (dCon (.int 1))) dNil))) (dCon (.int 0)))) (dSeq (dRet (dCon (.str "behind"))) zb7) zb7) zP6)
def zD2:DS:=(dSeq (dIf (dTst (dBin aLt (zb6 2 ze0 (za3 (dBin aIx (dVar 3) (dCon (.int 1))) (za3 (dBin aIx (dVar 4) (dCon (.int 0))) dNil))) (dCon (.int 0)))) (dSeq (dRet (dCon (.str "ahead"))) zb7) zb7) zP3)
def zp0:DS:=(dSeq (dSet 4 (dIte (dTst (dIsi (dBin aIx (dVar 1) (dCon (.int 0))) "tuple")) (dVar 1) (dTup (za3 (dVar 1) (za3 (dVar 1) dNil))))) zD2)
def zo6:DS:=(dSeq (dSet 3 (dIte (dTst (dIsi (dBin aIx (dVar 0) (dCon (.int 0))) "tuple")) (dVar 0) (dTup (za3 (dVar 0) (za3 (dVar 0) dNil))))) zp0)
def zm7:DS:=(dSeq (dSet 2 (dAnd (dIsi (dBin aIx (dVar 0) (dCon (.int 0))) "tuple") (dIsi (dBin aIx (dVar 1) (dCon (.int 0))) "tuple"))) zo6)
abbrev zi0:Stmt:=top 34
abbrev zG7:List Str:=["_law_kinds_here","_law_first"]
abbrev zh2:List Str:=["_law_kinds_here"]
theorem zO2:FnScope zG7 zh2 (za8 zi0):=⟨rfl,rfl,rfl,by decide +kernel,rfl,by decide +kernel,by decide +kernel⟩
def zA4:DS:=(dSeq (dRet (dBin aAdd (dVar 1) (dLst (za3 (dCon (.str "ended")) (za3 (dCon (.str "holds")) (za3 (dCon (.str "begun")) (za3 (dCon (.str "lapped")) (za3 (dCon (.str "met")) (za3 (dCon (.str "behind")) dNil))))))))) zb7)
def zH7:DS:=(dSeq (dSet 1 (dLst (za3 (dCon (.str "ahead")) (za3 (dCon (.str "meets")) (za3 (dCon (.str "overlaps")) (za3 (dCon (.str "begins")) (za3 (dCon (.str "within")) (za3 (dCon (.str "ends")) (za3 (dCon (.str "same")) dNil))))))))) zA4)
def zK2:DS:=(dSeq (dRet (dLst (za3 (dCon (.str "ahead")) (za3 (dCon (.str "ended")) (za3 (dCon (.str "holds")) (za3 (dCon (.str "begun")) (za3 (dCon (.str "behind")) dNil))))))) zb7)
def zK7:DS:=(dSeq (dIf (dTst (dBin aEq (dBin aIx (dVar 0) (dCon (.int 0))) (dCon (.str "point")))) (dSeq (dRet (dLst (za3 (dCon (.str "ahead")) (za3 (dCon (.str "begins")) (za3 (dCon (.str "within")) (za3 (dCon (.str "ends")) (za3 (dCon (.str "behind")) dNil))))))) zb7) zb7) zK2)
def zL3:DS:=(dSeq (dIf (dTst (dBin aEq (dVar 0) (dTup (za3 (dCon (.str "point")) (za3 (dCon (.str "point")) dNil))))) (dSeq (dRet (dLst (za3 (dCon (.str "ahead")) (za3 (dCon (.str "same")) (za3 (dCon (.str "behind")) dNil))))) zb7) zb7) zK7)
def zy7:DS:=(dSeq (dIf (dTst (dBin aEq (dVar 0) (dTup (za3 (dCon (.str "stretch")) (za3 (dCon (.str "stretch")) dNil))))) zH7 zb7) zL3)
abbrev zk0:Stmt:=top 35
abbrev zH6:List Str:=["_law_feed_here","_law_many","_law_menu","_law_first","_law_step","_law_names_here","_law_letters","_law_base","_law_at"]
abbrev zk7:List Str:=["_law_feed_here","_law_many"]
theorem zP7:FnScope zH6 zk7 (za8 zk0):=⟨rfl,rfl,rfl,by decide +kernel,rfl,by decide +kernel,by decide +kernel⟩
theorem zab7:List.Nodup (["_law_k","_law_menu","_law_first","_law_step"]:List Str):=by decide +kernel
theorem zX1:List.Nodup (["_law_k","_law_feed_here","_law_letters"]:List Str):=by decide +kernel
theorem zY7:List.Nodup (["_law_k","_law_first","_law_letters","_law_base","_law_at"]:List Str):=by decide +kernel
def zB0:DS:=(dSeq (dSet 5 (dLC [none,some 3,some 6,some 7,some 8] (zO8 (dVar 1)) (gN 0) zx1 (dBin aAdd (dBin aAdd (dSlE (dVar 3) dNoP (zag9 (dVar 4))) (dBin aIx (dVar 2) (dBin aMod (dBin aAdd (dVar 1) (dBin aMul (dCon (.int 3)) (dVar 0))) (dCon (.int 26))))) (dSlE (dVar 3) (zag9 (dVar 4)) dNoP)))) zb7)
def zB6:DS:=(dSeq (dSet 8 (zb6 2 za9 (za3 (dVar 0) (za3 (dBin aAdd (zc6 bLen (za3 (dVar 7) dNil)) (dCon (.int 1))) dNil)))) zB0)
def zB1:DS:=(dSeq (dSet 7 (zaT7 "" (dLC [none,some 0,some 6] (zO8 (zb6 2 za9 (za3 (dVar 0) (za3 (dCon (.int 8)) dNil)))) (gN 0) zx1 (dBin aIx (dVar 2) (zb6 2 za9 (za3 (dVar 1) (za3 (dCon (.int 26)) dNil))))))) zB6)
def zG4:DS:=(dSeq (dSet 6 (dCon (.str "abcdefghijklmnopqrstuvwxyz"))) zB1)
def zA2:DS:=(dSeq (dRet (zc6 zar7 (za3 (dVar 5) dNil))) zb7)
def zL4:DS:=(dSeq (dIf (dTst (dBin aEq (zb6 2 za9 (za3 (dVar 0) (za3 (dCon (.int 3)) dNil))) (dCon (.int 0)))) zG4 zb7) zA2)
def zK9:DS:=(dSeq (dSet 5 (dLC [none,some 2,some 3,some 4] (zO8 (dVar 1)) (gN 0) zx1 (dBin aIx (dVar 1) (dBin aMod (dBin aAdd (dVar 2) (dBin aMul (dVar 3) (dVar 0))) (dCon (.int 12)))))) zL4)
def zL1:DS:=(dSeq (dSet 4 (dBin aIx (dLst (za3 (dCon (.int 1)) (za3 (dCon (.int 5)) (za3 (dCon (.int 7)) (za3 (dCon (.int 11)) dNil))))) (zb6 2 za9 (za3 (dVar 0) (za3 (dCon (.int 4)) dNil))))) zK9)
def zL0:DS:=(dSeq (dSet 3 (zb6 2 za9 (za3 (dVar 0) (za3 (dCon (.int 12)) dNil)))) zL1)
def zy9:DS:=(dSeq (dSet 2 (dLst (za3 (dCon (.str "a")) (za3 (dCon (.str "ab")) (za3 (dCon (.str "abc")) (za3 (dCon (.str "b")) (za3 (dCon (.str "point")) (za3 (dCon (.str "may")) (za3 (dCon (.str "gap")) (za3 (dCon (.str "begin")) (za3 (dCon (.str "strict")) (za3 (dCon (.str "o")) (za3 (dCon (.str "stretch")) (za3 (dCon (.str "zzzzzzzz")) dNil)))))))))))))) zL0)
abbrev zk3:Stmt:=top 36
abbrev zF6:List Str:=["_law_feed_here","_law_many","_law_some"]
abbrev zk1:List Str:=["_law_feed_here","_law_many"]
theorem zP8:FnScope zF6 zk1 (za8 zk3):=⟨rfl,rfl,rfl,by decide +kernel,rfl,by decide +kernel,by decide +kernel⟩
theorem zZ7:List.Nodup (["_law_k","_law_feed_here"]:List Str):=by decide +kernel
theorem zY1:List.Nodup (["_law_k"]:List Str):=by decide +kernel
def zA0:DS:=(dSeq (dRet (zc6 zp6 (za3 (dVar 2) dNil))) zb7)
def zL5:DS:=(dSeq (dIf (dTst (dBin aEq (zb6 2 za9 (za3 (dVar 0) (za3 (dCon (.int 3)) dNil))) (dCon (.int 0)))) (dSeq (dSet 2 (dLC [none] (zO8 (dVar 1)) (gN 0) zx1 (dCon (.str "stretch")))) zb7) zb7) zA0)
def zy2:DS:=(dSeq (dSet 2 (dLC [none,some 0] (zO8 (dVar 1)) (gN 0) zx1 (dBin aIx (dLst (za3 (dCon (.str "point")) (za3 (dCon (.str "stretch")) dNil))) (zb6 2 za9 (za3 (dVar 1) (za3 (dCon (.int 2)) dNil)))))) zL5)
abbrev zi3:Stmt:=top 37
abbrev zC6:List Str:=["_law_feed_here","_law_most","_law_names_here","_law_kinds_here"]
abbrev zi2:List Str:=["_law_feed_here","_law_most"]
theorem zK6:FnScope zC6 zi2 (za8 zi3):=⟨rfl,rfl,rfl,by decide +kernel,rfl,by decide +kernel,by decide +kernel⟩
theorem zU8:List.Nodup (["_law_k","_law_names_here","_law_kinds_here"]:List Str):=by decide +kernel
def zF7:DS:=(dSeq (dRet (zc6 zp6 (za3 (dLC [none,some 2,some 3] (zO8 (zc6 bLen (za3 (dVar 2) dNil))) (gN 0) zx1 (dTup (za3 (dBin aIx (dVar 1) (dVar 0)) (za3 (dBin aIx (dVar 2) (dVar 0)) dNil)))) dNil))) zb7)
def zI1:DS:=(dSeq (dSet 3 (zb6 2 zp2 (za3 (dVar 0) (za3 (zc6 bLen (za3 (dVar 2) dNil)) dNil)))) zF7)
def zt5:DS:=(dSeq (dSet 2 (zb6 2 zp3 (za3 (dVar 0) (za3 (dBin aAdd (dCon (.int 1)) (zb6 2 za9 (za3 (dVar 0) (za3 (dVar 1) dNil)))) dNil)))) zI1)
abbrev zr2:Stmt:=top 38
abbrev zS4:List Str:=["_law_feed_here","_law_kinds_here","_law_known","_law_piece","_law_found","_law_way"]
abbrev zr3:List Str:=["_law_feed_here","_law_kinds_here"]
theorem zY3:FnScope zS4 zr3 (za8 zr2):=⟨rfl,rfl,rfl,by decide +kernel,rfl,by decide +kernel,by decide +kernel⟩
theorem zai4:List.Nodup (["_law_word_here","_law_feed_here","_law_piece"]:List Str):=by decide +kernel
def zH8:DS:=(dSeq (dRet (zc6 zp6 (za3 (dVar 4) dNil))) zb7)
def zU1:DS:=(dSeq (dIf (dTst (dBin aEq (dVar 5) (dCon (.int 1)))) (dSeq (dSet 4 (dLst dNil)) zb7) zb7) zH8)
def zT9:DS:=(dSeq (dIf (dTst (dBin aEq (dVar 5) (dCon (.int 0)))) (dSeq (dSet 4 (dLst (za3 (dBin aIx (dVar 2) (zb6 2 za9 (za3 (dVar 0) (za3 (zc6 bLen (za3 (dVar 2) dNil)) dNil)))) dNil))) zb7) zb7) zU1)
def zT3:DS:=(dSeq (dSet 5 (zb6 2 za9 (za3 (dVar 0) (za3 (dCon (.int 8)) dNil)))) zT9)
def zT6:DS:=(dSeq (dSet 4 (dLC [none,some 0,some 3] (zz8 (dVar 2)) (gN 0) (dTst (dBin aEq (zb6 2 za9 (za3 (dVar 1) (za3 (dVar 2) dNil))) (dCon (.int 0)))) (dVar 0))) zT3)
def zU0:DS:=(dSeq (dSet 3 (dBin aAdd (dCon (.int 1)) (zb6 2 za9 (za3 (dVar 0) (za3 (dCon (.int 5)) dNil))))) zT6)
def zJ1:DS:=(dSeq (dSet 2 (zb6 1 zh0 (za3 (dVar 1) dNil))) zU0)
abbrev zj5:Stmt:=top 39
abbrev zG3:List Str:=["_law_feed_here","_law_kind","_law_base","_law_many","_law_bottom","_law_first","_law_last"]
abbrev zk4:List Str:=["_law_feed_here","_law_kind","_law_base","_law_many","_law_bottom"]
theorem zP4:FnScope zG3 zk4 (za8 zj5):=⟨rfl,rfl,rfl,by decide +kernel,rfl,by decide +kernel,by decide +kernel⟩
def zJ9:DS:=(dSeq (dRet (dTup (za3 (zb6 2 zb8 (za3 (dBin aAdd (dVar 2) (dVar 5)) (za3 (dVar 4) dNil))) (za3 (zb6 2 zb8 (za3 (dBin aAdd (dVar 2) (dVar 6)) (za3 (dVar 4) dNil))) dNil)))) zb7)
def zK5:DS:=(dSeq (dSet 6 (dBin aAdd (dBin aAdd (dVar 5) (dCon (.int 1))) (zb6 2 za9 (za3 (dVar 0) (za3 (dBin aSub (dBin aSub (dVar 3) (dCon (.int 1))) (dVar 5)) dNil))))) zJ9)
def zK3:DS:=(dSeq (dSet 5 (zb6 2 za9 (za3 (dVar 0) (za3 (dBin aSub (dVar 3) (dCon (.int 1))) dNil)))) zK5)
def zs7:DS:=(dSeq (dIf (dTst (dBin aEq (dVar 1) (dCon (.str "point")))) (dSeq (dRet (zb6 2 zb8 (za3 (dBin aAdd (dVar 2) (zb6 2 za9 (za3 (dVar 0) (za3 (dVar 3) dNil)))) (za3 (dVar 4) dNil)))) zb7) zb7) zK3)
abbrev zh6:Stmt:=top 40
abbrev zA3:List Str:=["_law_feed_here","_law_things_here","_law_many","_law_bottom","_law_base"]
abbrev zh7:List Str:=["_law_feed_here","_law_things_here"]
theorem zG8:FnScope zA3 zh7 (za8 zh6):=⟨rfl,rfl,rfl,by decide +kernel,rfl,by decide +kernel,by decide +kernel⟩
theorem zA6:List.Nodup (["_law_name","_law_kind","_law_feed_here","_law_many","_law_bottom","_law_base"]:List Str):=by decide +kernel
def zF0:DS:=(dSeq (dRet (zc6 zp6 (za3 (dLC [none,none,some 0,some 2,some 3,some 4] (zz8 (dVar 1)) (gT 2 (gNs (gN 0) (gNs (gN 1) gN0))) zx1 (zb6 5 zl5 (za3 (dVar 2) (za3 (dVar 1) (za3 (dVar 5) (za3 (dVar 3) (za3 (dVar 4) dNil))))))) dNil))) zb7)
def zF1:DS:=(dSeq (dSet 4 (dBin aSub (dBin aIx (dLst (za3 (dCon (.int 0)) (za3 (dCon (.int 0)) (za3 (dNeg (dCon (.int 5))) (za3 (dCon (.int 12)) (za3 (dCon (.int 900000)) dNil)))))) (zb6 2 za9 (za3 (dVar 0) (za3 (dCon (.int 5)) dNil)))) (zb6 2 za9 (za3 (dVar 0) (za3 (dCon (.int 3)) dNil))))) zF0)
def zF3:DS:=(dSeq (dSet 3 (dBin aIx (dLst (za3 (dCon (.int 1)) (za3 (dCon (.int 1)) (za3 (dCon (.int 2)) (za3 (dCon (.int 3)) (za3 (dCon (.int 7)) (za3 (dCon (.int 999983)) dNil))))))) (zb6 2 za9 (za3 (dVar 0) (za3 (dCon (.int 6)) dNil))))) zF1)
def zs4:DS:=(dSeq (dSet 2 (dBin aAdd (dCon (.int 2)) (zb6 2 za9 (za3 (dVar 0) (za3 (dCon (.int 8)) dNil))))) zF3)
abbrev zf7:Stmt:=top 41
abbrev zx3:List Str:=["_law_things_here","_law_found","_law_name","_law_kind"]
abbrev zd8:List Str:=["_law_things_here"]
theorem zE8:FnScope zx3 zd8 (za8 zf7):=⟨rfl,rfl,rfl,by decide +kernel,rfl,by decide +kernel,by decide +kernel⟩
def zm2:DS:=(dSeq (dIf (dTst (dBin aEq (dVar 3) (dCon (.str "stretch")))) (dSeq (zac3 (dApp (dVar 1) (dTup (za3 (dVar 2) (za3 (dCon (.int 1)) dNil))))) zb7) zb7) zb7)
def zh4:DS:=(dSeq (zac3 (dApp (dVar 1) (dTup (za3 (dVar 2) (za3 (dCon (.int 0)) dNil))))) zm2)
def zr0:DS:=(dSeq (dRet (dVar 1)) zb7)
def zA9:DS:=(dSeq (dFor (zz8 (dVar 0)) (gT 2 (gNs (gN 2) (gNs (gN 3) gN0))) zh4) zr0)
def zp1:DS:=(dSeq (dSet 1 (zae7 dNil)) zA9)
abbrev zn7:Stmt:=top 42
abbrev zM8:List Str:=["_law_things_here","_law_telling_here","_law_end","_law_k"]
abbrev zn1:List Str:=["_law_things_here","_law_telling_here","_law_end"]
theorem zT4:FnScope zM8 zn1 (za8 zn7):=⟨rfl,rfl,rfl,by decide +kernel,rfl,by decide +kernel,by decide +kernel⟩
def zz9:DS:=(dSeq (dIf (dTst (dBin aEq (dBin aIx (dBin aIx (dVar 0) (dVar 3)) (dCon (.int 0))) (dBin aIx (dVar 2) (dCon (.int 0))))) (dSeq (dRet (dIte (dTst (dBin aEq (dBin aIx (dBin aIx (dVar 0) (dVar 3)) (dCon (.int 1))) (dCon (.str "point")))) (dBin aIx (dVar 1) (dVar 3)) (dBin aIx (dBin aIx (dVar 1) (dVar 3)) (dBin aIx (dVar 2) (dCon (.int 1)))))) zb7) zb7) zb7)
def zaf5:DS:=(dSeq (dRet (dCon .none)) zb7)
def zE4:DS:=(dSeq (dFor (zO8 (zc6 bLen (za3 (dVar 0) dNil))) (gN 3) zz9) zaf5)
abbrev ze9:Stmt:=top 43
abbrev zp8:List Str:=["_law_feed_here","_law_things_here","_law_telling_here","_law_k","_law_j","_law_kinds_here","_law_there","_law_words_here"]
abbrev ze6:List Str:=["_law_feed_here","_law_things_here","_law_telling_here"]
theorem zz1:FnScope zp8 ze6 (za8 ze9):=⟨rfl,rfl,rfl,by decide +kernel,rfl,by decide +kernel,by decide +kernel⟩
theorem zJ6:List.Nodup (["_law_word_here","_law_there","_law_words_here"]:List Str):=by decide +kernel
def zg8:DS:=(dSeq (dRet (dTup (za3 (dCon (.str "may")) (za3 (dBin aIx (dBin aIx (dVar 1) (dVar 3)) (dCon (.int 0))) (za3 (dBin aIx (dBin aIx (dVar 1) (dVar 4)) (dCon (.int 0))) (za3 (dVar 7) dNil)))))) zb7)
def zx0:DS:=(dSeq (dIf (dOrT (dTst (dBin aEq (dVar 7) (dTup dNil))) (dTst (dBin aGt (zb6 2 za9 (za3 (dVar 0) (za3 (dCon (.int 4)) dNil))) (dCon (.int 0))))) (dSeq (dSet 7 (zc6 zp6 (za3 (dLC [none,some 6,some 7] (zz8 (zb6 1 zh0 (za3 (dVar 5) dNil))) (gN 0) (dOrT (dTst (dBin aIn (dVar 0) (dVar 2))) (dTst (dBin aEq (dVar 0) (dVar 1)))) (dVar 0)) dNil))) zb7) zb7) zg8)
def zx6:DS:=(dSeq (dSet 7 (zb6 2 zv8 (za3 (dVar 0) (za3 (dVar 5) dNil)))) zx0)
def zu1:DS:=(dSeq (dSet 6 (zb6 2 zj8 (za3 (dBin aIx (dVar 2) (dVar 3)) (za3 (dBin aIx (dVar 2) (dVar 4)) dNil)))) zx6)
def zv6:DS:=(dSeq (dSet 5 (dTup (za3 (dBin aIx (dBin aIx (dVar 1) (dVar 3)) (dCon (.int 1))) (za3 (dBin aIx (dBin aIx (dVar 1) (dVar 4)) (dCon (.int 1))) dNil)))) zu1)
def zu8:DS:=(dSeq (dSet 4 (dBin aMod (dBin aAdd (dBin aAdd (dVar 3) (dCon (.int 1))) (zb6 2 za9 (za3 (dVar 0) (za3 (dBin aSub (zc6 bLen (za3 (dVar 1) dNil)) (dCon (.int 1))) dNil)))) (zc6 bLen (za3 (dVar 1) dNil)))) zv6)
def zl8:DS:=(dSeq (dSet 3 (zb6 2 za9 (za3 (dVar 0) (za3 (zc6 bLen (za3 (dVar 1) dNil)) dNil)))) zu8)
abbrev zf1:Stmt:=top 44
abbrev zq8:List Str:=["_law_feed_here","_law_things_here","_law_telling_here","_law_ends","_law_k","_law_x","_law_y","_law_one","_law_other","_law_top","_law_bottom","_law_way","_law_number"]
abbrev zf0:List Str:=["_law_feed_here","_law_things_here","_law_telling_here"]
theorem zz4:FnScope zq8 zf0 (za8 zf1):=⟨rfl,rfl,rfl,by decide +kernel,rfl,by decide +kernel,by decide +kernel⟩
def zp4:DS:=(dSeq (dSet 12 (zb6 2 zb8 (za3 (dVar 9) (za3 (dBin aIx (dLst (za3 (dCon (.int 1)) (za3 (dCon (.int 2)) (za3 (dCon (.int 3)) (za3 (dCon (.int 999998)) dNil))))) (zb6 2 za9 (za3 (dVar 0) (za3 (dCon (.int 4)) dNil)))) dNil)))) zb7)
def zm3:DS:=(dSeq (dSet 9 (dBin aIx (dLst (za3 (dCon (.int 0)) (za3 (dCon (.int 1)) (za3 (dNeg (dCon (.int 7))) (za3 (dCon (.int 999999)) (za3 (dCon (.int 5)) dNil)))))) (zb6 2 za9 (za3 (dVar 0) (za3 (dCon (.int 5)) dNil))))) zp4)
def zh8:DS:=(dSeq (dRet (dTup (za3 (dCon (.str "gap")) (za3 (dVar 5) (za3 (dVar 6) (za3 (dVar 12) (za3 (dBin aEq (zb6 2 za9 (za3 (dVar 0) (za3 (dCon (.int 2)) dNil))) (dCon (.int 1))) dNil))))))) zb7)
def zJ7:DS:=(dSeq (dIf (dOrT (dTst (dBin aEq (dVar 11) (dCon (.int 2)))) (dOrT (dTst (dBin aGt (zc6 bAbs (za3 (dBin aIx (dVar 12) (dCon (.int 0))) dNil)) (dCon (.int 999999)))) (dTst (dBin aGt (dBin aIx (dVar 12) (dCon (.int 1))) (dCon (.int 999999)))))) zm3 zb7) zh8)
def zm1:DS:=(dSeq (dSet 12 (zb6 2 zb8 (za3 (dVar 9) (za3 (dVar 10) dNil)))) zJ7)
def zu5:DS:=(dSeq (dIf (dTst (dBin aLt (dVar 11) (dCon (.int 2)))) (dSeq (dSet 9 (dBin aAdd (dVar 9) (dBin aIx (dLst (za3 (dCon (.int 0)) (za3 (dCon (.int 1)) (za3 (dNeg (dCon (.int 1))) dNil)))) (zb6 2 za9 (za3 (dVar 0) (za3 (dCon (.int 3)) dNil)))))) zb7) zb7) zm1)
def zw7:DS:=(dSeq (dSet 11 (zb6 2 za9 (za3 (dVar 0) (za3 (dCon (.int 5)) dNil)))) zu5)
def zw9:DS:=(dSeq (dSet 10 (dBin aMul (dBin aIx (dVar 7) (dCon (.int 1))) (dBin aIx (dVar 8) (dCon (.int 1))))) zw7)
def zw0:DS:=(dSeq (dSet 9 (dBin aSub (dBin aMul (dBin aIx (dVar 7) (dCon (.int 0))) (dBin aIx (dVar 8) (dCon (.int 1)))) (dBin aMul (dBin aIx (dVar 8) (dCon (.int 0))) (dBin aIx (dVar 7) (dCon (.int 1)))))) zw9)
def zv9:DS:=(dSeq (dSet 8 (zb6 3 zk9 (za3 (dVar 1) (za3 (dVar 2) (za3 (dVar 6) dNil))))) zw0)
def zv2:DS:=(dSeq (dSet 7 (zb6 3 zk9 (za3 (dVar 1) (za3 (dVar 2) (za3 (dVar 5) dNil))))) zv9)
def zv1:DS:=(dSeq (dSet 6 (dBin aIx (dVar 3) (dBin aMod (dBin aAdd (dBin aAdd (dVar 4) (dCon (.int 1))) (zb6 2 za9 (za3 (dVar 0) (za3 (dBin aSub (zc6 bLen (za3 (dVar 3) dNil)) (dCon (.int 1))) dNil)))) (zc6 bLen (za3 (dVar 3) dNil))))) zv2)
def zw8:DS:=(dSeq (dSet 5 (dBin aIx (dVar 3) (dVar 4))) zv1)
def zx7:DS:=(dSeq (dSet 4 (zb6 2 za9 (za3 (dVar 0) (za3 (zc6 bLen (za3 (dVar 3) dNil)) dNil)))) zw8)
def zl7:DS:=(dSeq (dSet 3 (zb6 1 zg1 (za3 (dVar 1) dNil))) zx7)
abbrev zn2:Stmt:=top 45
abbrev zM2:List Str:=["_law_feed_here","_law_things_here","_law_telling_here","_law_most","_law_ends","_law_sayings","_law_k"]
abbrev zn3:List Str:=["_law_feed_here","_law_things_here","_law_telling_here","_law_most"]
theorem zT2:FnScope zM2 zn3 (za8 zn2):=⟨rfl,rfl,rfl,by decide +kernel,rfl,by decide +kernel,by decide +kernel⟩
def zL2:DS:=(dSeq (dIf (zaF7 (dTst (dBin aGt (zc6 bLen (za3 (dVar 1) dNil)) (dCon (.int 1)))) (dTst (dBin aLt (zb6 2 za9 (za3 (dVar 0) (za3 (dCon (.int 5)) dNil))) (dCon (.int 3))))) (dSeq (zac3 (dApp (dVar 5) (zb6 3 zh3 (za3 (dVar 0) (za3 (dVar 1) (za3 (dVar 2) dNil)))))) zb7) (dSeq (dIf (dTst (dBin aGt (zc6 bLen (za3 (dVar 4) dNil)) (dCon (.int 1)))) (dSeq (zac3 (dApp (dVar 5) (zb6 3 zg0 (za3 (dVar 0) (za3 (dVar 1) (za3 (dVar 2) dNil)))))) zb7) zb7) zb7)) zb7)
def zQ3:DS:=(dSeq (dRet (dTup (za3 (dVar 1) (za3 (zc6 zp6 (za3 (dVar 5) dNil)) dNil)))) zb7)
def zO7:DS:=(dSeq (dFor (zO8 (zb6 2 za9 (za3 (dVar 0) (za3 (dBin aAdd (dVar 3) (dCon (.int 1))) dNil)))) (gN 6) zL2) zQ3)
def zP9:DS:=(dSeq (dSet 5 (zae7 dNil)) zO7)
def zC4:DS:=(dSeq (dSet 4 (zb6 1 zg1 (za3 (dVar 1) dNil))) zP9)
abbrev zr8:Stmt:=top 46
abbrev zR2:List Str:=["_law_things_here","_law_telling_here","_law_k","_law_j"]
abbrev zr1:List Str:=["_law_things_here","_law_telling_here","_law_k","_law_j"]
theorem zab3:FnScope zR2 zr1 (za8 zr8):=⟨rfl,rfl,rfl,by decide +kernel,rfl,by decide +kernel,by decide +kernel⟩
def zI8:DS:=(dSeq (dRet (dTup (za3 (dBin aIx (dBin aIx (dVar 0) (dVar 2)) (dCon (.int 0))) (za3 (dBin aIx (dBin aIx (dVar 0) (dVar 3)) (dCon (.int 0))) (za3 (dTup (za3 (zb6 2 zj8 (za3 (dBin aIx (dVar 1) (dVar 2)) (za3 (dBin aIx (dVar 1) (dVar 3)) dNil))) dNil)) dNil))))) zb7)
abbrev zi1:Stmt:=top 47
abbrev zG9:List Str:=["_law_things_here","_law_telling_here","_law_found","_law_k","_law_j"]
abbrev zh1:List Str:=["_law_things_here","_law_telling_here"]
theorem zO9:FnScope zG9 zh1 (za8 zi1):=⟨rfl,rfl,rfl,by decide +kernel,rfl,by decide +kernel,by decide +kernel⟩
def zH3:DS:=(dSeq (zac3 (dApp (dVar 2) (zb6 4 zw6 (za3 (dVar 0) (za3 (dVar 1) (za3 (dVar 3) (za3 (dVar 4) dNil))))))) zb7)
def zH1:DS:=(dSeq (dFor (zaG5 (dBin aAdd (dVar 3) (dCon (.int 1))) (zc6 bLen (za3 (dVar 0) dNil))) (gN 4) zH3) zb7)
def zK4:DS:=(dSeq (dRet (zc6 zp6 (za3 (dVar 2) dNil))) zb7)
def zJ8:DS:=(dSeq (dFor (zO8 (zc6 bLen (za3 (dVar 0) dNil))) (gN 3) zH1) zK4)
def zy5:DS:=(dSeq (dSet 2 (zae7 dNil)) zJ8)
abbrev ze8:Stmt:=top 48
abbrev zq9:List Str:=["_law_time_here","_law_often","_law_more","_law_top"]
abbrev ze7:List Str:=["_law_time_here","_law_often","_law_more"]
theorem zy3:FnScope zq9 ze7 (za8 ze8):=⟨rfl,rfl,rfl,by decide +kernel,rfl,by decide +kernel,by decide +kernel⟩
def zv5:DS:=(dSeq (dRet (zb6 2 zb8 (za3 (dVar 3) (za3 (dBin aMul (dBin aMul (dBin aIx (dVar 0) (dCon (.int 1))) (dBin aIx (dVar 1) (dCon (.int 1)))) (dBin aIx (dVar 2) (dCon (.int 1)))) dNil)))) zb7)
def zl9:DS:=(dSeq (dSet 3 (dBin aAdd (dBin aMul (dBin aMul (dBin aIx (dVar 0) (dCon (.int 0))) (dBin aIx (dVar 1) (dCon (.int 0)))) (dBin aIx (dVar 2) (dCon (.int 1)))) (dBin aMul (dBin aMul (dBin aIx (dVar 2) (dCon (.int 0))) (dBin aIx (dVar 0) (dCon (.int 1)))) (dBin aIx (dVar 1) (dCon (.int 1)))))) zv5)
abbrev ze3:Stmt:=top 49
abbrev zs9:List Str:=["_law_things_here","_law_telling_here","_law_often","_law_more","_law_found","_law_j"]
abbrev zd5:List Str:=["_law_things_here","_law_telling_here","_law_often","_law_more"]
theorem zC1:FnScope zs9 zd5 (za8 ze3):=⟨rfl,rfl,rfl,by decide +kernel,rfl,by decide +kernel,by decide +kernel⟩
theorem zL7:List.Nodup (["_law_time_here","_law_often","_law_more"]:List Str):=by decide +kernel
def zm9:DS:=(dSeq (dIf (dTst (dBin aEq (dBin aIx (dBin aIx (dVar 0) (dVar 5)) (dCon (.int 1))) (dCon (.str "point")))) (dSeq (zac3 (dApp (dVar 4) (zb6 3 zd7 (za3 (dBin aIx (dVar 1) (dVar 5)) (za3 (dVar 2) (za3 (dVar 3) dNil)))))) zb7) (dSeq (zac3 (dApp (dVar 4) (zc6 zp6 (za3 (dLC [none,some 2,some 3] (zz8 (dBin aIx (dVar 1) (dVar 5))) (gN 0) zx1 (zb6 3 zd7 (za3 (dVar 0) (za3 (dVar 1) (za3 (dVar 2) dNil))))) dNil)))) zb7)) zb7)
def zz2:DS:=(dSeq (dRet (zc6 zp6 (za3 (dVar 4) dNil))) zb7)
def zy8:DS:=(dSeq (dFor (zO8 (zc6 bLen (za3 (dVar 0) dNil))) (gN 5) zm9) zz2)
def zm6:DS:=(dSeq (dSet 4 (zae7 dNil)) zy8)
abbrev ze1:Stmt:=top 50
abbrev zo9:List Str:=["_law_things_here","_law_telling_here","_law_found","_law_more","_law_due","_law_turn"]
abbrev zd9:List Str:=["_law_things_here","_law_telling_here","_law_found","_law_more"]
theorem zu2:FnScope zo9 zd9 (za8 ze1):=⟨rfl,rfl,rfl,by decide +kernel,rfl,by decide +kernel,by decide +kernel⟩
def zo7:DS:=(dSeq (dSet 2 (zb6 4 zy6 (za3 (dVar 0) (za3 (dVar 2) (za3 (dTup (za3 (dCon (.int 1)) (za3 (dCon (.int 999999)) dNil))) (za3 (dVar 3) dNil)))))) zb7)
def zs6:DS:=(dSeq (dSet 4 (zb6 4 ze5 (za3 (dVar 0) (za3 (dVar 4) (za3 (dTup (za3 (dCon (.int 1)) (za3 (dCon (.int 999999)) dNil))) (za3 (dVar 3) dNil)))))) zo7)
def zt4:DS:=(dSeq (dRet (dAnd (dBin aEq (zc6 zU5 (za3 (dVar 2) dNil)) (zc6 zU5 (za3 (dVar 4) dNil))) (dBin aEq (zc6 zU5 (za3 (zb6 2 zn0 (za3 (dVar 0) (za3 (dVar 2) dNil))) dNil)) (zc6 zU5 (za3 (zb6 2 zi9 (za3 (dVar 0) (za3 (dVar 1) dNil))) dNil))))) zb7)
def zt0:DS:=(dSeq (dFor (zO8 (dCon (.int 3))) (gN 5) zs6) zt4)
def zj2:DS:=(dSeq (dSet 4 (dVar 2)) zt0)
abbrev zaf1:Stmt:=top 51
abbrev zaX0:List Str:=["_law_script","_law_k","_law_feed_here","_law_things_here","_law_telling_here","_law_often","_law_more","_law_due","_law_found","_law_talk_here","_law_sayings","_law_mays"]
abbrev zaM9:List Str:=["_law_script"]
theorem zaR4:FnScope zaX0 zaM9 (za8 zaf1):=⟨rfl,rfl,rfl,by decide +kernel,rfl,by decide +kernel,by decide +kernel⟩
theorem zaK7:List.Nodup (["_law_saying"]:List Str):=by decide +kernel
def zN1:DS:=(dSeq (dIf (zay3 (dTst (zb6 4 zg7 (za3 (dVar 3) (za3 (dVar 4) (za3 (dVar 8) (za3 (dVar 6) dNil))))))) (dSeq (dRet (dCon (.bool false))) zb7) zb7) zb7)
def zX7:DS:=(dSeq (dIf (dTst (dBin aNe (zc6 zU5 (za3 (zb6 2 zB2 (za3 (dVar 11) (za3 (dVar 8) dNil))) dNil)) (zc6 zU5 (za3 (zb6 2 zB2 (za3 (dVar 11) (za3 (dVar 4) dNil))) dNil)))) (dSeq (dRet (dCon (.bool false))) zb7) zb7) zN1)
def zaa5:DS:=(dSeq (dSet 11 (dTup (za3 (dVar 3) (za3 (zc6 zp6 (za3 (dVar 10) dNil)) dNil)))) zX7)
def zY6:DS:=(dSeq (dSet 10 (dLC [none] (zz8 (dBin aIx (dVar 9) (dCon (.int 1)))) (gN 0) (dTst (dBin aEq (dBin aIx (dVar 0) (dCon (.int 0))) (dCon (.str "may")))) (dVar 0))) zaa5)
def zX8:DS:=(dSeq (dSet 9 (zb6 4 zs8 (za3 (dVar 2) (za3 (dVar 3) (za3 (dVar 4) (za3 (dCon (.int 8)) dNil)))))) zY6)
def zad4:DS:=(dSeq (dIf (dTst (dBin aNe (zc6 zU5 (za3 (zb6 2 zn0 (za3 (dVar 3) (za3 (dVar 8) dNil))) dNil)) (zc6 zU5 (za3 (zb6 2 zi9 (za3 (dVar 3) (za3 (dVar 4) dNil))) dNil)))) (dSeq (dRet (dCon (.bool false))) zb7) zb7) zX8)
def zac9:DS:=(dSeq (dIf (dTst (dBin aNe (zc6 zU5 (za3 (dVar 8) dNil)) (zc6 zU5 (za3 (dVar 7) dNil)))) (dSeq (dRet (dCon (.bool false))) zb7) zb7) zad4)
def zac6:DS:=(dSeq (dSet 8 (zb6 4 zy6 (za3 (dVar 3) (za3 (dVar 4) (za3 (dVar 5) (za3 (dVar 6) dNil)))))) zac9)
def zS8:DS:=(dSeq (dSet 7 (zb6 4 ze5 (za3 (dVar 3) (za3 (dVar 4) (za3 (dVar 5) (za3 (dVar 6) dNil)))))) zac6)
def zad3:DS:=(dSeq (dSet 6 (zb6 2 zb8 (za3 (dBin aSub (zb6 2 za9 (za3 (dVar 2) (za3 (dCon (.int 2001)) dNil))) (dCon (.int 1000))) (za3 (dBin aAdd (dCon (.int 1)) (zb6 2 za9 (za3 (dVar 2) (za3 (dCon (.int 9)) dNil)))) dNil)))) zS8)
def zS3:DS:=(dSeq (dSet 5 (zb6 2 zb8 (za3 (dVar 5) (za3 (dBin aAdd (dCon (.int 1)) (zb6 2 za9 (za3 (dVar 2) (za3 (dBin aIx (dLst (za3 (dCon (.int 1)) (za3 (dCon (.int 9)) dNil))) (dBin aMod (dVar 1) (dCon (.int 2)))) dNil)))) dNil)))) zad3)
def zad5:DS:=(dSeq (dSet 5 (dBin aAdd (dCon (.int 1)) (zb6 2 za9 (za3 (dVar 2) (za3 (dBin aIx (dLst (za3 (dCon (.int 1)) (za3 (dCon (.int 5)) (za3 (dCon (.int 999999)) dNil)))) (zb6 2 za9 (za3 (dVar 2) (za3 (dCon (.int 3)) dNil)))) dNil))))) zS3)
def zac8:DS:=(dSeq (dSet 4 (zb6 2 zj6 (za3 (dVar 2) (za3 (dVar 3) dNil)))) zad5)
def zae6:DS:=(dSeq (dSet 3 (zb6 2 zm4 (za3 (dVar 2) (za3 (dCon (.int 6)) dNil)))) zac8)
def zav7:DS:=(dSeq (dSet 2 (zb6 2 zs5 (za3 (dVar 0) (za3 (dVar 1) dNil)))) zae6)
def zaa6:DS:=(dSeq (dRet (dCon (.bool true))) zb7)
def zaL4:DS:=(dSeq (dFor (zO8 (dCon (.int 5))) (gN 1) zav7) zaa6)
end K14
namespace K14
open PySem PySem.Spec PyProof.Rows L2 DL
section
variable {P:Program} {w:World} {K:PySem.W.Frag} {mg:Str→Option Value} {base:Heap}
theorem zaD6 {a_common:Addr} {fd_common:FuncData} (F_common:Fun K "common" "common" zE5 a_common fd_common) (m_abs:mg "abs"=none)
    (vc:∀ ds m R,ds.length=zD0.length→zw2 ds m R→zV3 { nx:=fun _ m=>R (.dat .none) m,rt:=R } (zb4 zaf0 ds) m):FnOk P w K mg base CX0 1 a_common fd_common zD0 (LSp K 2 zw2) :=
  zc0 (k:=0) F_common zak7 (body:=zV3) (fun cdv A outer s H E hr=>have nd:=(zak7).nd; (za2 (zao0 PassesOwn.never (zc5 (zaO0 hr.u100) (za1 1) za4) (za2 (zaW8 0 1 rfl nd (za0 (za1 1) (za0 (zb1 zB7 (za1 0) (za1 1)) za5))) za6)) (za2 (zb5 (zc3 zaF1 rfl m_abs zW3 (za0 (za1 0) za5))) za6))) vc
theorem zar8 {a_fraction:Addr} {fd_fraction:FuncData} (F_fraction:Fun K "fraction" "fraction" zl1 a_fraction fd_fraction) {a_common:Addr} {fd_common:FuncData} (F_common:Fun K "common" "common" zE5 a_common fd_common) (B_common:Binds K fd_common zD0 []) (M_common:mg "common"=some (.ref a_common)) (C_common:FnOk P w K mg base CX0 1 a_common fd_common zD0 (LSp K 2 zw2))
    (vc:∀ ds m R,ds.length=zh9.length→zg5 ds m R→zA8 { nx:=fun _ m=>R (.dat .none) m,rt:=R } (zb4 zR3 ds) m):FnOk P w K mg base CX0 2 a_fraction fd_fraction zh9 (LSp K 2 zg5) :=
  zc0 (k:=1) F_fraction zX5 (body:=zA8) (fun cdv A outer s H E hr=>have nd:=(zX5).nd; (za2 (zb2 2 nd (za7 C_common (hr.mono (by decide)) M_common F_common.kp B_common rfl (za0 (za1 0) (za0 (za1 1) za5)))) (za2 (zg2 (zc5 zax2 (za1 1) za4) (za2 (zb2 2 nd (zX2 (za1 2))) za6) za6) (za2 (zb5 (zd1 (za0 (zb1 zan8 (za1 0) (za1 2)) (za0 (zb1 zan8 (za1 1) (za1 2)) za5)))) za6)))) vc
theorem zaY5 {a_plus:Addr} {fd_plus:FuncData} (F_plus:Fun K "plus" "plus" zab8 a_plus fd_plus) {a_fraction:Addr} {fd_fraction:FuncData} (F_fraction:Fun K "fraction" "fraction" zl1 a_fraction fd_fraction) (B_fraction:Binds K fd_fraction zh9 []) (M_fraction:mg "fraction"=some (.ref a_fraction)) (C_fraction:FnOk P w K mg base CX0 2 a_fraction fd_fraction zh9 (LSp K 2 zg5))
    (vc:∀ ds m R,ds.length=zY5.length→zR6 ds m R→zat6 { nx:=fun _ m=>R (.dat .none) m,rt:=R } (zb4 zaG9 ds) m):FnOk P w K mg base CX0 3 a_plus fd_plus zY5 (LSp K 2 zR6) :=
  zc0 (k:=2) F_plus zaG2 (body:=zat6) (fun cdv A outer s H E hr=>have nd:=(zaG2).nd; (za2 (zb5 (za7 C_fraction (hr.mono (by decide)) M_fraction F_fraction.kp B_fraction rfl (za0 (zb1 zf2 (zb1 zh5 (zb0 (za1 0) za4) (zb0 (za1 1) za4)) (zb1 zh5 (zb0 (za1 1) za4) (zb0 (za1 0) za4))) (za0 (zb1 zh5 (zb0 (za1 0) za4) (zb0 (za1 1) za4)) za5)))) za6)) vc
theorem zaX2 {a_less:Addr} {fd_less:FuncData} (F_less:Fun K "less" "less" zZ8 a_less fd_less) {a_fraction:Addr} {fd_fraction:FuncData} (F_fraction:Fun K "fraction" "fraction" zl1 a_fraction fd_fraction) (B_fraction:Binds K fd_fraction zh9 []) (M_fraction:mg "fraction"=some (.ref a_fraction)) (C_fraction:FnOk P w K mg base CX0 2 a_fraction fd_fraction zh9 (LSp K 2 zg5))
    (vc:∀ ds m R,ds.length=zZ4.length→zX6 ds m R→zaF9 { nx:=fun _ m=>R (.dat .none) m,rt:=R } (zb4 zaG6 ds) m):FnOk P w K mg base CX0 3 a_less fd_less zZ4 (LSp K 2 zX6) :=
  zc0 (k:=2) F_less zaH2 (body:=zaF9) (fun cdv A outer s H E hr=>have nd:=(zaH2).nd; (za2 (zb5 (za7 C_fraction (hr.mono (by decide)) M_fraction F_fraction.kp B_fraction rfl (za0 (zb1 zF5 (zb1 zh5 (zb0 (za1 0) za4) (zb0 (za1 1) za4)) (zb1 zh5 (zb0 (za1 1) za4) (zb0 (za1 0) za4))) (za0 (zb1 zh5 (zb0 (za1 0) za4) (zb0 (za1 1) za4)) za5)))) za6)) vc
theorem zaz7 {a_product:Addr} {fd_product:FuncData} (F_product:Fun K "product" "product" zu7 a_product fd_product) {a_fraction:Addr} {fd_fraction:FuncData} (F_fraction:Fun K "fraction" "fraction" zl1 a_fraction fd_fraction) (B_fraction:Binds K fd_fraction zh9 []) (M_fraction:mg "fraction"=some (.ref a_fraction)) (C_fraction:FnOk P w K mg base CX0 2 a_fraction fd_fraction zh9 (LSp K 2 zg5))
    (vc:∀ ds m R,ds.length=zx5.length→zt7 ds m R→zQ9 { nx:=fun _ m=>R (.dat .none) m,rt:=R } (zb4 zaa4 ds) m):FnOk P w K mg base CX0 3 a_product fd_product zx5 (LSp K 2 zt7) :=
  zc0 (k:=2) F_product zad2 (body:=zQ9) (fun cdv A outer s H E hr=>have nd:=(zad2).nd; (za2 (zb5 (za7 C_fraction (hr.mono (by decide)) M_fraction F_fraction.kp B_fraction rfl (za0 (zb1 zh5 (zb0 (za1 0) za4) (zb0 (za1 1) za4)) (za0 (zb1 zh5 (zb0 (za1 0) za4) (zb0 (za1 1) za4)) za5)))) za6)) vc
theorem zao2 {a_is_below:Addr} {fd_is_below:FuncData} (F_is_below:Fun K "is_below" "is_below" zn9 a_is_below fd_is_below) 
    (vc:∀ ds m R,ds.length=zl3.length→zi6 ds m R→zI6 { nx:=fun _ m=>R (.dat .none) m,rt:=R } (zb4 zS2 ds) m):FnOk P w K mg base CX0 1 a_is_below fd_is_below zl3 (LSp K 2 zi6) :=
  zc0 (k:=0) F_is_below zW0 (body:=zI6) (fun cdv A outer s H E hr=>have nd:=(zW0).nd; (za2 (zb5 (zM0 zax2 (zb1 zh5 (zb0 (za1 0) za4) (zb0 (za1 1) za4)) (zb1 zh5 (zb0 (za1 1) za4) (zb0 (za1 0) za4)))) za6)) vc
theorem zap1 {a_words_of:Addr} {fd_words_of:FuncData} (F_words_of:Fun K "words_of" "words_of" zr5 a_words_of fd_words_of) {c_POINT_WORDS:Addr} (M_POINT_WORDS:mg "POINT_WORDS"=some (.ref c_POINT_WORDS)) (K_POINT_WORDS:KTD K w c_POINT_WORDS zz5) {c_ORDER:Addr} (M_ORDER:mg "ORDER"=some (.ref c_ORDER)) (K_ORDER:KT K c_ORDER ["ahead","meets","overlaps","begins","within","ends","same","ended","holds","begun","lapped","met","behind"])
    (vc:∀ ds m R,ds.length=zp7.length→zu6 ds m R→zJ5 { nx:=fun _ m=>R (.dat .none) m,rt:=R } (zb4 zR7 ds) m):FnOk P w K mg base CX0 1 a_words_of fd_words_of zp7 (LSp K 1 zu6) :=
  zc0 (k:=0) F_words_of zZ9 (body:=zJ5) (fun cdv A outer s H E hr=>have nd:=(zZ9).nd; (za2 (zb5 (zaz4 hr.u100 rfl M_POINT_WORDS K_POINT_WORDS (za1 0) (zaZ6 rfl M_ORDER K_ORDER))) za6)) vc
theorem zay0 {a_ways_by:Addr} {fd_ways_by:FuncData} (F_ways_by:Fun K "ways_by" "ways_by" zx4 a_ways_by fd_ways_by) {c_WAYS:Addr} (M_WAYS:mg "WAYS"=some (.ref c_WAYS)) (K_WAYS:KD K w c_WAYS zah5)
    (vc:∀ ds m R,ds.length=zv7.length→zq0 ds m R→zN8 { nx:=fun _ m=>R (.dat .none) m,rt:=R } (zb4 zaa7 ds) m):FnOk P w K mg base CX0 1 a_ways_by fd_ways_by zv7 (LSp K 2 zq0) :=
  zc0 (k:=0) F_ways_by zac7 (body:=zN8) (fun cdv A outer s H E hr=>have nd:=(zac7).nd; (za2 (zb2 2 nd (zaF2 rfl M_WAYS K_WAYS (za1 1))) (za2 (zg2 (zc5 (zo3 hr.u100) (za1 0) (zd1 (za0 zb3 (za0 zb3 za5)))) (za2 (zb5 (za1 2)) za6) za6) (za2 (zg2 (zc5 (zo3 hr.u100) (za1 0) (zd1 (za0 zb3 (za0 zb3 za5)))) (za2 (zb5 (zar1 (za1 2) zO1 (zQ4 za4))) za6) za6) (za2 (zb5 (zd1 (za0 (zb0 (za1 2) za4) (za0 (zb0 (za1 2) za4) za5)))) za6))))) vc
theorem zao7 {a_is_point:Addr} {fd_is_point:FuncData} (F_is_point:Fun K "is_point" "is_point" zq7 a_is_point fd_is_point) (m_isinstance:mg "isinstance"=none) (m_tuple:mg "tuple"=none)
    (vc:∀ ds m R,ds.length=zs0.length→zi5 ds m R→zI5 { nx:=fun _ m=>R (.dat .none) m,rt:=R } (zb4 zR5 ds) m):FnOk P w K mg base CX0 1 a_is_point fd_is_point zs0 (LSp K 1 zi5) :=
  zc0 (k:=0) F_is_point zY0 (body:=zI5) (fun cdv A outer s H E hr=>have nd:=(zY0).nd; (za2 (zb5 (zaG8 (zab5 rfl m_isinstance rfl m_tuple zc8 (Or.inr (Or.inr (Or.inr (Or.inl rfl)))) (zb0 (za1 0) za4)))) za6)) vc
theorem zaJ4 {a_way_of:Addr} {fd_way_of:FuncData} (F_way_of:Fun K "way_of" "way_of" zE7 a_way_of fd_way_of) {a_is_below:Addr} {fd_is_below:FuncData} (F_is_below:Fun K "is_below" "is_below" zn9 a_is_below fd_is_below) (B_is_below:Binds K fd_is_below zl3 []) (M_is_below:mg "is_below"=some (.ref a_is_below)) (C_is_below:FnOk P w K mg base CX0 1 a_is_below fd_is_below zl3 (LSp K 2 zi6))
    (vc:∀ ds m R,ds.length=zC8.length→zu3 ds m R→zV4 { nx:=fun _ m=>R (.dat .none) m,rt:=R } (zb4 zag1 ds) m):FnOk P w K mg base CX0 2 a_way_of fd_way_of zC8 (LSp K 2 zu3) :=
  zc0 (k:=1) F_way_of zak1 (body:=zV4) (fun cdv A outer s H E hr=>have nd:=(zak1).nd; (za2 (zg2 (zr4 (za7 C_is_below (hr.mono (by decide)) M_is_below F_is_below.kp B_is_below rfl (za0 (za1 0) (za0 (za1 1) za5)))) (za2 (zb5 (zX2 za4)) za6) za6) (za2 (zg2 (zr4 (za7 C_is_below (hr.mono (by decide)) M_is_below F_is_below.kp B_is_below rfl (za0 (za1 1) (za0 (za1 0) za5)))) (za2 (zb5 za4) za6) za6) (za2 (zb5 za4) za6)))) vc
theorem zaz8 {a_word_of:Addr} {fd_word_of:FuncData} (F_word_of:Fun K "word_of" "word_of" zu9 a_word_of fd_word_of) {a_is_point:Addr} {fd_is_point:FuncData} (F_is_point:Fun K "is_point" "is_point" zq7 a_is_point fd_is_point) (B_is_point:Binds K fd_is_point zs0 []) (M_is_point:mg "is_point"=some (.ref a_is_point)) (C_is_point:FnOk P w K mg base CX0 1 a_is_point fd_is_point zs0 (LSp K 1 zi5)) {a_way_of:Addr} {fd_way_of:FuncData} (F_way_of:Fun K "way_of" "way_of" zE7 a_way_of fd_way_of) (B_way_of:Binds K fd_way_of zC8 []) (M_way_of:mg "way_of"=some (.ref a_way_of)) (C_way_of:FnOk P w K mg base CX0 2 a_way_of fd_way_of zC8 (LSp K 2 zu3)) {a_words_of:Addr} {fd_words_of:FuncData} (F_words_of:Fun K "words_of" "words_of" zr5 a_words_of fd_words_of) (B_words_of:Binds K fd_words_of zp7 []) (M_words_of:mg "words_of"=some (.ref a_words_of)) (C_words_of:FnOk P w K mg base CX0 1 a_words_of fd_words_of zp7 (LSp K 1 zu6)) {a_ways_by:Addr} {fd_ways_by:FuncData} (F_ways_by:Fun K "ways_by" "ways_by" zx4 a_ways_by fd_ways_by) (B_ways_by:Binds K fd_ways_by zv7 []) (M_ways_by:mg "ways_by"=some (.ref a_ways_by)) (C_ways_by:FnOk P w K mg base CX0 1 a_ways_by fd_ways_by zv7 (LSp K 2 zq0)) (m_tuple:mg "tuple"=none)
    (vc:∀ ds m R,ds.length=zy1.length→zt9 ds m R→zw5 { nx:=fun _ m=>R (.dat .none) m,rt:=R } (zb4 zW5 ds) m):FnOk P w K mg base CX0 3 a_word_of fd_word_of zy1 (LSp K 2 zt9) :=
  zc0 (k:=2) F_word_of zae2 (body:=zw5) (fun cdv A outer s H E hr=>have nd:=(zae2).nd; (za2 (zb2 2 nd (zd1 (za0 (zw4 (zr4 (za7 C_is_point (hr.mono (by decide)) M_is_point F_is_point.kp B_is_point rfl (za0 (za1 0) za5))) zb3 zb3) (za0 (zw4 (zr4 (za7 C_is_point (hr.mono (by decide)) M_is_point F_is_point.kp B_is_point rfl (za0 (za1 1) za5))) zb3 zb3) za5)))) (za2 (zb2 3 nd (zw4 (zr4 (za7 C_is_point (hr.mono (by decide)) M_is_point F_is_point.kp B_is_point rfl (za0 (za1 0) za5))) (zd1 (za0 (za1 0) za5)) (za1 0))) (za2 (zb2 4 nd (zw4 (zr4 (za7 C_is_point (hr.mono (by decide)) M_is_point F_is_point.kp B_is_point rfl (za0 (za1 1) za5))) (zd1 (za0 (za1 1) za5)) (za1 1))) (za2 (zb2 5 nd (ze2 zj3 rfl m_tuple zc8 (za0 (zau7 ["x","y","others"] [none,none,some 4] rfl (zq6 (za1 3)) (fun cl C s2 H2 pins fp=>(zb9 0 zT5)) (fun cl C s2 H2 pins fp=>zn5) (fun cl C s2 H2 pins fp=>(zq6 (za1 2))) (fun cl C s2 H2 pins fp=>(zb9 1 zT5)) (fun cl C s2 H2 pins fp=>zn5) (fun cl C s2 H2 pins fp=>(za7 C_way_of (hr.mono (by decide)) M_way_of F_way_of.kp B_way_of rfl (za0 (za1 0) (za0 (za1 1) za5))))) za5))) (za2 (zb5 (zb0 (zD5 ["word","kinds","ways"] [none,some 2,some 5] rfl (zq6 (za7 C_words_of (hr.mono (by decide)) M_words_of F_words_of.kp B_words_of rfl (za0 (za1 2) za5))) (fun cl C s2 H2 pins fp=>(zb9 0 zal5)) (fun cl C s2 H2 pins fp=>(zZ1 (zc5 (zo3 hr.u100) (za7 C_ways_by (hr.mono (by decide)) M_ways_by F_ways_by.kp B_ways_by rfl (za0 (za1 1) (za0 (za1 0) za5))) (za1 2)))) (fun cl C s2 H2 pins fp=>(za1 0))) za4)) za6)))))) vc
theorem zao8 {a_names_of:Addr} {fd_names_of:FuncData} (F_names_of:Fun K "names_of" "names_of" zo2 a_names_of fd_names_of) 
    (vc:∀ ds m R,ds.length=zl4.length→zn6 ds m R→zJ4 { nx:=fun _ m=>R (.dat .none) m,rt:=R } (zb4 zR9 ds) m):FnOk P w K mg base CX0 1 a_names_of fd_names_of zl4 (LSp K 1 zn6) :=
  zc0 (k:=0) F_names_of zaa3 (body:=zJ4) (fun cdv A outer s H E hr=>have nd:=(zaa3).nd; (za2 (zb5 (zD5 ["name","kind"] [none,none] rfl (zq6 (za1 0)) (fun cl C s2 H2 pins fp=>(zv3 rfl (zc9 (zb9 0 zQ2) (zc9 (zb9 1 zQ2) zo5)))) (fun cl C s2 H2 pins fp=>zn5) (fun cl C s2 H2 pins fp=>(za1 0)))) za6)) vc
theorem zar5 {a_pairs_of:Addr} {fd_pairs_of:FuncData} (F_pairs_of:Fun K "pairs_of" "pairs_of" zp9 a_pairs_of fd_pairs_of) {a_names_of:Addr} {fd_names_of:FuncData} (F_names_of:Fun K "names_of" "names_of" zo2 a_names_of fd_names_of) (B_names_of:Binds K fd_names_of zl4 []) (M_names_of:mg "names_of"=some (.ref a_names_of)) (C_names_of:FnOk P w K mg base CX0 1 a_names_of fd_names_of zl4 (LSp K 1 zn6)) (m_enumerate:mg "enumerate"=none)
    (vc:∀ ds m R,ds.length=zr9.length→zx9 ds m R→zJ3 { nx:=fun _ m=>R (.dat .none) m,rt:=R } (zb4 zS0 ds) m):FnOk P w K mg base CX0 2 a_pairs_of fd_pairs_of zr9 (LSp K 1 zx9) :=
  zc0 (k:=1) F_pairs_of zY2 (body:=zJ3) (fun cdv A outer s H E hr=>have nd:=(zY2).nd; (za2 (zb2 1 nd (za7 C_names_of (hr.mono (by decide)) M_names_of F_names_of.kp B_names_of rfl (za0 (za1 0) za5))) (za2 (zb5 (zau7 ["at","a","b","names"] [none,none,none,some 1] rfl (zaL2 rfl m_enumerate (za1 1)) (fun cl C s2 H2 pins fp=>(zv3 rfl (zc9 (zb9 0 zE0) (zc9 (zb9 1 zE0) zo5)))) (fun cl C s2 H2 pins fp=>zn5) (fun cl C s2 H2 pins fp=>(zq6 (zar1 (za1 3) (zQ4 (zb1 zf2 (za1 0) za4)) zO1))) (fun cl C s2 H2 pins fp=>(zb9 2 zE0)) (fun cl C s2 H2 pins fp=>zn5) (fun cl C s2 H2 pins fp=>(zd1 (za0 (za1 1) (za0 (za1 2) za5)))))) za6))) vc
theorem zas1 {a_times_of:Addr} {fd_times_of:FuncData} (F_times_of:Fun K "times_of" "times_of" zo0 a_times_of fd_times_of) {a_names_of:Addr} {fd_names_of:FuncData} (F_names_of:Fun K "names_of" "names_of" zo2 a_names_of fd_names_of) (B_names_of:Binds K fd_names_of zl4 []) (M_names_of:mg "names_of"=some (.ref a_names_of)) (C_names_of:FnOk P w K mg base CX0 1 a_names_of fd_names_of zl4 (LSp K 1 zn6))
    (vc:∀ ds m R,ds.length=zl2.length→zl0 ds m R→zJ2 { nx:=fun _ m=>R (.dat .none) m,rt:=R } (zb4 zS1 ds) m):FnOk P w K mg base CX0 2 a_times_of fd_times_of zl2 (LSp K 3 zl0) :=
  zc0 (k:=1) F_times_of zW7 (body:=zJ2) (fun cdv A outer s H E hr=>have nd:=(zW7).nd; (za2 (zb5 (zb0 (za1 1) (zaK6 (za7 C_names_of (hr.mono (by decide)) M_names_of F_names_of.kp B_names_of rfl (za0 (za1 0) za5)) (za1 2)))) za6)) vc
theorem zax3 {a_time_of:Addr} {fd_time_of:FuncData} (F_time_of:Fun K "time_of" "time_of" zv0 a_time_of fd_time_of) {a_times_of:Addr} {fd_times_of:FuncData} (F_times_of:Fun K "times_of" "times_of" zo0 a_times_of fd_times_of) (B_times_of:Binds K fd_times_of zl2 []) (M_times_of:mg "times_of"=some (.ref a_times_of)) (C_times_of:FnOk P w K mg base CX0 2 a_times_of fd_times_of zl2 (LSp K 3 zl0)) (m_dict:mg "dict"=none)
    (vc:∀ ds m R,ds.length=zw1.length→zt6 ds m R→zY8 { nx:=fun _ m=>R (.dat .none) m,rt:=R } (zb4 zX4 ds) m):FnOk P w K mg base CX0 3 a_time_of fd_time_of zw1 (LSp K 3 zt6) :=
  zc0 (k:=2) F_time_of zae1 (body:=zY8) (fun cdv A outer s H E hr=>have nd:=(zae1).nd; (za2 (zao9 (za1 2) (zv3 rfl (zc9 (zb9 3 nd) (zc9 (zb9 4 nd) zo5)))) (za2 (zb2 5 nd (za7 C_times_of (hr.mono (by decide)) M_times_of F_times_of.kp B_times_of rfl (za0 (za1 0) (za0 (za1 1) (za0 (za1 3) za5))))) (za2 (zb5 (zw4 (zc5 (zo3 hr.u100) (zaO7 hr.u100 (zaJ8 rfl rfl m_dict (za1 0)) (za1 3)) zb3) (za1 5) (zb0 (za1 5) (za1 4)))) za6)))) vc
theorem zaa0 {a_word_between:Addr} {fd_word_between:FuncData} (F_word_between:Fun K "word_between" "word_between" zg3 a_word_between fd_word_between) {a_word_of:Addr} {fd_word_of:FuncData} (F_word_of:Fun K "word_of" "word_of" zu9 a_word_of fd_word_of) (B_word_of:Binds K fd_word_of zy1 []) (M_word_of:mg "word_of"=some (.ref a_word_of)) (C_word_of:FnOk P w K mg base CX0 3 a_word_of fd_word_of zy1 (LSp K 2 zt9)) {a_times_of:Addr} {fd_times_of:FuncData} (F_times_of:Fun K "times_of" "times_of" zo0 a_times_of fd_times_of) (B_times_of:Binds K fd_times_of zl2 []) (M_times_of:mg "times_of"=some (.ref a_times_of)) (C_times_of:FnOk P w K mg base CX0 2 a_times_of fd_times_of zl2 (LSp K 3 zl0))
    (vc:∀ ds m R,ds.length=zf3.length→zf8 ds m R→zs3 { nx:=fun _ m=>R (.dat .none) m,rt:=R } (zb4 zA1 ds) m):FnOk P w K mg base CX0 4 a_word_between fd_word_between zf3 (LSp K 4 zf8) :=
  zc0 (k:=3) F_word_between zH5 (body:=zs3) (fun cdv A outer s H E hr=>have nd:=(zH5).nd; (za2 (zb5 (za7 C_word_of (hr.mono (by decide)) M_word_of F_word_of.kp B_word_of rfl (za0 (za7 C_times_of (hr.mono (by decide)) M_times_of F_times_of.kp B_times_of rfl (za0 (za1 0) (za0 (za1 1) (za0 (za1 2) za5)))) (za0 (za7 C_times_of (hr.mono (by decide)) M_times_of F_times_of.kp B_times_of rfl (za0 (za1 0) (za0 (za1 1) (za0 (za1 3) za5)))) za5)))) za6)) vc
theorem zai5 {a_is_gap_met:Addr} {fd_is_gap_met:FuncData} (F_is_gap_met:Fun K "is_gap_met" "is_gap_met" zk5 a_is_gap_met fd_is_gap_met) {a_less:Addr} {fd_less:FuncData} (F_less:Fun K "less" "less" zZ8 a_less fd_less) (B_less:Binds K fd_less zZ4 []) (M_less:mg "less"=some (.ref a_less)) (C_less:FnOk P w K mg base CX0 3 a_less fd_less zZ4 (LSp K 2 zX6)) {a_time_of:Addr} {fd_time_of:FuncData} (F_time_of:Fun K "time_of" "time_of" zv0 a_time_of fd_time_of) (B_time_of:Binds K fd_time_of zw1 []) (M_time_of:mg "time_of"=some (.ref a_time_of)) (C_time_of:FnOk P w K mg base CX0 3 a_time_of fd_time_of zw1 (LSp K 3 zt6)) {a_is_below:Addr} {fd_is_below:FuncData} (F_is_below:Fun K "is_below" "is_below" zn9 a_is_below fd_is_below) (B_is_below:Binds K fd_is_below zl3 []) (M_is_below:mg "is_below"=some (.ref a_is_below)) (C_is_below:FnOk P w K mg base CX0 1 a_is_below fd_is_below zl3 (LSp K 2 zi6))
    (vc:∀ ds m R,ds.length=zk8.length→zo8 ds m R→zI0 { nx:=fun _ m=>R (.dat .none) m,rt:=R } (zb4 zH0 ds) m):FnOk P w K mg base CX0 4 a_is_gap_met fd_is_gap_met zk8 (LSp K 3 zo8) :=
  zc0 (k:=3) F_is_gap_met zO6 (body:=zI0) (fun cdv A outer s H E hr=>have nd:=(zO6).nd; (za2 (zao9 (za1 2) (zv3 rfl (zc9 (zb9 3 nd) (zc9 (zb9 4 nd) (zc9 (zb9 5 nd) (zc9 (zb9 6 nd) zo5)))))) (za2 (zb2 7 nd (za7 C_less (hr.mono (by decide)) M_less F_less.kp B_less rfl (za0 (za7 C_time_of (hr.mono (by decide)) M_time_of F_time_of.kp B_time_of rfl (za0 (za1 0) (za0 (za1 1) (za0 (za1 3) za5)))) (za0 (za7 C_time_of (hr.mono (by decide)) M_time_of F_time_of.kp B_time_of rfl (za0 (za1 0) (za0 (za1 1) (za0 (za1 4) za5)))) za5)))) (za2 (zb5 (zw4 (zr4 (za1 6)) (za7 C_is_below (hr.mono (by decide)) M_is_below F_is_below.kp B_is_below rfl (za0 (za1 7) (za0 (za1 5) za5))) (zaG8 (za7 C_is_below (hr.mono (by decide)) M_is_below F_is_below.kp B_is_below rfl (za0 (za1 5) (za0 (za1 7) za5)))))) za6)))) vc
theorem zao5 {a_table_of:Addr} {fd_table_of:FuncData} (F_table_of:Fun K "table_of" "table_of" zn8 a_table_of fd_table_of) {a_pairs_of:Addr} {fd_pairs_of:FuncData} (F_pairs_of:Fun K "pairs_of" "pairs_of" zp9 a_pairs_of fd_pairs_of) (B_pairs_of:Binds K fd_pairs_of zr9 []) (M_pairs_of:mg "pairs_of"=some (.ref a_pairs_of)) (C_pairs_of:FnOk P w K mg base CX0 2 a_pairs_of fd_pairs_of zr9 (LSp K 1 zx9)) {a_word_between:Addr} {fd_word_between:FuncData} (F_word_between:Fun K "word_between" "word_between" zg3 a_word_between fd_word_between) (B_word_between:Binds K fd_word_between zf3 []) (M_word_between:mg "word_between"=some (.ref a_word_between)) (C_word_between:FnOk P w K mg base CX0 4 a_word_between fd_word_between zf3 (LSp K 4 zf8)) (m_tuple:mg "tuple"=none)
    (vc:∀ ds m R,ds.length=zl6.length→zn0 ds m R→zI9 { nx:=fun _ m=>R (.dat .none) m,rt:=R } (zb4 zS7 ds) m):FnOk P w K mg base CX0 5 a_table_of fd_table_of zl6 (LSp K 2 zn0) :=
  zc0 (k:=4) F_table_of zaa8 (body:=zI9) (fun cdv A outer s H E hr=>have nd:=(zaa8).nd; (za2 (zb5 (ze2 zj3 rfl m_tuple zc8 (za0 (zD5 ["a","b","things","telling"] [none,none,some 0,some 1] rfl (zq6 (za7 C_pairs_of (hr.mono (by decide)) M_pairs_of F_pairs_of.kp B_pairs_of rfl (za0 (za1 0) za5))) (fun cl C s2 H2 pins fp=>(zv3 rfl (zc9 (zb9 0 zP5) (zc9 (zb9 1 zP5) zo5)))) (fun cl C s2 H2 pins fp=>zn5) (fun cl C s2 H2 pins fp=>(zd1 (za0 (za1 0) (za0 (za1 1) (za0 (zd1 (za0 (za7 C_word_between (hr.mono (by decide)) M_word_between F_word_between.kp B_word_between rfl (za0 (za1 2) (za0 (za1 3) (za0 (za1 0) (za0 (za1 1) za5))))) za5)) za5)))))) za5))) za6)) vc
theorem zaN5 {a_moved:Addr} {fd_moved:FuncData} (F_moved:Fun K "moved" "moved" zF9 a_moved fd_moved) {a_plus:Addr} {fd_plus:FuncData} (F_plus:Fun K "plus" "plus" zab8 a_plus fd_plus) (B_plus:Binds K fd_plus zY5 []) (M_plus:mg "plus"=some (.ref a_plus)) (C_plus:FnOk P w K mg base CX0 3 a_plus fd_plus zY5 (LSp K 2 zR6)) {a_product:Addr} {fd_product:FuncData} (F_product:Fun K "product" "product" zu7 a_product fd_product) (B_product:Binds K fd_product zx5 []) (M_product:mg "product"=some (.ref a_product)) (C_product:FnOk P w K mg base CX0 3 a_product fd_product zx5 (LSp K 2 zt7)) (m_tuple:mg "tuple"=none) (m_zip:mg "zip"=none)
    (vc:∀ ds m R,ds.length=zE6.length→zy6 ds m R→zai1 { nx:=fun _ m=>R (.dat .none) m,rt:=R } (zb4 zar2 ds) m):FnOk P w K mg base CX0 4 a_moved fd_moved zE6 (LSp K 4 zy6) :=
  zc0 (k:=3) F_moved zav9 (body:=zai1) (fun cdv A outer s H E hr=>have nd:=(zav9).nd; (za2 (zb2 4 nd (zE3 za5)) (za2 (zE1 PassesOwn.never rfl (zaV5 rfl m_zip (za1 0) (za1 1)) (zv3 rfl (zc9 (zv3 rfl (zc9 (zb9 5 nd) (zc9 (zb9 6 nd) zo5))) (zc9 (zb9 7 nd) zo5))) (za2 (zb2 8 nd (zw4 (zc5 (zo3 hr.u100) (za1 6) zb3) (zd1 (za0 (za1 7) za5)) (za1 7))) (za2 (zM7 9 ["time","times","more"] [none,some 2,some 3] rfl nd (zq6 (za1 8)) (fun cl C s2 H2 pins fp=>(zb9 0 zax1)) (fun cl C s2 H2 pins fp=>zn5) (fun cl C s2 H2 pins fp=>(za7 C_plus (hr.mono (by decide)) M_plus F_plus.kp B_plus rfl (za0 (za7 C_product (hr.mono (by decide)) M_product F_product.kp B_product rfl (za0 (za1 0) (za0 (za1 1) za5))) (za0 (za1 2) za5))))) (za2 (zz3 (zG2 (za1 4) (zw4 (zc5 (zo3 hr.u100) (za1 6) zb3) (zb0 (za1 9) za4) (ze2 zj3 rfl m_tuple zc8 (za0 (za1 9) za5))))) za6)))) (za2 (zb5 (ze2 zj3 rfl m_tuple zc8 (za0 (za1 4) za5))) za6)))) vc
theorem zaP7 {a_is_so:Addr} {fd_is_so:FuncData} (F_is_so:Fun K "is_so" "is_so" zM3 a_is_so fd_is_so) {a_word_between:Addr} {fd_word_between:FuncData} (F_word_between:Fun K "word_between" "word_between" zg3 a_word_between fd_word_between) (B_word_between:Binds K fd_word_between zf3 []) (M_word_between:mg "word_between"=some (.ref a_word_between)) (C_word_between:FnOk P w K mg base CX0 4 a_word_between fd_word_between zf3 (LSp K 4 zf8)) {a_is_gap_met:Addr} {fd_is_gap_met:FuncData} (F_is_gap_met:Fun K "is_gap_met" "is_gap_met" zk5 a_is_gap_met fd_is_gap_met) (B_is_gap_met:Binds K fd_is_gap_met zk8 []) (M_is_gap_met:mg "is_gap_met"=some (.ref a_is_gap_met)) (C_is_gap_met:FnOk P w K mg base CX0 4 a_is_gap_met fd_is_gap_met zk8 (LSp K 3 zo8))
    (vc:∀ ds m R,ds.length=zL9.length→zC7 ds m R→zag0 { nx:=fun _ m=>R (.dat .none) m,rt:=R } (zb4 zap3 ds) m):FnOk P w K mg base CX0 5 a_is_so fd_is_so zL9 (LSp K 3 zC7) :=
  zc0 (k:=4) F_is_so zav8 (body:=zag0) (fun cdv A outer s H E hr=>have nd:=(zav8).nd; (za2 (zg2 (zc5 (zo3 hr.u100) (zb0 (za1 1) za4) zb3) (za2 (zb5 (zM0 zbh2 (za7 C_word_between (hr.mono (by decide)) M_word_between F_word_between.kp B_word_between rfl (za0 (za1 0) (za0 (za1 2) (za0 (zb0 (za1 1) za4) (za0 (zb0 (za1 1) za4) za5))))) (zb0 (za1 1) za4) (hm:=by with_unfolding_all rfl))) za6) za6) (za2 (zb5 (za7 C_is_gap_met (hr.mono (by decide)) M_is_gap_met F_is_gap_met.kp B_is_gap_met rfl (za0 (za1 0) (za0 (za1 2) (za0 (zar1 (za1 1) (zQ4 za4) zO1) za5))))) za6))) vc
theorem zaB2 {a_broken:Addr} {fd_broken:FuncData} (F_broken:Fun K "broken" "broken" zD6 a_broken fd_broken) {a_is_so:Addr} {fd_is_so:FuncData} (F_is_so:Fun K "is_so" "is_so" zM3 a_is_so fd_is_so) (B_is_so:Binds K fd_is_so zL9 []) (M_is_so:mg "is_so"=some (.ref a_is_so)) (C_is_so:FnOk P w K mg base CX0 5 a_is_so fd_is_so zL9 (LSp K 3 zC7)) (m_enumerate:mg "enumerate"=none)
    (vc:∀ ds m R,ds.length=zD8.length→zB2 ds m R→zV7 { nx:=fun _ m=>R (.dat .none) m,rt:=R } (zb4 zaj0 ds) m):FnOk P w K mg base CX0 6 a_broken fd_broken zD8 (LSp K 2 zB2) :=
  zc0 (k:=5) F_broken zam1 (body:=zV7) (fun cdv A outer s H E hr=>have nd:=(zam1).nd; (za2 (zao9 (za1 0) (zv3 rfl (zc9 (zb9 2 nd) (zc9 (zb9 3 nd) zo5)))) (za2 (zb5 (zD5 ["number","saying","telling","things"] [none,none,some 1,some 2] rfl (zaH4 rfl m_enumerate (za1 3)) (fun cl C s2 H2 pins fp=>(zv3 rfl (zc9 (zb9 0 zX9) (zc9 (zb9 1 zX9) zo5)))) (fun cl C s2 H2 pins fp=>(zZ1 (zaA5 (zr4 (za7 C_is_so (hr.mono (by decide)) M_is_so F_is_so.kp B_is_so rfl (za0 (za1 3) (za0 (za1 1) (za0 (za1 2) za5)))))))) (fun cl C s2 H2 pins fp=>(za1 0)))) za6))) vc
theorem zan1 {a__law_feed:Addr} {fd__law_feed:FuncData} (F__law_feed:Fun K "_law_feed" "_law_feed" zm8 a__law_feed fd__law_feed) (m_len:mg "len"=none) (m_max:mg "max"=none)
    (vc:∀ ds m R,ds.length=zn4.length→zs5 ds m R→zw3 { nx:=fun _ m=>R (.dat .none) m,rt:=R } (zb4 zN2 ds) m):FnOk P w K mg base CX0 1 a__law_feed fd__law_feed zn4 (LSp K 2 zs5) :=
  zc0 (k:=0) F__law_feed zT1 (body:=zw3) (fun cdv A outer s H E hr=>have nd:=(zT1).nd; (za2 (zg2 (zc5 (zo3 hr.u100) (zc3 zp5 rfl m_len ze4 (za0 (za1 0) za5)) za4) (za2 (zb5 (zE3 (za0 za4 (za0 za4 (za0 (za1 1) (za0 za4 za5)))))) za6) za6) (za2 (zb2 2 nd (zb0 (za1 0) (zb1 zB7 (za1 1) (zc3 zp5 rfl m_len ze4 (za0 (za1 0) za5))))) (za2 (zb5 (zE3 (za0 (zc3 (zbj6 rfl) rfl m_max zaH0 (za0 za4 (za0 (zb1 zF5 (za1 2) (zb1 zbh6 za4 za4)) za5))) (za0 (za1 2) (za0 (za1 1) (za0 za4 za5)))))) za6)))) vc
theorem zak2 {a__law_draw:Addr} {fd__law_draw:FuncData} (F__law_draw:Fun K "_law_draw" "_law_draw" zd2 a__law_draw fd__law_draw) 
    (vc:∀ ds m R,ds.length=zc2.length→za9 ds m R→zC3 { nx:=fun _ m=>R (.dat .none) m,rt:=R } (zb4 zM9 ds) m):FnOk P w K mg base CX0 1 a__law_draw fd__law_draw zc2 (LSp K 2 za9) :=
  zc0 (k:=0) F__law_draw zS9 (body:=zC3) (fun cdv A outer s H E hr=>have nd:=(zS9).nd; (za2 (zaC4 (zb1 zf2 (zb0 (za1 0) za4) za4) (za1 0) za4) (za2 (zg2 (zc5 zah7 (zb0 (za1 0) za4) za4) (za2 (zb2 2 nd (zb1 zB7 (zb0 (za1 0) za4) (za1 1))) (za2 (zaC4 (zb1 zan8 (zb0 (za1 0) za4) (za1 1)) (za1 0) za4) (za2 (zb5 (za1 2)) za6))) za6) (za2 (zb2 3 nd (zb1 zB7 (zb1 zf2 (zb1 zf2 (zb0 (za1 0) za4) (zb1 zh5 za4 (zb0 (za1 0) za4))) (zb1 zh5 za4 (zb0 (za1 0) za4))) za4)) (za2 (zb2 3 nd (zb1 zB7 (zb1 zf2 (zb1 zf2 (zb1 zh5 (za1 3) (za1 3)) (zb1 zh5 za4 (za1 3))) (zb0 (za1 0) za4)) za4)) (za2 (zb2 3 nd (zb1 zB7 (zb1 zf2 (zb1 zf2 (zb1 zh5 (za1 3) (za1 3)) (zb1 zh5 za4 (za1 3))) (zb0 (za1 0) za4)) za4)) (za2 (zb5 (zb1 zB7 (za1 3) (za1 1))) za6))))))) vc
theorem zU4 {a__law_fraction:Addr} {fd__law_fraction:FuncData} (F__law_fraction:Fun K "_law_fraction" "_law_fraction" zd4 a__law_fraction fd__law_fraction) (m_abs:mg "abs"=none)
    (vc:∀ ds m R,ds.length=zc7.length→zb8 ds m R→zo4 { nx:=fun _ m=>R (.dat .none) m,rt:=R } (zb4 zx2 ds) m):FnOk P w K mg base CX0 1 a__law_fraction fd__law_fraction zc7 (LSp K 2 zb8) :=
  zc0 (k:=0) F__law_fraction zE9 (body:=zo4) (fun cdv A outer s H E hr=>have nd:=(zE9).nd; (za2 (zb2 2 nd (za1 1)) (za2 (zb2 3 nd (zc3 zaF1 rfl m_abs zW3 (za0 (za1 0) za5))) (za2 (zao0 PassesOwn.never (zc5 zah7 (za1 3) za4) (za2 (zb2 4 nd (zb1 zB7 (za1 2) (za1 3))) (za2 (zb2 2 nd (za1 3)) (za2 (zb2 3 nd (za1 4)) za6)))) (za2 (zb5 (zd1 (za0 (zb1 zan8 (za1 0) (za1 2)) (za0 (zb1 zan8 (za1 1) (za1 2)) za5)))) za6))))) vc
theorem zaf4 {a__law_stand:Addr} {fd__law_stand:FuncData} (F__law_stand:Fun K "_law_stand" "_law_stand" zj9 a__law_stand fd__law_stand) (m_int:mg "int"=none)
    (vc:∀ ds m R,ds.length=zk6.length→ze0 ds m R→zz0 { nx:=fun _ m=>R (.dat .none) m,rt:=R } (zb4 zG0 ds) m):FnOk P w K mg base CX0 1 a__law_stand fd__law_stand zk6 (LSp K 2 ze0) :=
  zc0 (k:=0) F__law_stand zQ0 (body:=zz0) (fun cdv A outer s H E hr=>have nd:=(zQ0).nd; (za2 (zb2 2 nd (zb1 zF5 (zb1 zh5 (zb0 (za1 0) za4) (zb0 (za1 1) za4)) (zb1 zh5 (zb0 (za1 1) za4) (zb0 (za1 0) za4)))) (za2 (zb5 (zb1 zF5 (ze2 zaQ8 rfl m_int zal9 (za0 (zM0 zah7 (za1 2) za4) za5)) (ze2 zaQ8 rfl m_int zal9 (za0 (zM0 zax2 (za1 2) za4) za5)))) za6))) vc
theorem zan0 {a__law_word:Addr} {fd__law_word:FuncData} (F__law_word:Fun K "_law_word" "_law_word" zk2 a__law_word fd__law_word) {a__law_stand:Addr} {fd__law_stand:FuncData} (F__law_stand:Fun K "_law_stand" "_law_stand" zj9 a__law_stand fd__law_stand) (B__law_stand:Binds K fd__law_stand zk6 []) (M__law_stand:mg "_law_stand"=some (.ref a__law_stand)) (C__law_stand:FnOk P w K mg base CX0 1 a__law_stand fd__law_stand zk6 (LSp K 2 ze0)) (m_isinstance:mg "isinstance"=none) (m_tuple:mg "tuple"=none)
    (vc:∀ ds m R,ds.length=zi4.length→zj8 ds m R→zm7 { nx:=fun _ m=>R (.dat .none) m,rt:=R } (zb4 zL8 ds) m):FnOk P w K mg base CX0 2 a__law_word fd__law_word zi4 (LSp K 2 zj8) :=
  zc0 (k:=1) F__law_word zT8 (body:=zm7) (fun cdv A outer s H E hr=>have nd:=(zT8).nd; (za2 (zb2 2 nd (zaE0 (zab5 rfl m_isinstance rfl m_tuple zc8 (Or.inr (Or.inr (Or.inr (Or.inl rfl)))) (zb0 (za1 0) za4)) (zaB5 (zab5 rfl m_isinstance rfl m_tuple zc8 (Or.inr (Or.inr (Or.inr (Or.inl rfl)))) (zb0 (za1 1) za4))))) (za2 (zb2 3 nd (zw4 (zr4 (zab5 rfl m_isinstance rfl m_tuple zc8 (Or.inr (Or.inr (Or.inr (Or.inl rfl)))) (zb0 (za1 0) za4))) (za1 0) (zd1 (za0 (za1 0) (za0 (za1 0) za5))))) (za2 (zb2 4 nd (zw4 (zr4 (zab5 rfl m_isinstance rfl m_tuple zc8 (Or.inr (Or.inr (Or.inr (Or.inl rfl)))) (zb0 (za1 1) za4))) (za1 1) (zd1 (za0 (za1 1) (za0 (za1 1) za5))))) (za2 (zg2 (zc5 zax2 (za7 C__law_stand (hr.mono (by decide)) M__law_stand F__law_stand.kp B__law_stand rfl (za0 (zb0 (za1 3) za4) (za0 (zb0 (za1 4) za4) za5))) za4) (za2 (zb5 zb3) za6) za6) (za2 (zg2 (zc5 zah7 (za7 C__law_stand (hr.mono (by decide)) M__law_stand F__law_stand.kp B__law_stand rfl (za0 (zb0 (za1 3) za4) (za0 (zb0 (za1 4) za4) za5))) za4) (za2 (zb5 zb3) za6) za6) (za2 (zg2 (QW.pt (zap2 (zr4 (za1 2)) (zag4 (zc5 (zo3 hr.u100) (za7 C__law_stand (hr.mono (by decide)) M__law_stand F__law_stand.kp B__law_stand rfl (za0 (zb0 (za1 3) za4) (za0 (zb0 (za1 4) za4) za5))) za4)))) (za2 (zb5 zb3) za6) za6) (za2 (zg2 (QW.pt (zap2 (zr4 (za1 2)) (zag4 (zc5 (zo3 hr.u100) (za7 C__law_stand (hr.mono (by decide)) M__law_stand F__law_stand.kp B__law_stand rfl (za0 (zb0 (za1 3) za4) (za0 (zb0 (za1 4) za4) za5))) za4)))) (za2 (zb5 zb3) za6) za6) (za2 (zb2 5 nd (zd1 (za0 (zd1 (za0 zb3 (za0 zb3 (za0 zb3 za5)))) (za0 (zd1 (za0 zb3 (za0 zb3 (za0 zb3 za5)))) (za0 (zd1 (za0 zb3 (za0 zb3 (za0 zb3 za5)))) za5))))) (za2 (zb5 (zb0 (zb0 (za1 5) (zb1 zf2 za4 (za7 C__law_stand (hr.mono (by decide)) M__law_stand F__law_stand.kp B__law_stand rfl (za0 (zb0 (za1 3) za4) (za0 (zb0 (za1 4) za4) za5))))) (zb1 zf2 za4 (za7 C__law_stand (hr.mono (by decide)) M__law_stand F__law_stand.kp B__law_stand rfl (za0 (zb0 (za1 3) za4) (za0 (zb0 (za1 4) za4) za5)))))) za6)))))))))) vc
theorem zaf8 {a__law_words:Addr} {fd__law_words:FuncData} (F__law_words:Fun K "_law_words" "_law_words" zi0 a__law_words fd__law_words) 
    (vc:∀ ds m R,ds.length=zh2.length→zh0 ds m R→zy7 { nx:=fun _ m=>R (.dat .none) m,rt:=R } (zb4 zG7 ds) m):FnOk P w K mg base CX0 1 a__law_words fd__law_words zh2 (LSp K 1 zh0) :=
  zc0 (k:=0) F__law_words zO2 (body:=zy7) (fun cdv A outer s H E hr=>have nd:=(zO2).nd; (za2 (zg2 (zc5 (zo3 hr.u100) (za1 0) (zd1 (za0 zb3 (za0 zb3 za5)))) (za2 (zb2 1 nd (zj7 (za0 zb3 (za0 zb3 (za0 zb3 (za0 zb3 (za0 zb3 (za0 zb3 (za0 zb3 za5))))))))) (za2 (zb5 (zb1 zf2 (za1 1) (zj7 (za0 zb3 (za0 zb3 (za0 zb3 (za0 zb3 (za0 zb3 (za0 zb3 za5))))))))) za6)) za6) (za2 (zg2 (zc5 (zo3 hr.u100) (za1 0) (zd1 (za0 zb3 (za0 zb3 za5)))) (za2 (zb5 (zj7 (za0 zb3 (za0 zb3 (za0 zb3 za5))))) za6) za6) (za2 (zg2 (zc5 (zo3 hr.u100) (zb0 (za1 0) za4) zb3) (za2 (zb5 (zj7 (za0 zb3 (za0 zb3 (za0 zb3 (za0 zb3 (za0 zb3 za5))))))) za6) za6) (za2 (zb5 (zj7 (za0 zb3 (za0 zb3 (za0 zb3 (za0 zb3 (za0 zb3 za5))))))) za6))))) vc
theorem zah8 {a__law_names:Addr} {fd__law_names:FuncData} (F__law_names:Fun K "_law_names" "_law_names" zk0 a__law_names fd__law_names) {a__law_draw:Addr} {fd__law_draw:FuncData} (F__law_draw:Fun K "_law_draw" "_law_draw" zd2 a__law_draw fd__law_draw) (B__law_draw:Binds K fd__law_draw zc2 []) (M__law_draw:mg "_law_draw"=some (.ref a__law_draw)) (C__law_draw:FnOk P w K mg base CX0 1 a__law_draw fd__law_draw zc2 (LSp K 2 za9)) (m_range:mg "range"=none) (m_len:mg "len"=none) (m_sorted:mg "sorted"=none)
    (vc:∀ ds m R,ds.length=zk7.length→zp3 ds m R→zy9 { nx:=fun _ m=>R (.dat .none) m,rt:=R } (zb4 zH6 ds) m):FnOk P w K mg base CX0 2 a__law_names fd__law_names zk7 (LSp K 2 zp3) :=
  zc0 (k:=1) F__law_names zP7 (body:=zy9) (fun cdv A outer s H E hr=>have nd:=(zP7).nd; (za2 (zb2 2 nd (zj7 (za0 zb3 (za0 zb3 (za0 zb3 (za0 zb3 (za0 zb3 (za0 zb3 (za0 zb3 (za0 zb3 (za0 zb3 (za0 zb3 (za0 zb3 (za0 zb3 za5)))))))))))))) (za2 (zb2 3 nd (za7 C__law_draw (hr.mono (by decide)) M__law_draw F__law_draw.kp B__law_draw rfl (za0 (za1 0) (za0 za4 za5)))) (za2 (zb2 4 nd (zb0 (zj7 (za0 za4 (za0 za4 (za0 za4 (za0 za4 za5))))) (za7 C__law_draw (hr.mono (by decide)) M__law_draw F__law_draw.kp B__law_draw rfl (za0 (za1 0) (za0 za4 za5))))) (za2 (zM7 5 ["_law_k","_law_menu","_law_first","_law_step"] [none,some 2,some 3,some 4] rfl nd (zj0 rfl m_range (za1 1)) (fun cl C s2 H2 pins fp=>(zb9 0 zab7)) (fun cl C s2 H2 pins fp=>zn5) (fun cl C s2 H2 pins fp=>(zb0 (za1 1) (zb1 zB7 (zb1 zf2 (za1 2) (zb1 zh5 (za1 3) (za1 0))) za4)))) (za2 (zg2 (zc5 (zo3 hr.u100) (za7 C__law_draw (hr.mono (by decide)) M__law_draw F__law_draw.kp B__law_draw rfl (za0 (za1 0) (za0 za4 za5))) za4) (za2 (zb2 6 nd zb3) (za2 (zb2 7 nd (zaM7 (zD5 ["_law_k","_law_feed_here","_law_letters"] [none,some 0,some 6] rfl (zj0 rfl m_range (za7 C__law_draw (hr.mono (by decide)) M__law_draw F__law_draw.kp B__law_draw rfl (za0 (za1 0) (za0 za4 za5)))) (fun cl C s2 H2 pins fp=>(zb9 0 zX1)) (fun cl C s2 H2 pins fp=>zn5) (fun cl C s2 H2 pins fp=>(zb0 (za1 2) (za7 C__law_draw (hr.mono (by decide)) M__law_draw F__law_draw.kp B__law_draw rfl (za0 (za1 1) (za0 za4 za5)))))))) (za2 (zb2 8 nd (za7 C__law_draw (hr.mono (by decide)) M__law_draw F__law_draw.kp B__law_draw rfl (za0 (za1 0) (za0 (zb1 zf2 (zc3 zp5 rfl m_len ze4 (za0 (za1 7) za5)) za4) za5)))) (za2 (zM7 5 ["_law_k","_law_first","_law_letters","_law_base","_law_at"] [none,some 3,some 6,some 7,some 8] rfl nd (zj0 rfl m_range (za1 1)) (fun cl C s2 H2 pins fp=>(zb9 0 zY7)) (fun cl C s2 H2 pins fp=>zn5) (fun cl C s2 H2 pins fp=>(zb1 zf2 (zb1 zf2 (zaF3 (za1 3) zO1 (zQ4 (za1 4))) (zb0 (za1 2) (zb1 zB7 (zb1 zf2 (za1 1) (zb1 zh5 za4 (za1 0))) za4))) (zaF3 (za1 3) (zQ4 (za1 4)) zO1)))) za6)))) za6) (za2 (zb5 (zc3 zaI5 rfl m_sorted zaj7 (za0 (za1 5) za5))) za6))))))) vc
theorem zai8 {a__law_kinds:Addr} {fd__law_kinds:FuncData} (F__law_kinds:Fun K "_law_kinds" "_law_kinds" zk3 a__law_kinds fd__law_kinds) {a__law_draw:Addr} {fd__law_draw:FuncData} (F__law_draw:Fun K "_law_draw" "_law_draw" zd2 a__law_draw fd__law_draw) (B__law_draw:Binds K fd__law_draw zc2 []) (M__law_draw:mg "_law_draw"=some (.ref a__law_draw)) (C__law_draw:FnOk P w K mg base CX0 1 a__law_draw fd__law_draw zc2 (LSp K 2 za9)) (m_range:mg "range"=none) (m_tuple:mg "tuple"=none)
    (vc:∀ ds m R,ds.length=zk1.length→zp2 ds m R→zy2 { nx:=fun _ m=>R (.dat .none) m,rt:=R } (zb4 zF6 ds) m):FnOk P w K mg base CX0 2 a__law_kinds fd__law_kinds zk1 (LSp K 2 zp2) :=
  zc0 (k:=1) F__law_kinds zP8 (body:=zy2) (fun cdv A outer s H E hr=>have nd:=(zP8).nd; (za2 (zM7 2 ["_law_k","_law_feed_here"] [none,some 0] rfl nd (zj0 rfl m_range (za1 1)) (fun cl C s2 H2 pins fp=>(zb9 0 zZ7)) (fun cl C s2 H2 pins fp=>zn5) (fun cl C s2 H2 pins fp=>(zb0 (zj7 (za0 zb3 (za0 zb3 za5))) (za7 C__law_draw (hr.mono (by decide)) M__law_draw F__law_draw.kp B__law_draw rfl (za0 (za1 1) (za0 za4 za5)))))) (za2 (zg2 (zc5 (zo3 hr.u100) (za7 C__law_draw (hr.mono (by decide)) M__law_draw F__law_draw.kp B__law_draw rfl (za0 (za1 0) (za0 za4 za5))) za4) (za2 (zM7 2 ["_law_k"] [none] rfl nd (zj0 rfl m_range (za1 1)) (fun cl C s2 H2 pins fp=>(zb9 0 zY1)) (fun cl C s2 H2 pins fp=>zn5) (fun cl C s2 H2 pins fp=>zb3)) za6) za6) (za2 (zb5 (ze2 zj3 rfl m_tuple zc8 (za0 (za1 2) za5))) za6)))) vc
theorem zab9 {a__law_things:Addr} {fd__law_things:FuncData} (F__law_things:Fun K "_law_things" "_law_things" zi3 a__law_things fd__law_things) {a__law_names:Addr} {fd__law_names:FuncData} (F__law_names:Fun K "_law_names" "_law_names" zk0 a__law_names fd__law_names) (B__law_names:Binds K fd__law_names zk7 []) (M__law_names:mg "_law_names"=some (.ref a__law_names)) (C__law_names:FnOk P w K mg base CX0 2 a__law_names fd__law_names zk7 (LSp K 2 zp3)) {a__law_draw:Addr} {fd__law_draw:FuncData} (F__law_draw:Fun K "_law_draw" "_law_draw" zd2 a__law_draw fd__law_draw) (B__law_draw:Binds K fd__law_draw zc2 []) (M__law_draw:mg "_law_draw"=some (.ref a__law_draw)) (C__law_draw:FnOk P w K mg base CX0 1 a__law_draw fd__law_draw zc2 (LSp K 2 za9)) {a__law_kinds:Addr} {fd__law_kinds:FuncData} (F__law_kinds:Fun K "_law_kinds" "_law_kinds" zk3 a__law_kinds fd__law_kinds) (B__law_kinds:Binds K fd__law_kinds zk1 []) (M__law_kinds:mg "_law_kinds"=some (.ref a__law_kinds)) (C__law_kinds:FnOk P w K mg base CX0 2 a__law_kinds fd__law_kinds zk1 (LSp K 2 zp2)) (m_len:mg "len"=none) (m_tuple:mg "tuple"=none) (m_range:mg "range"=none)
    (vc:∀ ds m R,ds.length=zi2.length→zm4 ds m R→zt5 { nx:=fun _ m=>R (.dat .none) m,rt:=R } (zb4 zC6 ds) m):FnOk P w K mg base CX0 3 a__law_things fd__law_things zi2 (LSp K 2 zm4) :=
  zc0 (k:=2) F__law_things zK6 (body:=zt5) (fun cdv A outer s H E hr=>have nd:=(zK6).nd; (za2 (zb2 2 nd (za7 C__law_names (hr.mono (by decide)) M__law_names F__law_names.kp B__law_names rfl (za0 (za1 0) (za0 (zb1 zf2 za4 (za7 C__law_draw (hr.mono (by decide)) M__law_draw F__law_draw.kp B__law_draw rfl (za0 (za1 0) (za0 (za1 1) za5)))) za5)))) (za2 (zb2 3 nd (za7 C__law_kinds (hr.mono (by decide)) M__law_kinds F__law_kinds.kp B__law_kinds rfl (za0 (za1 0) (za0 (zc3 zp5 rfl m_len ze4 (za0 (za1 2) za5)) za5)))) (za2 (zb5 (ze2 zj3 rfl m_tuple zc8 (za0 (zD5 ["_law_k","_law_names_here","_law_kinds_here"] [none,some 2,some 3] rfl (zj0 rfl m_range (zc3 zp5 rfl m_len ze4 (za0 (za1 2) za5))) (fun cl C s2 H2 pins fp=>(zb9 0 zU8)) (fun cl C s2 H2 pins fp=>zn5) (fun cl C s2 H2 pins fp=>(zd1 (za0 (zb0 (za1 1) (za1 0)) (za0 (zb0 (za1 2) (za1 0)) za5))))) za5))) za6)))) vc
theorem zas2 {a__law_may:Addr} {fd__law_may:FuncData} (F__law_may:Fun K "_law_may" "_law_may" zr2 a__law_may fd__law_may) {a__law_words:Addr} {fd__law_words:FuncData} (F__law_words:Fun K "_law_words" "_law_words" zi0 a__law_words fd__law_words) (B__law_words:Binds K fd__law_words zh2 []) (M__law_words:mg "_law_words"=some (.ref a__law_words)) (C__law_words:FnOk P w K mg base CX0 1 a__law_words fd__law_words zh2 (LSp K 1 zh0)) {a__law_draw:Addr} {fd__law_draw:FuncData} (F__law_draw:Fun K "_law_draw" "_law_draw" zd2 a__law_draw fd__law_draw) (B__law_draw:Binds K fd__law_draw zc2 []) (M__law_draw:mg "_law_draw"=some (.ref a__law_draw)) (C__law_draw:FnOk P w K mg base CX0 1 a__law_draw fd__law_draw zc2 (LSp K 2 za9)) (m_len:mg "len"=none) (m_tuple:mg "tuple"=none)
    (vc:∀ ds m R,ds.length=zr3.length→zv8 ds m R→zJ1 { nx:=fun _ m=>R (.dat .none) m,rt:=R } (zb4 zS4 ds) m):FnOk P w K mg base CX0 2 a__law_may fd__law_may zr3 (LSp K 2 zv8) :=
  zc0 (k:=1) F__law_may zY3 (body:=zJ1) (fun cdv A outer s H E hr=>have nd:=(zY3).nd; (za2 (zb2 2 nd (za7 C__law_words (hr.mono (by decide)) M__law_words F__law_words.kp B__law_words rfl (za0 (za1 1) za5))) (za2 (zb2 3 nd (zb1 zf2 za4 (za7 C__law_draw (hr.mono (by decide)) M__law_draw F__law_draw.kp B__law_draw rfl (za0 (za1 0) (za0 za4 za5))))) (za2 (zM7 4 ["_law_word_here","_law_feed_here","_law_piece"] [none,some 0,some 3] rfl nd (zq6 (za1 2)) (fun cl C s2 H2 pins fp=>(zb9 0 zai4)) (fun cl C s2 H2 pins fp=>(zZ1 (zc5 (zo3 hr.u100) (za7 C__law_draw (hr.mono (by decide)) M__law_draw F__law_draw.kp B__law_draw rfl (za0 (za1 1) (za0 (za1 2) za5))) za4))) (fun cl C s2 H2 pins fp=>(za1 0))) (za2 (zb2 5 nd (za7 C__law_draw (hr.mono (by decide)) M__law_draw F__law_draw.kp B__law_draw rfl (za0 (za1 0) (za0 za4 za5)))) (za2 (zg2 (zc5 (zo3 hr.u100) (za1 5) za4) (za2 (zb2 4 nd (zj7 (za0 (zb0 (za1 2) (za7 C__law_draw (hr.mono (by decide)) M__law_draw F__law_draw.kp B__law_draw rfl (za0 (za1 0) (za0 (zc3 zp5 rfl m_len ze4 (za0 (za1 2) za5)) za5)))) za5))) za6) za6) (za2 (zg2 (zc5 (zo3 hr.u100) (za1 5) za4) (za2 (zb2 4 nd (zj7 za5)) za6) za6) (za2 (zb5 (ze2 zj3 rfl m_tuple zc8 (za0 (za1 4) za5))) za6)))))))) vc
theorem zae9 {a__law_times:Addr} {fd__law_times:FuncData} (F__law_times:Fun K "_law_times" "_law_times" zj5 a__law_times fd__law_times) {a__law_fraction:Addr} {fd__law_fraction:FuncData} (F__law_fraction:Fun K "_law_fraction" "_law_fraction" zd4 a__law_fraction fd__law_fraction) (B__law_fraction:Binds K fd__law_fraction zc7 []) (M__law_fraction:mg "_law_fraction"=some (.ref a__law_fraction)) (C__law_fraction:FnOk P w K mg base CX0 1 a__law_fraction fd__law_fraction zc7 (LSp K 2 zb8)) {a__law_draw:Addr} {fd__law_draw:FuncData} (F__law_draw:Fun K "_law_draw" "_law_draw" zd2 a__law_draw fd__law_draw) (B__law_draw:Binds K fd__law_draw zc2 []) (M__law_draw:mg "_law_draw"=some (.ref a__law_draw)) (C__law_draw:FnOk P w K mg base CX0 1 a__law_draw fd__law_draw zc2 (LSp K 2 za9))
    (vc:∀ ds m R,ds.length=zk4.length→zl5 ds m R→zs7 { nx:=fun _ m=>R (.dat .none) m,rt:=R } (zb4 zG3 ds) m):FnOk P w K mg base CX0 2 a__law_times fd__law_times zk4 (LSp K 5 zl5) :=
  zc0 (k:=1) F__law_times zP4 (body:=zs7) (fun cdv A outer s H E hr=>have nd:=(zP4).nd; (za2 (zg2 (zc5 (zo3 hr.u100) (za1 1) zb3) (za2 (zb5 (za7 C__law_fraction (hr.mono (by decide)) M__law_fraction F__law_fraction.kp B__law_fraction rfl (za0 (zb1 zf2 (za1 2) (za7 C__law_draw (hr.mono (by decide)) M__law_draw F__law_draw.kp B__law_draw rfl (za0 (za1 0) (za0 (za1 3) za5)))) (za0 (za1 4) za5)))) za6) za6) (za2 (zb2 5 nd (za7 C__law_draw (hr.mono (by decide)) M__law_draw F__law_draw.kp B__law_draw rfl (za0 (za1 0) (za0 (zb1 zF5 (za1 3) za4) za5)))) (za2 (zb2 6 nd (zb1 zf2 (zb1 zf2 (za1 5) za4) (za7 C__law_draw (hr.mono (by decide)) M__law_draw F__law_draw.kp B__law_draw rfl (za0 (za1 0) (za0 (zb1 zF5 (zb1 zF5 (za1 3) za4) (za1 5)) za5))))) (za2 (zb5 (zd1 (za0 (za7 C__law_fraction (hr.mono (by decide)) M__law_fraction F__law_fraction.kp B__law_fraction rfl (za0 (zb1 zf2 (za1 2) (za1 5)) (za0 (za1 4) za5))) (za0 (za7 C__law_fraction (hr.mono (by decide)) M__law_fraction F__law_fraction.kp B__law_fraction rfl (za0 (zb1 zf2 (za1 2) (za1 6)) (za0 (za1 4) za5))) za5)))) za6))))) vc
theorem zW1 {a__law_telling:Addr} {fd__law_telling:FuncData} (F__law_telling:Fun K "_law_telling" "_law_telling" zh6 a__law_telling fd__law_telling) {a__law_draw:Addr} {fd__law_draw:FuncData} (F__law_draw:Fun K "_law_draw" "_law_draw" zd2 a__law_draw fd__law_draw) (B__law_draw:Binds K fd__law_draw zc2 []) (M__law_draw:mg "_law_draw"=some (.ref a__law_draw)) (C__law_draw:FnOk P w K mg base CX0 1 a__law_draw fd__law_draw zc2 (LSp K 2 za9)) {a__law_times:Addr} {fd__law_times:FuncData} (F__law_times:Fun K "_law_times" "_law_times" zj5 a__law_times fd__law_times) (B__law_times:Binds K fd__law_times zk4 []) (M__law_times:mg "_law_times"=some (.ref a__law_times)) (C__law_times:FnOk P w K mg base CX0 2 a__law_times fd__law_times zk4 (LSp K 5 zl5)) (m_tuple:mg "tuple"=none)
    (vc:∀ ds m R,ds.length=zh7.length→zj6 ds m R→zs4 { nx:=fun _ m=>R (.dat .none) m,rt:=R } (zb4 zA3 ds) m):FnOk P w K mg base CX0 3 a__law_telling fd__law_telling zh7 (LSp K 2 zj6) :=
  zc0 (k:=2) F__law_telling zG8 (body:=zs4) (fun cdv A outer s H E hr=>have nd:=(zG8).nd; (za2 (zb2 2 nd (zb1 zf2 za4 (za7 C__law_draw (hr.mono (by decide)) M__law_draw F__law_draw.kp B__law_draw rfl (za0 (za1 0) (za0 za4 za5))))) (za2 (zb2 3 nd (zb0 (zj7 (za0 za4 (za0 za4 (za0 za4 (za0 za4 (za0 za4 (za0 za4 za5))))))) (za7 C__law_draw (hr.mono (by decide)) M__law_draw F__law_draw.kp B__law_draw rfl (za0 (za1 0) (za0 za4 za5))))) (za2 (zb2 4 nd (zb1 zF5 (zb0 (zj7 (za0 za4 (za0 za4 (za0 (zX2 za4) (za0 za4 (za0 za4 za5)))))) (za7 C__law_draw (hr.mono (by decide)) M__law_draw F__law_draw.kp B__law_draw rfl (za0 (za1 0) (za0 za4 za5)))) (za7 C__law_draw (hr.mono (by decide)) M__law_draw F__law_draw.kp B__law_draw rfl (za0 (za1 0) (za0 za4 za5))))) (za2 (zb5 (ze2 zj3 rfl m_tuple zc8 (za0 (zD5 ["_law_name","_law_kind","_law_feed_here","_law_many","_law_bottom","_law_base"] [none,none,some 0,some 2,some 3,some 4] rfl (zq6 (za1 1)) (fun cl C s2 H2 pins fp=>(zv3 rfl (zc9 (zb9 0 zA6) (zc9 (zb9 1 zA6) zo5)))) (fun cl C s2 H2 pins fp=>zn5) (fun cl C s2 H2 pins fp=>(za7 C__law_times (hr.mono (by decide)) M__law_times F__law_times.kp B__law_times rfl (za0 (za1 2) (za0 (za1 1) (za0 (za1 5) (za0 (za1 3) (za0 (za1 4) za5)))))))) za5))) za6))))) vc
theorem zU3 {a__law_all_ends:Addr} {fd__law_all_ends:FuncData} (F__law_all_ends:Fun K "_law_all_ends" "_law_all_ends" zf7 a__law_all_ends fd__law_all_ends) 
    (vc:∀ ds m R,ds.length=zd8.length→zg1 ds m R→zp1 { nx:=fun _ m=>R (.dat .none) m,rt:=R } (zb4 zx3 ds) m):FnOk P w K mg base CX0 1 a__law_all_ends fd__law_all_ends zd8 (LSp K 1 zg1) :=
  zc0 (k:=0) F__law_all_ends zE8 (body:=zp1) (fun cdv A outer s H E hr=>have nd:=(zE8).nd; (za2 (zb2 1 nd (zE3 za5)) (za2 (zE1 PassesOwn.never rfl (zq6 (za1 0)) (zv3 rfl (zc9 (zb9 2 nd) (zc9 (zb9 3 nd) zo5))) (za2 (zz3 (zG2 (za1 1) (zd1 (za0 (za1 2) (za0 za4 za5))))) (za2 (zg2 (zc5 (zo3 hr.u100) (za1 3) zb3) (za2 (zz3 (zG2 (za1 1) (zd1 (za0 (za1 2) (za0 za4 za5))))) za6) za6) za6))) (za2 (zb5 (za1 1)) za6)))) vc
theorem zan2 {a__law_time:Addr} {fd__law_time:FuncData} (F__law_time:Fun K "_law_time" "_law_time" zn7 a__law_time fd__law_time) (m_range:mg "range"=none) (m_len:mg "len"=none)
    (vc:∀ ds m R,ds.length=zn1.length→zk9 ds m R→zE4 { nx:=fun _ m=>R (.dat .none) m,rt:=R } (zb4 zM8 ds) m):FnOk P w K mg base CX0 1 a__law_time fd__law_time zn1 (LSp K 3 zk9) :=
  zc0 (k:=0) F__law_time zT4 (body:=zE4) (fun cdv A outer s H E hr=>have nd:=(zT4).nd; (za2 (zE1 PassesOwn.never rfl (zj0 rfl m_range (zc3 zp5 rfl m_len ze4 (za0 (za1 0) za5))) (zb9 3 nd) (za2 (zg2 (zc5 (zo3 hr.u100) (zb0 (zb0 (za1 0) (za1 3)) za4) (zb0 (za1 2) za4)) (za2 (zb5 (zw4 (zc5 (zo3 hr.u100) (zb0 (zb0 (za1 0) (za1 3)) za4) zb3) (zb0 (za1 1) (za1 3)) (zb0 (zb0 (za1 1) (za1 3)) (zb0 (za1 2) za4)))) za6) za6) za6)) (za2 (zb5 zaV6) za6))) vc
theorem zO4 {a__law_may_saying:Addr} {fd__law_may_saying:FuncData} (F__law_may_saying:Fun K "_law_may_saying" "_law_may_saying" ze9 a__law_may_saying fd__law_may_saying) {a__law_draw:Addr} {fd__law_draw:FuncData} (F__law_draw:Fun K "_law_draw" "_law_draw" zd2 a__law_draw fd__law_draw) (B__law_draw:Binds K fd__law_draw zc2 []) (M__law_draw:mg "_law_draw"=some (.ref a__law_draw)) (C__law_draw:FnOk P w K mg base CX0 1 a__law_draw fd__law_draw zc2 (LSp K 2 za9)) {a__law_word:Addr} {fd__law_word:FuncData} (F__law_word:Fun K "_law_word" "_law_word" zk2 a__law_word fd__law_word) (B__law_word:Binds K fd__law_word zi4 []) (M__law_word:mg "_law_word"=some (.ref a__law_word)) (C__law_word:FnOk P w K mg base CX0 2 a__law_word fd__law_word zi4 (LSp K 2 zj8)) {a__law_may:Addr} {fd__law_may:FuncData} (F__law_may:Fun K "_law_may" "_law_may" zr2 a__law_may fd__law_may) (B__law_may:Binds K fd__law_may zr3 []) (M__law_may:mg "_law_may"=some (.ref a__law_may)) (C__law_may:FnOk P w K mg base CX0 2 a__law_may fd__law_may zr3 (LSp K 2 zv8)) {a__law_words:Addr} {fd__law_words:FuncData} (F__law_words:Fun K "_law_words" "_law_words" zi0 a__law_words fd__law_words) (B__law_words:Binds K fd__law_words zh2 []) (M__law_words:mg "_law_words"=some (.ref a__law_words)) (C__law_words:FnOk P w K mg base CX0 1 a__law_words fd__law_words zh2 (LSp K 1 zh0)) (m_len:mg "len"=none) (m_tuple:mg "tuple"=none)
    (vc:∀ ds m R,ds.length=ze6.length→zh3 ds m R→zl8 { nx:=fun _ m=>R (.dat .none) m,rt:=R } (zb4 zp8 ds) m):FnOk P w K mg base CX0 3 a__law_may_saying fd__law_may_saying ze6 (LSp K 3 zh3) :=
  zc0 (k:=2) F__law_may_saying zz1 (body:=zl8) (fun cdv A outer s H E hr=>have nd:=(zz1).nd; (za2 (zb2 3 nd (za7 C__law_draw (hr.mono (by decide)) M__law_draw F__law_draw.kp B__law_draw rfl (za0 (za1 0) (za0 (zc3 zp5 rfl m_len ze4 (za0 (za1 1) za5)) za5)))) (za2 (zb2 4 nd (zb1 zB7 (zb1 zf2 (zb1 zf2 (za1 3) za4) (za7 C__law_draw (hr.mono (by decide)) M__law_draw F__law_draw.kp B__law_draw rfl (za0 (za1 0) (za0 (zb1 zF5 (zc3 zp5 rfl m_len ze4 (za0 (za1 1) za5)) za4) za5)))) (zc3 zp5 rfl m_len ze4 (za0 (za1 1) za5)))) (za2 (zb2 5 nd (zd1 (za0 (zb0 (zb0 (za1 1) (za1 3)) za4) (za0 (zb0 (zb0 (za1 1) (za1 4)) za4) za5)))) (za2 (zb2 6 nd (za7 C__law_word (hr.mono (by decide)) M__law_word F__law_word.kp B__law_word rfl (za0 (zb0 (za1 2) (za1 3)) (za0 (zb0 (za1 2) (za1 4)) za5)))) (za2 (zb2 7 nd (za7 C__law_may (hr.mono (by decide)) M__law_may F__law_may.kp B__law_may rfl (za0 (za1 0) (za0 (za1 5) za5)))) (za2 (zg2 (QW.pt (zau8 (zc5 (zo3 hr.u100) (za1 7) (zd1 za5)) (zaq8 (zc5 zah7 (za7 C__law_draw (hr.mono (by decide)) M__law_draw F__law_draw.kp B__law_draw rfl (za0 (za1 0) (za0 za4 za5))) za4)))) (za2 (zb2 7 nd (ze2 zj3 rfl m_tuple zc8 (za0 (zD5 ["_law_word_here","_law_there","_law_words_here"] [none,some 6,some 7] rfl (zq6 (za7 C__law_words (hr.mono (by decide)) M__law_words F__law_words.kp B__law_words rfl (za0 (za1 5) za5))) (fun cl C s2 H2 pins fp=>(zb9 0 zJ6)) (fun cl C s2 H2 pins fp=>(zZ1 (QW.pt (zau8 (zc5 zbh2 (za1 0) (za1 2) (hm:=by with_unfolding_all rfl)) (zaq8 (zc5 (zo3 hr.u100) (za1 0) (za1 1))))))) (fun cl C s2 H2 pins fp=>(za1 0))) za5))) za6) za6) (za2 (zb5 (zd1 (za0 zb3 (za0 (zb0 (zb0 (za1 1) (za1 3)) za4) (za0 (zb0 (zb0 (za1 1) (za1 4)) za4) (za0 (za1 7) za5)))))) za6)))))))) vc
theorem zN7 {a__law_gap_saying:Addr} {fd__law_gap_saying:FuncData} (F__law_gap_saying:Fun K "_law_gap_saying" "_law_gap_saying" zf1 a__law_gap_saying fd__law_gap_saying) {a__law_all_ends:Addr} {fd__law_all_ends:FuncData} (F__law_all_ends:Fun K "_law_all_ends" "_law_all_ends" zf7 a__law_all_ends fd__law_all_ends) (B__law_all_ends:Binds K fd__law_all_ends zd8 []) (M__law_all_ends:mg "_law_all_ends"=some (.ref a__law_all_ends)) (C__law_all_ends:FnOk P w K mg base CX0 1 a__law_all_ends fd__law_all_ends zd8 (LSp K 1 zg1)) {a__law_draw:Addr} {fd__law_draw:FuncData} (F__law_draw:Fun K "_law_draw" "_law_draw" zd2 a__law_draw fd__law_draw) (B__law_draw:Binds K fd__law_draw zc2 []) (M__law_draw:mg "_law_draw"=some (.ref a__law_draw)) (C__law_draw:FnOk P w K mg base CX0 1 a__law_draw fd__law_draw zc2 (LSp K 2 za9)) {a__law_time:Addr} {fd__law_time:FuncData} (F__law_time:Fun K "_law_time" "_law_time" zn7 a__law_time fd__law_time) (B__law_time:Binds K fd__law_time zn1 []) (M__law_time:mg "_law_time"=some (.ref a__law_time)) (C__law_time:FnOk P w K mg base CX0 1 a__law_time fd__law_time zn1 (LSp K 3 zk9)) {a__law_fraction:Addr} {fd__law_fraction:FuncData} (F__law_fraction:Fun K "_law_fraction" "_law_fraction" zd4 a__law_fraction fd__law_fraction) (B__law_fraction:Binds K fd__law_fraction zc7 []) (M__law_fraction:mg "_law_fraction"=some (.ref a__law_fraction)) (C__law_fraction:FnOk P w K mg base CX0 1 a__law_fraction fd__law_fraction zc7 (LSp K 2 zb8)) (m_len:mg "len"=none) (m_abs:mg "abs"=none)
    (vc:∀ ds m R,ds.length=zf0.length→zg0 ds m R→zl7 { nx:=fun _ m=>R (.dat .none) m,rt:=R } (zb4 zq8 ds) m):FnOk P w K mg base CX0 2 a__law_gap_saying fd__law_gap_saying zf0 (LSp K 3 zg0) :=
  zc0 (k:=1) F__law_gap_saying zz4 (body:=zl7) (fun cdv A outer s H E hr=>have nd:=(zz4).nd; (za2 (zb2 3 nd (za7 C__law_all_ends (hr.mono (by decide)) M__law_all_ends F__law_all_ends.kp B__law_all_ends rfl (za0 (za1 1) za5))) (za2 (zb2 4 nd (za7 C__law_draw (hr.mono (by decide)) M__law_draw F__law_draw.kp B__law_draw rfl (za0 (za1 0) (za0 (zc3 zp5 rfl m_len ze4 (za0 (za1 3) za5)) za5)))) (za2 (zb2 5 nd (zb0 (za1 3) (za1 4))) (za2 (zb2 6 nd (zb0 (za1 3) (zb1 zB7 (zb1 zf2 (zb1 zf2 (za1 4) za4) (za7 C__law_draw (hr.mono (by decide)) M__law_draw F__law_draw.kp B__law_draw rfl (za0 (za1 0) (za0 (zb1 zF5 (zc3 zp5 rfl m_len ze4 (za0 (za1 3) za5)) za4) za5)))) (zc3 zp5 rfl m_len ze4 (za0 (za1 3) za5))))) (za2 (zb2 7 nd (za7 C__law_time (hr.mono (by decide)) M__law_time F__law_time.kp B__law_time rfl (za0 (za1 1) (za0 (za1 2) (za0 (za1 5) za5))))) (za2 (zb2 8 nd (za7 C__law_time (hr.mono (by decide)) M__law_time F__law_time.kp B__law_time rfl (za0 (za1 1) (za0 (za1 2) (za0 (za1 6) za5))))) (za2 (zb2 9 nd (zb1 zF5 (zb1 zh5 (zb0 (za1 7) za4) (zb0 (za1 8) za4)) (zb1 zh5 (zb0 (za1 8) za4) (zb0 (za1 7) za4)))) (za2 (zb2 10 nd (zb1 zh5 (zb0 (za1 7) za4) (zb0 (za1 8) za4))) (za2 (zb2 11 nd (za7 C__law_draw (hr.mono (by decide)) M__law_draw F__law_draw.kp B__law_draw rfl (za0 (za1 0) (za0 za4 za5)))) (za2 (zg2 (zc5 zax2 (za1 11) za4) (za2 (zb2 9 nd (zb1 zf2 (za1 9) (zb0 (zj7 (za0 za4 (za0 za4 (za0 (zX2 za4) za5)))) (za7 C__law_draw (hr.mono (by decide)) M__law_draw F__law_draw.kp B__law_draw rfl (za0 (za1 0) (za0 za4 za5)))))) za6) za6) (za2 (zb2 12 nd (za7 C__law_fraction (hr.mono (by decide)) M__law_fraction F__law_fraction.kp B__law_fraction rfl (za0 (za1 9) (za0 (za1 10) za5)))) (za2 (zg2 (QW.pt (zau8 (zc5 (zo3 hr.u100) (za1 11) za4) (zau8 (zc5 zah7 (zc3 zaF1 rfl m_abs zW3 (za0 (zb0 (za1 12) za4) za5)) za4) (zaq8 (zc5 zah7 (zb0 (za1 12) za4) za4))))) (za2 (zb2 9 nd (zb0 (zj7 (za0 za4 (za0 za4 (za0 (zX2 za4) (za0 za4 (za0 za4 za5)))))) (za7 C__law_draw (hr.mono (by decide)) M__law_draw F__law_draw.kp B__law_draw rfl (za0 (za1 0) (za0 za4 za5))))) (za2 (zb2 12 nd (za7 C__law_fraction (hr.mono (by decide)) M__law_fraction F__law_fraction.kp B__law_fraction rfl (za0 (za1 9) (za0 (zb0 (zj7 (za0 za4 (za0 za4 (za0 za4 (za0 za4 za5))))) (za7 C__law_draw (hr.mono (by decide)) M__law_draw F__law_draw.kp B__law_draw rfl (za0 (za1 0) (za0 za4 za5)))) za5)))) za6)) za6) (za2 (zb5 (zd1 (za0 zb3 (za0 (za1 5) (za0 (za1 6) (za0 (za1 12) (za0 (zM0 (zo3 hr.u100) (za7 C__law_draw (hr.mono (by decide)) M__law_draw F__law_draw.kp B__law_draw rfl (za0 (za1 0) (za0 za4 za5))) za4) za5))))))) za6)))))))))))))) vc
theorem zak8 {a__law_talk:Addr} {fd__law_talk:FuncData} (F__law_talk:Fun K "_law_talk" "_law_talk" zn2 a__law_talk fd__law_talk) {a__law_all_ends:Addr} {fd__law_all_ends:FuncData} (F__law_all_ends:Fun K "_law_all_ends" "_law_all_ends" zf7 a__law_all_ends fd__law_all_ends) (B__law_all_ends:Binds K fd__law_all_ends zd8 []) (M__law_all_ends:mg "_law_all_ends"=some (.ref a__law_all_ends)) (C__law_all_ends:FnOk P w K mg base CX0 1 a__law_all_ends fd__law_all_ends zd8 (LSp K 1 zg1)) {a__law_draw:Addr} {fd__law_draw:FuncData} (F__law_draw:Fun K "_law_draw" "_law_draw" zd2 a__law_draw fd__law_draw) (B__law_draw:Binds K fd__law_draw zc2 []) (M__law_draw:mg "_law_draw"=some (.ref a__law_draw)) (C__law_draw:FnOk P w K mg base CX0 1 a__law_draw fd__law_draw zc2 (LSp K 2 za9)) {a__law_may_saying:Addr} {fd__law_may_saying:FuncData} (F__law_may_saying:Fun K "_law_may_saying" "_law_may_saying" ze9 a__law_may_saying fd__law_may_saying) (B__law_may_saying:Binds K fd__law_may_saying ze6 []) (M__law_may_saying:mg "_law_may_saying"=some (.ref a__law_may_saying)) (C__law_may_saying:FnOk P w K mg base CX0 3 a__law_may_saying fd__law_may_saying ze6 (LSp K 3 zh3)) {a__law_gap_saying:Addr} {fd__law_gap_saying:FuncData} (F__law_gap_saying:Fun K "_law_gap_saying" "_law_gap_saying" zf1 a__law_gap_saying fd__law_gap_saying) (B__law_gap_saying:Binds K fd__law_gap_saying zf0 []) (M__law_gap_saying:mg "_law_gap_saying"=some (.ref a__law_gap_saying)) (C__law_gap_saying:FnOk P w K mg base CX0 2 a__law_gap_saying fd__law_gap_saying zf0 (LSp K 3 zg0)) (m_len:mg "len"=none) (m_range:mg "range"=none) (m_tuple:mg "tuple"=none)
    (vc:∀ ds m R,ds.length=zn3.length→zs8 ds m R→zC4 { nx:=fun _ m=>R (.dat .none) m,rt:=R } (zb4 zM2 ds) m):FnOk P w K mg base CX0 4 a__law_talk fd__law_talk zn3 (LSp K 4 zs8) :=
  zc0 (k:=3) F__law_talk zT2 (body:=zC4) (fun cdv A outer s H E hr=>have nd:=(zT2).nd; (za2 (zb2 4 nd (za7 C__law_all_ends (hr.mono (by decide)) M__law_all_ends F__law_all_ends.kp B__law_all_ends rfl (za0 (za1 1) za5))) (za2 (zb2 5 nd (zE3 za5)) (za2 (zE1 PassesOwn.never rfl (zj0 rfl m_range (za7 C__law_draw (hr.mono (by decide)) M__law_draw F__law_draw.kp B__law_draw rfl (za0 (za1 0) (za0 (zb1 zf2 (za1 3) za4) za5)))) (zb9 6 nd) (za2 (zg2 (QW.pt (zap2 (zc5 zah7 (zc3 zp5 rfl m_len ze4 (za0 (za1 1) za5)) za4) (zag4 (zc5 zax2 (za7 C__law_draw (hr.mono (by decide)) M__law_draw F__law_draw.kp B__law_draw rfl (za0 (za1 0) (za0 za4 za5))) za4)))) (za2 (zz3 (zG2 (za1 5) (za7 C__law_may_saying (hr.mono (by decide)) M__law_may_saying F__law_may_saying.kp B__law_may_saying rfl (za0 (za1 0) (za0 (za1 1) (za0 (za1 2) za5)))))) za6) (za2 (zg2 (zc5 zah7 (zc3 zp5 rfl m_len ze4 (za0 (za1 4) za5)) za4) (za2 (zz3 (zG2 (za1 5) (za7 C__law_gap_saying (hr.mono (by decide)) M__law_gap_saying F__law_gap_saying.kp B__law_gap_saying rfl (za0 (za1 0) (za0 (za1 1) (za0 (za1 2) za5)))))) za6) za6) za6)) za6)) (za2 (zb5 (zd1 (za0 (za1 1) (za0 (ze2 zj3 rfl m_tuple zc8 (za0 (za1 5) za5)) za5)))) za6))))) vc
theorem zar3 {a__law_row:Addr} {fd__law_row:FuncData} (F__law_row:Fun K "_law_row" "_law_row" zr8 a__law_row fd__law_row) {a__law_word:Addr} {fd__law_word:FuncData} (F__law_word:Fun K "_law_word" "_law_word" zk2 a__law_word fd__law_word) (B__law_word:Binds K fd__law_word zi4 []) (M__law_word:mg "_law_word"=some (.ref a__law_word)) (C__law_word:FnOk P w K mg base CX0 2 a__law_word fd__law_word zi4 (LSp K 2 zj8))
    (vc:∀ ds m R,ds.length=zr1.length→zw6 ds m R→zI8 { nx:=fun _ m=>R (.dat .none) m,rt:=R } (zb4 zR2 ds) m):FnOk P w K mg base CX0 3 a__law_row fd__law_row zr1 (LSp K 4 zw6) :=
  zc0 (k:=2) F__law_row zab3 (body:=zI8) (fun cdv A outer s H E hr=>have nd:=(zab3).nd; (za2 (zb5 (zd1 (za0 (zb0 (zb0 (za1 0) (za1 2)) za4) (za0 (zb0 (zb0 (za1 0) (za1 3)) za4) (za0 (zd1 (za0 (za7 C__law_word (hr.mono (by decide)) M__law_word F__law_word.kp B__law_word rfl (za0 (zb0 (za1 1) (za1 2)) (za0 (zb0 (za1 1) (za1 3)) za5))) za5)) za5))))) za6)) vc
theorem zae8 {a__law_table:Addr} {fd__law_table:FuncData} (F__law_table:Fun K "_law_table" "_law_table" zi1 a__law_table fd__law_table) {a__law_row:Addr} {fd__law_row:FuncData} (F__law_row:Fun K "_law_row" "_law_row" zr8 a__law_row fd__law_row) (B__law_row:Binds K fd__law_row zr1 []) (M__law_row:mg "_law_row"=some (.ref a__law_row)) (C__law_row:FnOk P w K mg base CX0 3 a__law_row fd__law_row zr1 (LSp K 4 zw6)) (m_range:mg "range"=none) (m_len:mg "len"=none) (m_tuple:mg "tuple"=none)
    (vc:∀ ds m R,ds.length=zh1.length→zi9 ds m R→zy5 { nx:=fun _ m=>R (.dat .none) m,rt:=R } (zb4 zG9 ds) m):FnOk P w K mg base CX0 4 a__law_table fd__law_table zh1 (LSp K 2 zi9) :=
  zc0 (k:=3) F__law_table zO9 (body:=zy5) (fun cdv A outer s H E hr=>have nd:=(zO9).nd; (za2 (zb2 2 nd (zE3 za5)) (za2 (zE1 PassesOwn.never rfl (zj0 rfl m_range (zc3 zp5 rfl m_len ze4 (za0 (za1 0) za5))) (zb9 3 nd) (za2 (zE1 PassesOwn.never rfl (zaz2 rfl m_range (zb1 zf2 (za1 3) za4) (zc3 zp5 rfl m_len ze4 (za0 (za1 0) za5))) (zb9 4 nd) (za2 (zz3 (zG2 (za1 2) (za7 C__law_row (hr.mono (by decide)) M__law_row F__law_row.kp B__law_row rfl (za0 (za1 0) (za0 (za1 1) (za0 (za1 3) (za0 (za1 4) za5))))))) za6)) za6)) (za2 (zb5 (ze2 zj3 rfl m_tuple zc8 (za0 (za1 2) za5))) za6)))) vc
theorem zQ5 {a__law_moved_time:Addr} {fd__law_moved_time:FuncData} (F__law_moved_time:Fun K "_law_moved_time" "_law_moved_time" ze8 a__law_moved_time fd__law_moved_time) {a__law_fraction:Addr} {fd__law_fraction:FuncData} (F__law_fraction:Fun K "_law_fraction" "_law_fraction" zd4 a__law_fraction fd__law_fraction) (B__law_fraction:Binds K fd__law_fraction zc7 []) (M__law_fraction:mg "_law_fraction"=some (.ref a__law_fraction)) (C__law_fraction:FnOk P w K mg base CX0 1 a__law_fraction fd__law_fraction zc7 (LSp K 2 zb8))
    (vc:∀ ds m R,ds.length=ze7.length→zd7 ds m R→zl9 { nx:=fun _ m=>R (.dat .none) m,rt:=R } (zb4 zq9 ds) m):FnOk P w K mg base CX0 2 a__law_moved_time fd__law_moved_time ze7 (LSp K 3 zd7) :=
  zc0 (k:=1) F__law_moved_time zy3 (body:=zl9) (fun cdv A outer s H E hr=>have nd:=(zy3).nd; (za2 (zb2 3 nd (zb1 zf2 (zb1 zh5 (zb1 zh5 (zb0 (za1 0) za4) (zb0 (za1 1) za4)) (zb0 (za1 2) za4)) (zb1 zh5 (zb1 zh5 (zb0 (za1 2) za4) (zb0 (za1 0) za4)) (zb0 (za1 1) za4)))) (za2 (zb5 (za7 C__law_fraction (hr.mono (by decide)) M__law_fraction F__law_fraction.kp B__law_fraction rfl (za0 (za1 3) (za0 (zb1 zh5 (zb1 zh5 (zb0 (za1 0) za4) (zb0 (za1 1) za4)) (zb0 (za1 2) za4)) za5)))) za6))) vc
theorem zS5 {a__law_all_moved:Addr} {fd__law_all_moved:FuncData} (F__law_all_moved:Fun K "_law_all_moved" "_law_all_moved" ze3 a__law_all_moved fd__law_all_moved) {a__law_moved_time:Addr} {fd__law_moved_time:FuncData} (F__law_moved_time:Fun K "_law_moved_time" "_law_moved_time" ze8 a__law_moved_time fd__law_moved_time) (B__law_moved_time:Binds K fd__law_moved_time ze7 []) (M__law_moved_time:mg "_law_moved_time"=some (.ref a__law_moved_time)) (C__law_moved_time:FnOk P w K mg base CX0 2 a__law_moved_time fd__law_moved_time ze7 (LSp K 3 zd7)) (m_tuple:mg "tuple"=none) (m_range:mg "range"=none) (m_len:mg "len"=none)
    (vc:∀ ds m R,ds.length=zd5.length→ze5 ds m R→zm6 { nx:=fun _ m=>R (.dat .none) m,rt:=R } (zb4 zs9 ds) m):FnOk P w K mg base CX0 3 a__law_all_moved fd__law_all_moved zd5 (LSp K 4 ze5) :=
  zc0 (k:=2) F__law_all_moved zC1 (body:=zm6) (fun cdv A outer s H E hr=>have nd:=(zC1).nd; (za2 (zb2 4 nd (zE3 za5)) (za2 (zE1 PassesOwn.never rfl (zj0 rfl m_range (zc3 zp5 rfl m_len ze4 (za0 (za1 0) za5))) (zb9 5 nd) (za2 (zg2 (zc5 (zo3 hr.u100) (zb0 (zb0 (za1 0) (za1 5)) za4) zb3) (za2 (zz3 (zG2 (za1 4) (za7 C__law_moved_time (hr.mono (by decide)) M__law_moved_time F__law_moved_time.kp B__law_moved_time rfl (za0 (zb0 (za1 1) (za1 5)) (za0 (za1 2) (za0 (za1 3) za5)))))) za6) (za2 (zz3 (zG2 (za1 4) (ze2 zj3 rfl m_tuple zc8 (za0 (zD5 ["_law_time_here","_law_often","_law_more"] [none,some 2,some 3] rfl (zq6 (zb0 (za1 1) (za1 5))) (fun cl C s2 H2 pins fp=>(zb9 0 zL7)) (fun cl C s2 H2 pins fp=>zn5) (fun cl C s2 H2 pins fp=>(za7 C__law_moved_time (hr.mono (by decide)) M__law_moved_time F__law_moved_time.kp B__law_moved_time rfl (za0 (za1 0) (za0 (za1 1) (za0 (za1 2) za5)))))) za5)))) za6)) za6)) (za2 (zb5 (ze2 zj3 rfl m_tuple zc8 (za0 (za1 4) za5))) za6)))) vc
theorem zM6 {a__law_often_right:Addr} {fd__law_often_right:FuncData} (F__law_often_right:Fun K "_law_often_right" "_law_often_right" ze1 a__law_often_right fd__law_often_right) {a__law_all_moved:Addr} {fd__law_all_moved:FuncData} (F__law_all_moved:Fun K "_law_all_moved" "_law_all_moved" ze3 a__law_all_moved fd__law_all_moved) (B__law_all_moved:Binds K fd__law_all_moved zd5 []) (M__law_all_moved:mg "_law_all_moved"=some (.ref a__law_all_moved)) (C__law_all_moved:FnOk P w K mg base CX0 3 a__law_all_moved fd__law_all_moved zd5 (LSp K 4 ze5)) {a_moved:Addr} {fd_moved:FuncData} (F_moved:Fun K "moved" "moved" zF9 a_moved fd_moved) (B_moved:Binds K fd_moved zE6 []) (M_moved:mg "moved"=some (.ref a_moved)) (C_moved:FnOk P w K mg base CX0 4 a_moved fd_moved zE6 (LSp K 4 zy6)) {a_table_of:Addr} {fd_table_of:FuncData} (F_table_of:Fun K "table_of" "table_of" zn8 a_table_of fd_table_of) (B_table_of:Binds K fd_table_of zl6 []) (M_table_of:mg "table_of"=some (.ref a_table_of)) (C_table_of:FnOk P w K mg base CX0 5 a_table_of fd_table_of zl6 (LSp K 2 zn0)) {a__law_table:Addr} {fd__law_table:FuncData} (F__law_table:Fun K "_law_table" "_law_table" zi1 a__law_table fd__law_table) (B__law_table:Binds K fd__law_table zh1 []) (M__law_table:mg "_law_table"=some (.ref a__law_table)) (C__law_table:FnOk P w K mg base CX0 4 a__law_table fd__law_table zh1 (LSp K 2 zi9)) (m_range:mg "range"=none) (m_repr:mg "repr"=none)
    (vc:∀ ds m R,ds.length=zd9.length→zg7 ds m R→zj2 { nx:=fun _ m=>R (.dat .none) m,rt:=R } (zb4 zo9 ds) m):FnOk P w K mg base CX0 6 a__law_often_right fd__law_often_right zd9 (LSp K 4 zg7) :=
  zc0 (k:=5) F__law_often_right zu2 (body:=zj2) (fun cdv A outer s H E hr=>have nd:=(zu2).nd; (za2 (zb2 4 nd (za1 2)) (za2 (zE1 PassesOwn.never rfl (zj0 rfl m_range za4) (zb9 5 nd) (za2 (zb2 4 nd (za7 C__law_all_moved (hr.mono (by decide)) M__law_all_moved F__law_all_moved.kp B__law_all_moved rfl (za0 (za1 0) (za0 (za1 4) (za0 (zd1 (za0 za4 (za0 za4 za5))) (za0 (za1 3) za5)))))) (za2 (zb2 2 nd (za7 C_moved (hr.mono (by decide)) M_moved F_moved.kp B_moved rfl (za0 (za1 0) (za0 (za1 2) (za0 (zd1 (za0 za4 (za0 za4 za5))) (za0 (za1 3) za5)))))) za6))) (za2 (zb5 (zaE0 (zM0 (zo3 hr.u100) (zc3 (zz6 hr.u200 hr.gd) rfl m_repr zj1 (za0 (za1 2) za5)) (zc3 (zz6 hr.u200 hr.gd) rfl m_repr zj1 (za0 (za1 4) za5))) (zaB5 (zM0 (zo3 hr.u100) (zc3 (zz6 hr.u200 hr.gd) rfl m_repr zj1 (za0 (za7 C_table_of (hr.mono (by decide)) M_table_of F_table_of.kp B_table_of rfl (za0 (za1 0) (za0 (za1 2) za5))) za5)) (zc3 (zz6 hr.u200 hr.gd) rfl m_repr zj1 (za0 (za7 C__law_table (hr.mono (by decide)) M__law_table F__law_table.kp B__law_table rfl (za0 (za1 0) (za0 (za1 1) za5))) za5)))))) za6)))) vc
theorem zbe9 {a_law:Addr} {fd_law:FuncData} (F_law:Fun K "law" "law" zaf1 a_law fd_law) {a__law_feed:Addr} {fd__law_feed:FuncData} (F__law_feed:Fun K "_law_feed" "_law_feed" zm8 a__law_feed fd__law_feed) (B__law_feed:Binds K fd__law_feed zn4 []) (M__law_feed:mg "_law_feed"=some (.ref a__law_feed)) (C__law_feed:FnOk P w K mg base CX0 1 a__law_feed fd__law_feed zn4 (LSp K 2 zs5)) {a__law_things:Addr} {fd__law_things:FuncData} (F__law_things:Fun K "_law_things" "_law_things" zi3 a__law_things fd__law_things) (B__law_things:Binds K fd__law_things zi2 []) (M__law_things:mg "_law_things"=some (.ref a__law_things)) (C__law_things:FnOk P w K mg base CX0 3 a__law_things fd__law_things zi2 (LSp K 2 zm4)) {a__law_telling:Addr} {fd__law_telling:FuncData} (F__law_telling:Fun K "_law_telling" "_law_telling" zh6 a__law_telling fd__law_telling) (B__law_telling:Binds K fd__law_telling zh7 []) (M__law_telling:mg "_law_telling"=some (.ref a__law_telling)) (C__law_telling:FnOk P w K mg base CX0 3 a__law_telling fd__law_telling zh7 (LSp K 2 zj6)) {a__law_draw:Addr} {fd__law_draw:FuncData} (F__law_draw:Fun K "_law_draw" "_law_draw" zd2 a__law_draw fd__law_draw) (B__law_draw:Binds K fd__law_draw zc2 []) (M__law_draw:mg "_law_draw"=some (.ref a__law_draw)) (C__law_draw:FnOk P w K mg base CX0 1 a__law_draw fd__law_draw zc2 (LSp K 2 za9)) {a__law_fraction:Addr} {fd__law_fraction:FuncData} (F__law_fraction:Fun K "_law_fraction" "_law_fraction" zd4 a__law_fraction fd__law_fraction) (B__law_fraction:Binds K fd__law_fraction zc7 []) (M__law_fraction:mg "_law_fraction"=some (.ref a__law_fraction)) (C__law_fraction:FnOk P w K mg base CX0 1 a__law_fraction fd__law_fraction zc7 (LSp K 2 zb8)) {a__law_all_moved:Addr} {fd__law_all_moved:FuncData} (F__law_all_moved:Fun K "_law_all_moved" "_law_all_moved" ze3 a__law_all_moved fd__law_all_moved) (B__law_all_moved:Binds K fd__law_all_moved zd5 []) (M__law_all_moved:mg "_law_all_moved"=some (.ref a__law_all_moved)) (C__law_all_moved:FnOk P w K mg base CX0 3 a__law_all_moved fd__law_all_moved zd5 (LSp K 4 ze5)) {a_moved:Addr} {fd_moved:FuncData} (F_moved:Fun K "moved" "moved" zF9 a_moved fd_moved) (B_moved:Binds K fd_moved zE6 []) (M_moved:mg "moved"=some (.ref a_moved)) (C_moved:FnOk P w K mg base CX0 4 a_moved fd_moved zE6 (LSp K 4 zy6)) {a_table_of:Addr} {fd_table_of:FuncData} (F_table_of:Fun K "table_of" "table_of" zn8 a_table_of fd_table_of) (B_table_of:Binds K fd_table_of zl6 []) (M_table_of:mg "table_of"=some (.ref a_table_of)) (C_table_of:FnOk P w K mg base CX0 5 a_table_of fd_table_of zl6 (LSp K 2 zn0)) {a__law_table:Addr} {fd__law_table:FuncData} (F__law_table:Fun K "_law_table" "_law_table" zi1 a__law_table fd__law_table) (B__law_table:Binds K fd__law_table zh1 []) (M__law_table:mg "_law_table"=some (.ref a__law_table)) (C__law_table:FnOk P w K mg base CX0 4 a__law_table fd__law_table zh1 (LSp K 2 zi9)) {a__law_talk:Addr} {fd__law_talk:FuncData} (F__law_talk:Fun K "_law_talk" "_law_talk" zn2 a__law_talk fd__law_talk) (B__law_talk:Binds K fd__law_talk zn3 []) (M__law_talk:mg "_law_talk"=some (.ref a__law_talk)) (C__law_talk:FnOk P w K mg base CX0 4 a__law_talk fd__law_talk zn3 (LSp K 4 zs8)) {a_broken:Addr} {fd_broken:FuncData} (F_broken:Fun K "broken" "broken" zD6 a_broken fd_broken) (B_broken:Binds K fd_broken zD8 []) (M_broken:mg "broken"=some (.ref a_broken)) (C_broken:FnOk P w K mg base CX0 6 a_broken fd_broken zD8 (LSp K 2 zB2)) {a__law_often_right:Addr} {fd__law_often_right:FuncData} (F__law_often_right:Fun K "_law_often_right" "_law_often_right" ze1 a__law_often_right fd__law_often_right) (B__law_often_right:Binds K fd__law_often_right zd9 []) (M__law_often_right:mg "_law_often_right"=some (.ref a__law_often_right)) (C__law_often_right:FnOk P w K mg base CX0 6 a__law_often_right fd__law_often_right zd9 (LSp K 4 zg7)) (m_repr:mg "repr"=none) (m_tuple:mg "tuple"=none) (m_range:mg "range"=none)
    (vc:∀ ds m R,ds.length=zaM9.length→zac5 ds m R→zaL4 { nx:=fun _ m=>R (.dat .none) m,rt:=R } (zb4 zaX0 ds) m):FnOk P w K mg base CX0 7 a_law fd_law zaM9 (LSp K 1 zac5) :=
  zc0 (k:=6) F_law zaR4 (body:=zaL4) (fun cdv A outer s H E hr=>have nd:=(zaR4).nd; (za2 (zE1 PassesOwn.never rfl (zj0 rfl m_range za4) (zb9 1 nd) (za2 (zb2 2 nd (za7 C__law_feed (hr.mono (by decide)) M__law_feed F__law_feed.kp B__law_feed rfl (za0 (za1 0) (za0 (za1 1) za5)))) (za2 (zb2 3 nd (za7 C__law_things (hr.mono (by decide)) M__law_things F__law_things.kp B__law_things rfl (za0 (za1 2) (za0 za4 za5)))) (za2 (zb2 4 nd (za7 C__law_telling (hr.mono (by decide)) M__law_telling F__law_telling.kp B__law_telling rfl (za0 (za1 2) (za0 (za1 3) za5)))) (za2 (zb2 5 nd (zb1 zf2 za4 (za7 C__law_draw (hr.mono (by decide)) M__law_draw F__law_draw.kp B__law_draw rfl (za0 (za1 2) (za0 (zb0 (zj7 (za0 za4 (za0 za4 (za0 za4 za5)))) (za7 C__law_draw (hr.mono (by decide)) M__law_draw F__law_draw.kp B__law_draw rfl (za0 (za1 2) (za0 za4 za5)))) za5))))) (za2 (zb2 5 nd (za7 C__law_fraction (hr.mono (by decide)) M__law_fraction F__law_fraction.kp B__law_fraction rfl (za0 (za1 5) (za0 (zb1 zf2 za4 (za7 C__law_draw (hr.mono (by decide)) M__law_draw F__law_draw.kp B__law_draw rfl (za0 (za1 2) (za0 (zb0 (zj7 (za0 za4 (za0 za4 za5))) (zb1 zB7 (za1 1) za4)) za5)))) za5)))) (za2 (zb2 6 nd (za7 C__law_fraction (hr.mono (by decide)) M__law_fraction F__law_fraction.kp B__law_fraction rfl (za0 (zb1 zF5 (za7 C__law_draw (hr.mono (by decide)) M__law_draw F__law_draw.kp B__law_draw rfl (za0 (za1 2) (za0 za4 za5))) za4) (za0 (zb1 zf2 za4 (za7 C__law_draw (hr.mono (by decide)) M__law_draw F__law_draw.kp B__law_draw rfl (za0 (za1 2) (za0 za4 za5)))) za5)))) (za2 (zb2 7 nd (za7 C__law_all_moved (hr.mono (by decide)) M__law_all_moved F__law_all_moved.kp B__law_all_moved rfl (za0 (za1 3) (za0 (za1 4) (za0 (za1 5) (za0 (za1 6) za5)))))) (za2 (zb2 8 nd (za7 C_moved (hr.mono (by decide)) M_moved F_moved.kp B_moved rfl (za0 (za1 3) (za0 (za1 4) (za0 (za1 5) (za0 (za1 6) za5)))))) (za2 (zg2 (zc5 (zaO0 hr.u100) (zc3 (zz6 hr.u200 hr.gd) rfl m_repr zj1 (za0 (za1 8) za5)) (zc3 (zz6 hr.u200 hr.gd) rfl m_repr zj1 (za0 (za1 7) za5))) (za2 (zb5 zal0) za6) za6) (za2 (zg2 (zc5 (zaO0 hr.u100) (zc3 (zz6 hr.u200 hr.gd) rfl m_repr zj1 (za0 (za7 C_table_of (hr.mono (by decide)) M_table_of F_table_of.kp B_table_of rfl (za0 (za1 3) (za0 (za1 8) za5))) za5)) (zc3 (zz6 hr.u200 hr.gd) rfl m_repr zj1 (za0 (za7 C__law_table (hr.mono (by decide)) M__law_table F__law_table.kp B__law_table rfl (za0 (za1 3) (za0 (za1 4) za5))) za5))) (za2 (zb5 zal0) za6) za6) (za2 (zb2 9 nd (za7 C__law_talk (hr.mono (by decide)) M__law_talk F__law_talk.kp B__law_talk rfl (za0 (za1 2) (za0 (za1 3) (za0 (za1 4) (za0 za4 za5)))))) (za2 (zM7 10 ["_law_saying"] [none] rfl nd (zq6 (zb0 (za1 9) za4)) (fun cl C s2 H2 pins fp=>(zb9 0 zaK7)) (fun cl C s2 H2 pins fp=>(zZ1 (zc5 (zo3 hr.u100) (zb0 (za1 0) za4) zb3))) (fun cl C s2 H2 pins fp=>(za1 0))) (za2 (zb2 11 nd (zd1 (za0 (za1 3) (za0 (ze2 zj3 rfl m_tuple zc8 (za0 (za1 10) za5)) za5)))) (za2 (zg2 (zc5 (zaO0 hr.u100) (zc3 (zz6 hr.u200 hr.gd) rfl m_repr zj1 (za0 (za7 C_broken (hr.mono (by decide)) M_broken F_broken.kp B_broken rfl (za0 (za1 11) (za0 (za1 8) za5))) za5)) (zc3 (zz6 hr.u200 hr.gd) rfl m_repr zj1 (za0 (za7 C_broken (hr.mono (by decide)) M_broken F_broken.kp B_broken rfl (za0 (za1 11) (za0 (za1 4) za5))) za5))) (za2 (zb5 zal0) za6) za6) (za2 (zg2 (zaA5 (zr4 (za7 C__law_often_right (hr.mono (by decide)) M__law_often_right F__law_often_right.kp B__law_often_right rfl (za0 (za1 3) (za0 (za1 4) (za0 (za1 8) (za0 (za1 6) za5))))))) (za2 (zb5 zal0) za6) za6) za6)))))))))))))))) (za2 (zb5 zal0) za6))) vc
end
end K14
set_option Elab.async false
set_option linter.all false
set_option maxRecDepth 100000
set_option maxHeartbeats 4000000
namespace K14
open PySem PySem.Spec PyProof.Rows L2 DL K01
abbrev EN (R:DK):Ends2:={ nx:=fun _ m=>R (.dat .none) m,rt:=R }
theorem sz {n:Nat} (h:n≤1000):n≤sizeLine:=Nat.le_trans h (by rw [sizeLine_eq]; decide)
theorem zP2 {m:Mu} {a:Addr} {x y z w:Int}:Feeds (updM m a (.l [.int x,.int y,.int z,.int w])) a:=⟨_,zd0,x,y,z,w,rfl⟩
theorem zaZ7 {ns:List Int} {i:Int} (h0:0≤i) (h:i < (ns.length:Int)):∃ v:Int,atI (ns.map PyData.int) i=some (.int v):=by
  obtain ⟨k,rfl⟩:∃ k:Nat,i=k:=⟨i.toNat,by omega⟩
  have hk:k < ns.length:=by omega
  exact ⟨ns[k],zm0 (by rw [List.getElem?_map,List.getElem?_eq_getElem hk] <;> rfl)⟩
theorem zak0:∀ ds m R,ds.length=zn4.length→zs5 ds m R→zw3 { nx:=fun _ m=>R (.dat .none) m,rt:=R } (zb4 zN2 ds) m:=by
  rintro ds m R hl ⟨ns,k,rfl,hn,h0,h1,h⟩
  by_cases hz:ns.length=0
  · have e:ns=[]:=List.length_eq_zero_iff.mp hz
    subst e
    simp [zD1,zE2,zw3,PyData.eqv,PyData.canLay0,PyData.depth]
    exact ⟨sz (by decide),fun a _=>h a _ zP2⟩
  · have hz':¬ ((ns.length:Int)=0):=by omega
    have hp:(0:Int) < ns.length:=by omega
    obtain ⟨v,hv⟩:=zaZ7 (ns:=ns) (i:=k.fmod ns.length) (Int.fmod_nonneg_of_pos _ hp) (Int.fmod_lt_of_pos _ hp)
    simp [zD1,zE2,zw3,PyData.eqv,PyData.canLay0,PyData.depth,hz',hz]
    refine ⟨_,hv,?_⟩
    simp
    exact ⟨sz (by decide),fun a _=>h a _ zP2⟩
theorem mulL {i j:Int} (h:Bd 64 i):IntMulOk i j:=IntMulOk.of_left (intBits_le_iff.mpr h)
theorem zau1 {x p:Int} (h:0 < p) (hp:p≤2147483629):Bd 31 (x.fmod p):=by
  have h1:=Int.fmod_lt_of_pos x h
  have h2:=Int.fmod_nonneg_of_pos x h
  unfold Bd
  have e:(2:Nat) ^ 31=2147483648:=by decide
  omega
set_option exponentiation.threshold 3000 in
theorem zat3 {i:Int} {n:Nat} (h:i.natAbs < 2 ^ n:=by decide):Bd n i:=h
theorem zU9:∀ ds m R,ds.length=zc7.length→zb8 ds m R→zo4 { nx:=fun _ m=>R (.dat .none) m,rt:=R } (zb4 zx2 ds) m:=by
  rintro ds m R hl ⟨t,b,rfl,h0,hb,h⟩
  have g0:=zah1 (t:=t) (b:=b) (by omega)
  have gb:Bd 2000 ((t.gcd b:Nat):Int):=by
    have:=Int.gcd_le_natAbs_right t (b:=b) (by omega)
    unfold Bd at *
    omega
  have gl:=gb.log (by decide)
  simp [zt3,zt1,zy4,zA5,zB5,zB9,zo4]
  refine ⟨fun n d m'=>m'=m∧∃ (x y:Int) (z:Option D),d=[some (I t),some (I b),some (I x),some (I y),z]∧n=y.natAbs∧0≤y∧0≤x∧Int.gcd x y=Int.gcd t b,⟨_,rfl,b,(if t < 0 then -t else t),none,rfl,rfl,by split <;> omega,by omega,?_⟩,?_⟩
  · rw [Int.gcd_comm]
    split
    · rw [Int.neg_gcd]
    · rfl
  rintro n d m' ⟨rfl,x,y,z,rfl,rfl,hy0,hx0,hg⟩
  by_cases hy:y=0
  · subst hy
    rw [Int.gcd_zero_right] at hg
    have ex:x=((t.gcd b:Nat):Int):=by rw [← hg]; omega
    subst ex
    simp
    refine ⟨fun _=>by omega,Nat.lt_of_lt_of_le (by simpa using gl) (show 2000≤9000 by decide),fun _=>by omega,Nat.lt_of_lt_of_le (by simpa using gl) (show 2000≤9000 by decide),sz (by decide),?_⟩
    rw [Int.fdiv_eq_ediv_of_nonneg _ (by omega),Int.fdiv_eq_ediv_of_nonneg _ (by omega)]
    exact h
  · have hp:0 < y:=by omega
    simp [hy,hp]
    refine ⟨fun d' m''=>m''=m'∧d'=[some (I t),some (I b),some (I y),some (I (x.fmod y)),some (I (x.fmod y))],?_,by simp⟩
    rintro d' m'' ⟨rfl,rfl⟩
    exact ⟨_,zaD7 x y hy,rfl,y,x.fmod y,⟨_,rfl⟩,rfl,Int.fmod_nonneg_of_pos _ hp,hy0,by rw [zau2]; exact hg⟩
theorem zaw1 {g:DG} {b:DS} {E:Ends2} (J:St2→Mu→Prop) (hd:∀ d m,J d m→E.nx d m):∀ (xs:List D),
    (∀ x∈xs,∀ (k:St2→Mu→Prop),(∀ d m,J d m→k d m)→∀ d m,J d m→g x d m fun d' m'=>b { E with nx:=k,ct:=k,bk:=E.nx } d' m')→∀ d m,J d m→zM5 g b E xs d m
  | [],_,d,m,h=>hd d m h
  | x :: xs,step,d,m,h=>step x List.mem_cons_self _ (zaw1 J hd xs fun y hy=>step y (List.mem_cons_of_mem _ hy)) d m h
theorem zau9 {xs:List PyData} {P:PyData→Prop} {r:Int} (h:∀ p∈xs,P p) (h0:0≤r) (h1:r < (xs.length:Int)):∃ p,atI xs r=some p∧P p:=by
  obtain ⟨k,rfl⟩:∃ k:Nat,r=k:=⟨r.toNat,by omega⟩
  have hk:k < xs.length:=by omega
  exact ⟨xs[k],zm0 (List.getElem?_eq_getElem hk),h _ (List.getElem_mem hk)⟩
theorem zD3 {g:DG} {t:DT} {f:DE} {Q:List PyData→Mu→Prop} (J:List D→List PyData→St2→Mu→Prop) (fin:∀ acc d m,J [] acc d m→Q acc m)
    (step:∀ x xs acc d m (k:List PyData→St2→Mu→Prop),J (x :: xs) acc d m→(∀ acc' d' m',J xs acc' d' m'→k acc' d' m')→g x d m fun d1 m1=>t d1 m1 fun b m2=>if b=true then f d1 m2 fun y m3=>∃ p,y=.dat p∧acc.length < sizeLine∧k (acc++[p]) d1 m3 else k acc d1 m2) :
    ∀ xs acc d m,J xs acc d m→zm5 g t f xs acc d m Q
  | [],acc,d,m,h=>fin acc d m h
  | x :: xs,acc,d,m,h=>step x xs acc d m (fun acc' d' m'=>zm5 g t f xs acc' d' m' Q) h (zD3 J fin step xs)
theorem Kp.refl {a:Addr} {m:Mu}:Kp a m m:=fun _ _ _=>rfl
theorem Kp.trans {a:Addr} {m m1 m2:Mu} (h:Kp a m m1) (g:Kp a m1 m2):Kp a m m2:=fun c h1 h2=>by
  have e:=h c h1 h2
  rw [g c h1 (by rw [e]; exact h2),e]
theorem Kp.upd {a:Addr} {m:Mu} {x:Cel}:Kp a m (updM m a x):=fun c h1 _=>zi7 h1
theorem zam3:∀ ds m R,ds.length=zc2.length→za9 ds m R→zC3 { nx:=fun _ m=>R (.dat .none) m,rt:=R } (zb4 zM9 ds) m:=by
  rintro ds m R hl ⟨a,n,rfl,h0,hb,⟨xs,hm,f0,f1,f2,f3,rfl⟩,h⟩
  simp [zK1,zF4,zF2,zQ6,zQ1,zO0,zN5,zO3,zC3,atI,ixN,hm,zd0,zab1,and_assoc]
  by_cases hf:f0≤0
  · left
    refine ⟨hf,mulL zat3,mulL zat3,(zau1 (by decide) (by decide)).mulOk (zau1 (by decide) (by decide)) (by decide),mulL zat3,(zau1 (by decide) (by decide)).mulOk (zau1 (by decide) (by decide)) (by decide),mulL zat3,by omega,?_⟩
    exact h _ _ (Int.fmod_nonneg_of_pos _ h0) (Int.fmod_lt_of_pos _ h0) zP2 .upd
  · right
    refine ⟨by omega,by omega,Nat.lt_of_lt_of_le (hb.log (by decide)) (by decide),?_⟩
    exact h _ _ (Int.fmod_nonneg_of_pos _ h0) (Int.fmod_lt_of_pos _ h0) zP2 .upd
theorem zf6 {a:Addr} {n:Int} {m:Mu} {R:DK} (h0:0 < n) (hb:n < 1000000) (hf:Feeds m a) (h:∀ (r:Int) m',0≤r→r < n→Feeds m' a→Kp a m m'→R (I r) m'):za9 [.cel a,I n] m R:=by
  refine ⟨a,n,rfl,h0,?_,hf,h⟩
  refine Bd.mono (m:=20) ?_ (by decide)
  unfold Bd
  have e:(2:Nat) ^ 20=1048576:=by decide
  omega
theorem zf5 {a:Addr} {n:Int} {m:Mu} {R:DK} (h0:0 < n) (hb:n < 1000000) (hf:Feeds m a) (h:∀ (r:Int) m',0≤r→r < n→Feeds m' a→R (I r) m'):za9 [.cel a,I n] m R :=
  zf6 h0 hb hf fun r m' h1 h2 h3 _=>h r m' h1 h2 h3
end K14
set_option Elab.async false
set_option linter.all false
set_option maxRecDepth 100000
set_option maxHeartbeats 4000000
namespace K14
open PySem PySem.Spec PyProof.Rows L2 DL K01
theorem zai2:∀ ds m R,ds.length=zk6.length→ze0 ds m R→zz0 (EN R) (zb4 zG0 ds) m:=by
  rintro ds m R hl ⟨⟨a,b⟩,⟨c,d⟩,rfl,b1,b2,b3,b4,h⟩
  simp [zz0,zK0,atI,ixN,and_assoc]
  refine ⟨b1.mulOk b4 (by decide),b3.mulOk b2 (by decide),?_⟩
  simpa [stn,sgn] using h
@[simp] theorem zbq4:PyData.strOk (Str.ofString "point")=true:=by decide +kernel
@[simp] theorem zbq3:PyData.strOk (Str.ofString "stretch")=true:=by decide +kernel
@[simp] theorem at0 (x:PyData) (xs:List PyData):atI (x :: xs) 0=some x:=by simp [atI,ixN]
@[simp] theorem at1 (x y:PyData) (xs:List PyData):atI (x :: y :: xs) 1=some y:=by
  have:(1:Int) < xs.length + 1 + 1:=by omega
  simp [atI,ixN,this]
theorem zaY4 (i j:Int) (hi:i=-1∨i=0∨i=1) (hj:j=-1∨j=0∨j=1):∃ xs,atI [PyData.tuple [.str "overlaps",.str "ended",.str "holds"],.tuple [.str "begins",.str "same",.str "begun"],.tuple [.str "within",.str "ends",.str "lapped"]] (1 + i)=some (.tuple xs)∧atI xs (1 + j)=some (.str (row i j)):=by
  rcases hi with rfl | rfl | rfl <;> rcases hj with rfl | rfl | rfl <;> exact ⟨_,rfl,rfl⟩
theorem zaD3 (x:Int):sgn x=-1∨sgn x=0∨sgn x=1:=by
  unfold sgn
  split <;> split <;> simp <;> omega
theorem zB8 {x y:Int×Int} {m:Mu} {R:DK} (h1:Bd 800 x.1∧Bd 800 x.2) (h2:Bd 800 y.1∧Bd 800 y.2) (h:R (I (stn x y)) m):ze0 [.dat (fq x),.dat (fq y)] m R:=⟨x,y,rfl,h1.1.mono (by decide),h1.2.mono (by decide),h2.1.mono (by decide),h2.2.mono (by decide),h⟩
theorem zbm4 {m:Mu} {R:DK} {x0 x1 z:Option D} {both:Bool} {a0 a1 b0 b1:Int×Int} (h1:Bd 800 a0.1∧Bd 800 a0.2) (h2:Bd 800 a1.1∧Bd 800 a1.2) (h3:Bd 800 b0.1∧Bd 800 b0.2) (h4:Bd 800 b1.1∧Bd 800 b1.2)
    (h:R (.dat (.str (wd both a0 a1 b0 b1))) m):zD2 (EN R) [x0,x1,some (.dat (.bool both)),some (.dat (.tuple [fq a0,fq a1])),some (.dat (.tuple [fq b0,fq b1])),z] m:=by
  obtain ⟨xs,r1,r2⟩:=zaY4 (stn a0 b0) (stn a1 b1) (zaD3 _) (zaD3 _)
  unfold wd wc at h
  simp [zD2]
  refine zB8 h2 h3 ?_
  by_cases c1:stn a1 b0 < 0
  · rw [if_pos c1] at h
    simp [c1]
    exact h
  rw [if_neg c1] at h
  simp [c1,zP3]
  refine zB8 h1 h4 ?_
  by_cases c2:0 < stn a0 b1
  · rw [if_pos c2] at h
    simp [c2]
    exact h
  rw [if_neg c2] at h
  simp [c2,zP6]
  have last:R (.dat (.str (row (stn a0 b0) (stn a1 b1)))) m→zD7 (EN R) [x0,x1,some (.dat (.bool both)),some (.dat (.tuple [fq a0,fq a1])),some (.dat (.tuple [fq b0,fq b1])),z] m:=fun h=>by
    simp [zD7,zQ7,sz]
    refine zB8 h1 h3 ⟨_,r1,?_⟩
    exact zB8 h2 h4 ⟨_,r2,h⟩
  cases both with
  | false =>
    simp [zC5]
    exact last (by simpa using h)
  | true =>
    simp
    refine zB8 h2 h3 ?_
    by_cases c3:stn a1 b0=0
    · rw [if_pos ⟨rfl,c3⟩] at h
      simp [c3,PyData.eqv,PyData.canLay0,PyData.depth]
      exact h
    rw [if_neg (fun q=>c3 q.2)] at h
    simp [c3,zC5,PyData.eqv,PyData.canLay0,PyData.depth]
    refine zB8 h1 h4 ?_
    by_cases c4:stn a0 b1=0
    · rw [if_pos ⟨rfl,c4⟩] at h
      simp [c4,PyData.eqv,PyData.canLay0,PyData.depth]
      exact h
    rw [if_neg (fun q=>c4 q.2)] at h
    simp [c4,PyData.eqv,PyData.canLay0,PyData.depth]
    exact last h
theorem zaj3:∀ ds m R,ds.length=zi4.length→zj8 ds m R→zm7 (EN R) (zb4 zL8 ds) m:=by
  rintro ds m R hl ⟨p,q,k,l,a0,a1,b0,b1,rfl,ha,hb,h⟩
  have e1:=ha.eq
  have e2:=hb.eq
  subst e1 e2
  have W:=fun x0 x1 z=>zbm4 (x0:=x0) (x1:=x1) (z:=z) (R:=R) (m:=m) (both:=k && l) ⟨ha.b1,ha.b2⟩ ⟨ha.b3,ha.b4⟩ ⟨hb.b1,hb.b2⟩ ⟨hb.b3,hb.b4⟩ h
  cases k with
  | true =>
    cases l with
    | true =>
      simp [zm7,zo6,zp0,sz]
      exact W _ _ _
    | false =>
      cases hb.pt rfl
      simp [zm7,zo6,zp0,sz]
      exact W _ _ _
  | false =>
    cases ha.pt rfl
    cases l with
    | true =>
      simp [zm7,zo6,zp0,sz]
      exact W _ _ _
    | false =>
      cases hb.pt rfl
      simp [zm7,zo6,zp0,sz]
      exact W _ _ _
theorem zI4 {t b:Int} (hb:0 < b):∃ n d g:Int,fr t b=.tuple [.int n,.int d]∧0 < g∧t=g * n∧b=g * d∧0 < d:=by
  have g0:=zah1 (t:=t) (b:=b) (by omega)
  have d1:((t.gcd b:Nat):Int)∣t:=Int.gcd_dvd_left ..
  have d2:((t.gcd b:Nat):Int)∣b:=Int.gcd_dvd_right ..
  exact ⟨_,_,((t.gcd b:Nat):Int),rfl,g0,(Int.mul_ediv_cancel' d1).symm,(Int.mul_ediv_cancel' d2).symm,(zaC3 g0 d2).mpr hb⟩
theorem bd60 {g n x:Int} (h:x=g * n) (hg:0 < g) (h1:-2000000≤x) (h2:x≤2000000):Bd 800 n:=by
  refine Bd.mono (m:=60) ?_ (by decide)
  unfold Bd
  have q:n.natAbs≤x.natAbs:=by
    rw [h,Int.natAbs_mul]
    exact Nat.le_mul_of_pos_left _ (by omega)
  have e:(2:Nat) ^ 60=1152921504606846976:=by decide
  omega
theorem bx {g n x:Int} (h:x=g * n) (hg:0 < g) (h1:-2000000≤x) (h2:x≤2000000):Bd 60 n:=by
  unfold Bd
  have q:n.natAbs≤x.natAbs:=by
    rw [h,Int.natAbs_mul]
    exact Nat.le_mul_of_pos_left _ (by omega)
  have e:(2:Nat) ^ 60=1152921504606846976:=by decide
  omega
theorem zam8 {t b:Int} {m:Mu} {R:DK} (h0:0 < b) (hb:b≤1000000) (h:R (.dat (fr t b)) m):zb8 [I t,I b] m R:=by
  refine ⟨t,b,rfl,h0,?_,h⟩
  refine Bd.mono (m:=20) ?_ (by decide)
  unfold Bd
  have e:(2:Nat) ^ 20=1048576:=by decide
  omega
theorem zag6:∀ ds m R,ds.length=zk4.length→zl5 ds m R→zs7 (EN R) (zb4 zG3 ds) m:=by
  rintro ds m R hl ⟨a,k,base,many,bottom,rfl,m1,m2,s1,s2,t1,t2,hf,h⟩
  cases k with
  | false =>
    simp [zs7,kd]
    refine zf5 (by omega) (by omega) hf fun q n1 q0 q1 hf1=>?_
    refine zam8 (by omega) (by omega) ?_
    obtain ⟨n,d,g,e,g0,e1,e2,d0⟩:=zI4 (t:=base + q) (b:=bottom) (by omega)
    rw [e]
    exact h _ (n,d) (n,d) _ ⟨rfl,d0,d0,(fun z=>absurd z (by decide)),fun _=>rfl,bd60 e1 g0 (by omega) (by omega),bd60 e2 g0 (by omega) (by omega),bd60 e1 g0 (by omega) (by omega),bd60 e2 g0 (by omega) (by omega)⟩ ⟨bx e1 g0 (by omega) (by omega),bx e2 g0 (by omega) (by omega),bx e1 g0 (by omega) (by omega),bx e2 g0 (by omega) (by omega)⟩ hf1
  | true =>
    simp (decide:=true) [zs7,kd,zK3]
    refine zf5 (by omega) (by omega) hf fun f n1 f0 f1 hf1=>?_
    simp [zK5]
    refine zf5 (by omega) (by omega) hf1 fun q n2 q0 q1 hf2=>?_
    simp [zJ9]
    refine zam8 (by omega) (by omega) ?_
    refine zam8 (by omega) (by omega) ?_
    obtain ⟨n,d,g,e,g0,e1,e2,d0⟩:=zI4 (t:=base + f) (b:=bottom) (by omega)
    obtain ⟨n',d',g',e',g0',e1',e2',d0'⟩:=zI4 (t:=base + (f + 1 + q)) (b:=bottom) (by omega)
    rw [e,e']
    simp [sz]
    refine h _ (n,d) (n',d') _ ⟨rfl,d0,d0',fun _=>?_,(fun z=>absurd z (by decide)),bd60 e1 g0 (by omega) (by omega),bd60 e2 g0 (by omega) (by omega),bd60 e1' g0' (by omega) (by omega),bd60 e2' g0' (by omega) (by omega)⟩ ⟨bx e1 g0 (by omega) (by omega),bx e2 g0 (by omega) (by omega),bx e1' g0' (by omega) (by omega),bx e2' g0' (by omega) (by omega)⟩ hf2
    show n * d' < n' * d
    have gg:0 < g * g':=Int.mul_pos g0 g0'
    refine Int.lt_of_mul_lt_mul_left (a:=g * g') ?_ (Int.le_of_lt gg)
    have x1:g * g' * (n * d')=(base + f) * bottom:=by rw [e1,e2']; ac_rfl
    have x2:g * g' * (n' * d)=(base + (f + 1 + q)) * bottom:=by rw [e1',e2]; ac_rfl
    rw [x1,x2]
    exact Int.mul_lt_mul_of_pos_right (by omega) (by omega)
theorem zaI4 {a:Addr} {k:Bool} {base many bottom:Int} {m:Mu} {R:DK} (m1:2≤many) (m2:many≤9) (s1:-1000≤base) (s2:base≤1000000) (t1:1≤bottom) (t2:bottom≤1000000) (hf:Feeds m a)
    (h:∀ p x y m',Tm p k x y→bdP 60 p→Feeds m' a→R (.dat p) m'):zl5 [.cel a,.dat (.str (kd k)),I base,I many,I bottom] m R:=⟨a,k,base,many,bottom,rfl,m1,m2,s1,s2,t1,t2,hf,h⟩
theorem zas9 {a b c d e f:Int} (hb:0 < b) (hd:0 < d) (hf:0 < f) (h1:a * d≤c * b) (h2:c * f < e * d):a * f < e * b:=by
  refine Int.lt_of_mul_lt_mul_left (a:=d) ?_ (Int.le_of_lt hd)
  have x1:a * d * f≤c * b * f:=Int.mul_le_mul_of_nonneg_right h1 (Int.le_of_lt hf)
  have x2:c * f * b < e * d * b:=Int.mul_lt_mul_of_pos_right h2 hb
  have y1:d * (a * f)=a * d * f:=by ac_rfl
  have y2:d * (e * b)=e * d * b:=by ac_rfl
  have y3:c * b * f=c * f * b:=by ac_rfl
  omega
theorem Tm.le {p:PyData} {k:Bool} {x y:Int×Int} (h:Tm p k x y):x.1 * y.2≤y.1 * x.2:=by
  cases k with
  | true=>exact Int.le_of_lt (h.st rfl)
  | false=>rw [h.pt rfl]; exact Int.le_refl _
theorem zaq3:∀ ds m R,ds.length=zl3.length→zi6 ds m R→zI6 (EN R) (zb4 zS2 ds) m:=by
  rintro ds m R hl ⟨⟨a,b⟩,⟨c,d⟩,rfl,b1,b2,b3,b4,h⟩
  simp [zI6,and_assoc]
  exact ⟨b1.mulOk b4 (by decide),b3.mulOk b2 (by decide),h⟩
theorem zH4 (x y:Int×Int):stn x y=if x.1 * y.2 < y.1 * x.2 then -1 else if y.1 * x.2 < x.1 * y.2 then 1 else 0:=by
  unfold stn sgn
  split <;> split <;> split <;> (try split) <;> omega
theorem zaJ1:∀ ds m R,ds.length=zC8.length→zu3 ds m R→zV4 (EN R) (zb4 zag1 ds) m:=by
  rintro ds m R hl ⟨x,y,rfl,b1,b2,b3,b4,h⟩
  rw [zH4] at h
  simp [zV4]
  refine ⟨x,y,rfl,b1,b2,b3,b4,?_⟩
  by_cases c1:x.1 * y.2 < y.1 * x.2
  · rw [if_pos c1] at h
    simp [c1]
    exact h
  · rw [if_neg c1] at h
    simp [c1,zae4]
    refine ⟨y,x,rfl,b3,b4,b1,b2,?_⟩
    by_cases c2:y.1 * x.2 < x.1 * y.2
    · rw [if_pos c2] at h
      simp [c2]
      exact h
    · rw [if_neg c2] at h
      simp [c2,zae3]
      exact h
theorem zap5:∀ ds m R,ds.length=zs0.length→zi5 ds m R→zI5 (EN R) (zb4 zR5 ds) m:=by
  rintro ds m R hl ⟨p,k,x,y,rfl,ht,h⟩
  have e:=ht.eq
  subst e
  cases k <;> simp [zI5] <;> exact h
theorem zar9:∀ ds m R,ds.length=zp7.length→zu6 ds m R→zJ5 (EN R) (zb4 zR7 ds) m:=by
  rintro ds m R hl ⟨k,l,rfl,h⟩
  unfold zJ5
  simp only [dSeq,dRet,zaj1,dVar,dCon,zb4]
  refine ⟨_,rfl,[kd k,kd l],rfl,?_⟩
  cases k <;> cases l <;> exact h
theorem zbo1:∀ z∈ORD,valP zah5 z=some (.tuple ((w4 z).map .int))∧∃ a b c d,w4 z=[a,b,c,d]:=by
  intro z hz
  unfold ORD at hz
  simp only [List.mem_cons,List.not_mem_nil,or_false] at hz
  rcases hz with rfl | rfl | rfl | rfl | rfl | rfl | rfl | rfl | rfl | rfl | rfl | rfl | rfl <;> exact ⟨rfl,_,_,_,_,rfl⟩
theorem zax5:∀ ds m R,ds.length=zv7.length→zq0 ds m R→zN8 (EN R) (zb4 zaa7 ds) m:=by
  rintro ds m R hl ⟨k,l,z,rfl,hz,h⟩
  obtain ⟨v,a,b,c,d,e⟩:=zbo1 z hz
  unfold zN8
  simp only [dSeq,dSet,zav4,dVar,zb4]
  refine ⟨_,rfl,z,_,rfl,v,?_⟩
  unfold WB at h
  rw [e] at h ⊢
  cases k <;> cases l <;> simp (decide:=true) [zZ2,zab4,zZ3,kd,PyData.eqv,PyData.eqvAll,PyData.canLay0,PyData.canLayAll0,PyData.depth,PyData.depthAll,atI,ixN,and_assoc,sz] at h ⊢
  all_goals exact h
end K14
set_option Elab.async false
set_option linter.all false
set_option maxRecDepth 100000
set_option maxHeartbeats 4000000
namespace K14
open PySem PySem.Spec PyProof.Rows L2 DL K01
theorem zas8:∀ xs ys:List Int,PyData.eqvAll (xs.map .int) (ys.map .int)=decide (xs=ys)
  | [],[]=>by simp [PyData.eqvAll]
  | [],y :: ys=>by simp [PyData.eqvAll]
  | x :: xs,[]=>by simp [PyData.eqvAll]
  | x :: xs,y :: ys=>by
    have ih:=zas8 xs ys
    simp only [List.map_cons,PyData.eqvAll,ih,PyData.eqv,List.cons.injEq]
    by_cases c:x=y <;> simp [c]
theorem zV5:∀ ns:List Int,PyData.canLayAll0 (ns.map .int)=true∧PyData.depthAll (ns.map .int)≤1
  | []=>by simp [PyData.canLayAll0,PyData.depthAll]
  | n :: ns=>by
    obtain ⟨h1,h2⟩:=zV5 ns
    simp only [List.map_cons,PyData.canLayAll0,PyData.depthAll,PyData.canLay0,PyData.depth,h1,Bool.and_self]
    exact ⟨trivial,by omega⟩
theorem zaS2 (k l:Bool):∀ z∈WS k l,z∈ORD:=by cases k <;> cases l <;> decide +kernel
theorem zaK3 {k l:Bool} {is:List Int} {ws:List Str} {m:Mu} {o:Option D} {Q:List PyData→Mu→Prop} (hn:ws.length≤13) (ho:∀ z∈ws,z∈ORD) (h:Q ((ws.filter fun z=>decide (WB k l z=is)).map .str) m) :
    zm5 (gN 0) (dTst (dBin aEq (zb6 2 zq0 (za3 (dVar 1) (za3 (dVar 0) dNil))) (dVar 2))) (dVar 0) ((ws.map PyData.str).map .dat) [] [o,some (.dat (kds k l)),some (.dat (.tuple (is.map .int)))] m Q:=by
  refine zD3 (fun rest acc d m'=>m'=m∧(∃ o,d=[o,some (.dat (kds k l)),some (.dat (.tuple (is.map .int)))])∧∃ done todo,ws=done++todo∧rest=todo.map (fun z=>.dat (.str z))∧acc=(done.filter fun z=>decide (WB k l z=is)).map .str) ?_ ?_ _ _ _ _ ⟨rfl,⟨o,rfl⟩,[],ws,rfl,by rw [List.map_map]; rfl,rfl⟩
  · rintro acc d m' ⟨rfl,_,done,todo,e1,e2,rfl⟩
    have e3:todo=[]:=by simpa using e2.symm
    subst e3
    rw [List.append_nil] at e1
    rw [← e1]
    exact h
  · rintro x xs acc d m' kk ⟨rfl,⟨o,rfl⟩,done,todo,e1,e2,rfl⟩ hk
    cases todo with
    | nil=>simp at e2
    | cons z todo =>
      obtain ⟨rfl,rfl⟩:=List.cons.inj e2
      have hln:(done.filter fun z=>decide (WB k l z=is)).length < 14:=by
        have:=congrArg List.length e1
        have q:=List.length_filter_le (fun z=>decide (WB k l z=is)) done
        simp at this
        omega
      have e3:ws=(done++[z])++todo:=by rw [e1]; simp
      have hzo:z∈ORD:=ho z (by rw [e1]; simp)
      obtain ⟨y1,y2⟩:=zV5 (WB k l z)
      obtain ⟨y3,y4⟩:=zV5 is
      show dTst (dBin aEq (zb6 2 zq0 (za3 (dVar 1) (za3 (dVar 0) dNil))) (dVar 2)) [some (.dat (.str z)),some (.dat (kds k l)),some (.dat (.tuple (is.map .int)))] m' _
      refine ⟨_,rfl,_,rfl,rfl,k,l,z,rfl,hzo,_,rfl,?_⟩
      simp only [aEq,PyData.eqv,PyData.canLay0,PyData.depth,y1,y3,zas8,true_and]
      refine ⟨by omega,_,rfl,?_⟩
      by_cases c:WB k l z=is
      · rw [if_pos (by simpa using c)]
        exact ⟨_,rfl,_,rfl,by rw [List.length_map]; exact Nat.lt_of_lt_of_le hln (sz (by decide)),hk _ _ _ ⟨rfl,⟨_,rfl⟩,done++[z],todo,e3,rfl,by simp [List.filter_append,c]⟩⟩
      · rw [if_neg (by simpa using c)]
        exact hk _ _ _ ⟨rfl,⟨_,rfl⟩,done++[z],todo,e3,rfl,by simp [List.filter_append,c]⟩
def S3:List Int:=[-1,0,1]
theorem zbj3:∀ s00∈S3,∀ s01∈S3,∀ s10∈S3,∀ s11∈S3,(s00≤0→s01 < 0)→(s10≤0→s11 < 0)→(0≤s00→0 < s10)→(0≤s01→0 < s11)→((WS true true).filter fun z=>decide (WB true true z=[s00,s01,s10,s11])).head?=some (wc true s10 s01 s00 s11):=by decide +kernel
theorem zbj4:∀ s00∈S3,∀ s10∈S3,(0≤s00→0 < s10)→((WS true false).filter fun z=>decide (WB true false z=[s00,s10])).head?=some (wc false s10 s00 s00 s10):=by decide +kernel
theorem zbe7:∀ s00∈S3,∀ s01∈S3,(s00≤0→s01 < 0)→((WS false true).filter fun z=>decide (WB false true z=[s00,s01])).head?=some (wc false s00 s01 s00 s01):=by decide +kernel
theorem zbe6:∀ s00∈S3,((WS false false).filter fun z=>decide (WB false false z=[s00])).head?=some (wc false s00 s00 s00 s00):=by decide +kernel
theorem zbi3:∀ both:Bool,∀ s1∈S3,∀ s2∈S3,∀ s3∈S3,∀ s4∈S3,wc both s1 s2 s3 s4∈ORD:=by decide +kernel
theorem zr7 (x y:Int×Int):stn x y∈S3:=by
  unfold S3
  rcases zaD3 (x.1 * y.2 - y.1 * x.2) with h | h | h <;> simp [stn,h]
theorem st_b {q:PyData} {b0 b1 x:Int×Int} (h:Tm q true b0 b1) (hx:0 < x.2) (c:stn x b0≤0):stn x b1 < 0:=by
  rw [zH4] at c ⊢
  have:=zas9 (a:=x.1) (b:=x.2) (c:=b0.1) (d:=b0.2) (e:=b1.1) (f:=b1.2) hx h.px h.py (by
    split at c
    · omega
    · split at c <;> omega) (h.st rfl)
  rw [if_pos this]
  decide
theorem st_a {p:PyData} {a0 a1 y:Int×Int} (h:Tm p true a0 a1) (hy:0 < y.2) (c:0≤stn a0 y):0 < stn a1 y:=by
  rw [zH4] at c ⊢
  have:=zas9 (a:=y.1) (b:=y.2) (c:=a0.1) (d:=a0.2) (e:=a1.1) (f:=a1.2) hy h.px h.py (by split at c <;> omega) (h.st rfl)
  rw [if_neg (by omega),if_pos this]
  decide
theorem zaC9 (k l:Bool):1≤(WS k l).length∧(WS k l).length≤13:=by cases k <;> cases l <;> decide
theorem zC9 {x y:Int×Int} {m:Mu} {R:DK} (h1:Bd 800 x.1∧Bd 800 x.2) (h2:Bd 800 y.1∧Bd 800 y.2) (h:R (I (stn x y)) m):zu3 [.dat (fq x),.dat (fq y)] m R:=⟨x,y,rfl,h1.1.mono (by decide),h1.2.mono (by decide),h2.1.mono (by decide),h2.2.mono (by decide),h⟩
theorem zt2 {p:PyData} {k:Bool} {x y:Int×Int} {m:Mu} {R:DK} (ht:Tm p k x y) (h:R (.dat (.bool (!k))) m):zi5 [.dat p] m R:=⟨p,k,x,y,rfl,ht,h⟩
theorem zaO5 {k l:Bool} {is:List Int} {m:Mu} {R:DK} {z:Str} {o0 o1 o3 o4:Option D} (hk:((WS k l).filter fun z=>decide (WB k l z=is)).head?=some z) (h:R (.dat (.str z)) m) :
    zN0 (EN R) [o0,o1,some (.dat (kds k l)),o3,o4,some (.dat (.tuple (is.map .int)))] m:=by
  unfold zN0
  simp only [dSeq,dRet,dBin,dLC,zz8,zb6,za3,dNil,dVar,zg4]
  refine ⟨_,rfl,rfl,k,l,rfl,?_⟩
  refine .inr ⟨_,rfl,?_⟩
  refine zaK3 (zaC9 k l).2 (zaS2 k l) ?_
  obtain ⟨fs,ef⟩:∃ fs,(WS k l).filter (fun z=>decide (WB k l z=is))=fs:=⟨_,rfl⟩
  rw [ef] at hk ⊢
  cases fs with
  | nil=>cases hk
  | cons y ys =>
    cases hk
    simp
    exact h
theorem zaz0:∀ ds m R,ds.length=zy1.length→zt9 ds m R→zw5 (EN R) (zb4 zW5 ds) m:=by
  rintro ds m R hl ⟨p,q,k,l,a0,a1,b0,b1,rfl,ha,hb,h⟩
  have e1:=ha.eq
  have e2:=hb.eq
  subst e1 e2
  unfold wd at h
  have A0:Bd 800 a0.1∧Bd 800 a0.2:=⟨ha.b1,ha.b2⟩
  have A1:Bd 800 a1.1∧Bd 800 a1.2:=⟨ha.b3,ha.b4⟩
  have B0:Bd 800 b0.1∧Bd 800 b0.2:=⟨hb.b1,hb.b2⟩
  have B1:Bd 800 b1.1∧Bd 800 b1.2:=⟨hb.b3,hb.b4⟩
  have up {n:Nat} (h:n≤10):n < sizeLine:=Nat.lt_of_lt_of_le (show n < 1000 by omega) (sz (by decide))
  cases k with
  | true =>
    cases l with
    | true =>
      simp [zw5,sz]
      refine zt2 ha ?_
      simp
      refine zt2 hb ?_
      simp [zx8,sz]
      refine zt2 ha ?_
      simp [zy0,sz]
      refine zt2 hb ?_
      simp [zv4,sz,zj4,zG5,DL.stepI,zg4]
      refine zC9 A0 B0 ⟨_,rfl,up (by decide),zC9 A0 B1 ⟨_,rfl,up (by decide),zC9 A1 B0 ⟨_,rfl,up (by decide),zC9 A1 B1 ⟨_,rfl,up (by decide),?_⟩⟩⟩⟩
      exact zaO5 (k:=true) (l:=true) (is:=[stn a0 b0,stn a0 b1,stn a1 b0,stn a1 b1]) (zbj3 _ (zr7 _ _) _ (zr7 _ _) _ (zr7 _ _) _ (zr7 _ _) (st_b hb ha.px) (st_b hb ha.py) (st_a ha hb.px) (st_a ha hb.py)) h
    | false =>
      cases hb.pt rfl
      simp [zw5,sz]
      refine zt2 ha ?_
      simp
      refine zt2 hb ?_
      simp [zx8,sz]
      refine zt2 ha ?_
      simp [zy0,sz]
      refine zt2 hb ?_
      simp [zv4,sz,zj4,zG5,DL.stepI,zg4]
      refine zC9 A0 B0 ⟨_,rfl,up (by decide),zC9 A1 B0 ⟨_,rfl,up (by decide),?_⟩⟩
      exact zaO5 (k:=true) (l:=false) (is:=[stn a0 b0,stn a1 b0]) (zbj4 _ (zr7 _ _) _ (zr7 _ _) (st_a ha hb.px)) h
  | false =>
    cases ha.pt rfl
    cases l with
    | true =>
      simp [zw5,sz]
      refine zt2 ha ?_
      simp
      refine zt2 hb ?_
      simp [zx8,sz]
      refine zt2 ha ?_
      simp [zy0,sz]
      refine zt2 hb ?_
      simp [zv4,sz,zj4,zG5,DL.stepI,zg4]
      refine zC9 A0 B0 ⟨_,rfl,up (by decide),zC9 A0 B1 ⟨_,rfl,up (by decide),?_⟩⟩
      exact zaO5 (k:=false) (l:=true) (is:=[stn a0 b0,stn a0 b1]) (zbe7 _ (zr7 _ _) _ (zr7 _ _) (st_b hb ha.px)) h
    | false =>
      cases hb.pt rfl
      simp [zw5,sz]
      refine zt2 ha ?_
      simp
      refine zt2 hb ?_
      simp [zx8,sz]
      refine zt2 ha ?_
      simp [zy0,sz]
      refine zt2 hb ?_
      simp [zv4,sz,zj4,zG5,DL.stepI,zg4]
      refine zC9 A0 B0 ⟨_,rfl,up (by decide),?_⟩
      exact zaO5 (k:=false) (l:=false) (is:=[stn a0 b0]) (zbe6 _ (zr7 _ _)) h
theorem zag2:∀ ds m R,ds.length=zh2.length→zh0 ds m R→zy7 (EN R) (zb4 zG7 ds) m:=by
  rintro ds m R hl ⟨k,l,rfl,h⟩
  cases k <;> cases l <;> simp (decide:=true) [zy7,zH7,zA4,zL3,zK7,zK2,kd,PyData.eqv,PyData.eqvAll,PyData.canLay0,PyData.canLayAll0,PyData.depth,PyData.depthAll,atI,ixN,and_assoc,sz] <;> exact h
theorem zao3:∀ ds m R,ds.length=zr3.length→zv8 ds m R→zJ1 (EN R) (zb4 zS4 ds) m:=by
  rintro ds m R hl ⟨a,k,l,rfl,hf,h⟩
  obtain ⟨w1,w2⟩:=zaC9 k l
  simp [zJ1]
  refine ⟨k,l,rfl,?_⟩
  simp [zU0]
  refine zf6 (by decide) (by decide) hf fun r m1 r0 r1 hf1 kp1=>?_
  simp [zT6,zg4]
  refine zD3 (fun rest acc d m'=>(Feeds m' a∧Kp a m m')∧(∃ o,d=[o,some (.cel a),some (I (1 + r))])∧∃ done todo sel,WS k l=done++todo∧rest=todo.map (fun z=>.dat (.str z))∧acc=sel.map .str∧List.Sublist sel done) ?_ ?_ _ _ _ _ ⟨⟨hf1,kp1⟩,⟨none,rfl⟩,[],WS k l,[],rfl,by simp,rfl,List.Sublist.refl _⟩
  · rintro acc d m2 ⟨⟨hf2,kp2⟩,_,done,todo,sel,e1,e2,rfl,hs⟩
    have e3:todo=[]:=by simpa using e2.symm
    subst e3
    rw [List.append_nil] at e1
    subst e1
    simp [zT3]
    refine zf6 (by decide) (by decide) hf2 fun way m3 _ _ hf3 kp3=>?_
    have kp3:=kp2.trans kp3
    have fin:∀ sel m',Feeds m' a→Kp a m m'→List.Sublist sel (WS k l)→zH8 (EN R) [some (.cel a),some (.dat (kds k l)),some (.dat (.list ((WS k l).map .str))),some (I (1 + r)),some (.dat (.list (sel.map .str))),some (I way)] m':=fun sel m' hf' kp' hs'=>by
      simp [zH8]
      exact h sel m' hs' hf' kp'
    simp [zT9,zU1,PyData.eqv,PyData.canLay0,PyData.depth]
    by_cases c0:way=0
    · right
      refine ⟨c0,zf6 (by omega) (by omega) hf3 fun q m4 q0 q1 hf4 kp4=>?_⟩
      obtain ⟨j,rfl⟩:∃ j:Nat,q=j:=⟨q.toNat,by omega⟩
      have hj:j < (WS k l).length:=by omega
      refine ⟨.str (WS k l)[j],zm0 (by rw [List.getElem?_map,List.getElem?_eq_getElem hj]; rfl),_,rfl,sz (by show 1≤1000; decide),.inl ⟨by omega,fin [(WS k l)[j]] m4 hf4 (kp3.trans kp4) (List.singleton_sublist.mpr (List.getElem_mem hj))⟩⟩
    · left
      refine ⟨c0,?_⟩
      by_cases c1:way=1
      · exact .inr ⟨c1,fin [] m3 hf3 kp3 (List.nil_sublist _)⟩
      · exact .inl ⟨c1,fin sel m3 hf3 kp3 hs⟩
  · rintro x xs acc d m2 k2 ⟨⟨hf2,kp2⟩,⟨o,rfl⟩,done,todo,sel,e1,e2,rfl,hs⟩ hk
    cases todo with
    | nil=>simp at e2
    | cons z todo =>
      obtain ⟨rfl,rfl⟩:=List.cons.inj e2
      have e3:WS k l=(done++[z])++todo:=by rw [e1]; simp
      have hsl:sel.length < 14:=by
        have q1:=hs.length_le
        have q2:=congrArg List.length e1
        simp at q2
        omega
      simp
      refine zf6 (by omega) (by omega) hf2 fun q m3 _ _ hf3 kp3=>?_
      simp [PyData.eqv,PyData.canLay0,PyData.depth]
      by_cases c:q=0
      · right
        refine ⟨c,Nat.lt_of_lt_of_le hsl (sz (by decide)),hk _ _ _ ⟨⟨hf3,kp2.trans kp3⟩,⟨_,rfl⟩,done++[z],todo,sel++[z],e3,rfl,by simp,hs.append (List.Sublist.refl _)⟩⟩
      · left
        exact ⟨c,hk _ _ _ ⟨⟨hf3,kp2.trans kp3⟩,⟨_,rfl⟩,done++[z],todo,sel,e3,rfl,rfl,hs.trans (List.sublist_append_left _ _)⟩⟩
end K14
set_option Elab.async false
set_option linter.all false
set_option maxRecDepth 100000
set_option maxHeartbeats 4000000
namespace K14
open PySem PySem.Spec PyProof.Rows L2 DL K01
theorem zaI8 {n i:Nat} (h:i < n):(zu0 0 n).drop i=I (i:Int) :: (zu0 0 n).drop (i + 1):=by
  have hl:i < (zu0 0 n).length:=by unfold zu0; simpa using h
  rw [List.drop_eq_getElem_cons hl]
  congr 1
  unfold zu0
  simp
theorem zA7 {g:DG} {t:DT} {f:DE} {Q:List PyData→Mu→Prop} {n:Nat} (J:Nat→List PyData→St2→Mu→Prop) (fin:∀ acc d m,J n acc d m→Q acc m)
    (step:∀ i acc d m (k:List PyData→St2→Mu→Prop),i < n→J i acc d m→(∀ acc' d' m',J (i + 1) acc' d' m'→k acc' d' m')→g (I (i:Int)) d m fun d1 m1=>t d1 m1 fun b m2=>if b=true then f d1 m2 fun y m3=>∃ p,y=.dat p∧acc.length < sizeLine∧k (acc++[p]) d1 m3 else k acc d1 m2) :
    ∀ acc d m,J 0 acc d m→zm5 g t f (zu0 0 n) acc d m Q:=by
  intro acc d m h
  refine zD3 (fun rest acc d m=>∃ i,i≤n∧rest=(zu0 0 n).drop i∧J i acc d m) ?_ ?_ _ _ _ _ ⟨0,Nat.zero_le _,rfl,h⟩
  · rintro acc d m ⟨i,hi,e,hj⟩
    have:i=n:=by
      have:=congrArg List.length e
      unfold zu0 at this
      simp at this
      omega
    subst this
    exact fin _ _ _ hj
  · rintro x xs acc d m k ⟨i,hi,e,hj⟩ hk
    have hlt:i < n:=by
      have:=congrArg List.length e
      unfold zu0 at this
      simp at this
      omega
    rw [zaI8 hlt] at e
    obtain ⟨rfl,rfl⟩:=List.cons.inj e
    exact step i acc d m k hlt hj fun acc' d' m' h'=>hk _ _ _ ⟨i + 1,hlt,rfl,h'⟩
def Knds (n:Nat) (acc:List PyData):Prop:=∃ ks:List Bool,acc=ks.map (fun k=>.str (kd k))∧ks.length=n
theorem Knds.snoc {n:Nat} {acc:List PyData} {k:Bool} (h:Knds n acc):Knds (n + 1) (acc++[.str (kd k)]):=by
  obtain ⟨zs,rfl,hl⟩:=h
  exact ⟨zs++[k],by simp,by simp [hl]⟩
theorem Knds.len {n:Nat} {acc:List PyData} (h:Knds n acc):acc.length=n:=by
  obtain ⟨zs,rfl,hl⟩:=h
  simpa using hl
theorem zbp0 {i:Int} (h0:0≤i) (h1:i < 2):∃ b,atI [PyData.str "point",.str "stretch"] i=some (.str (kd b)):=by
  obtain rfl | rfl:i=0∨i=1:=by omega
  · exact ⟨false,rfl⟩
  · exact ⟨true,rfl⟩
theorem zai9:∀ ds m R,ds.length=zk1.length→zp2 ds m R→zy2 (EN R) (zb4 zF6 ds) m:=by
  rintro ds m R hl ⟨a,n,rfl,n1,n2,hf,h⟩
  obtain ⟨nn,rfl⟩:∃ nn:Nat,n=nn:=⟨n.toNat,by omega⟩
  have fin:∀ (ks:List Bool) m',ks.length=nn→Feeds m' a→zA0 (EN R) [some (.cel a),some (I nn),some (.dat (.list (ks.map fun k=>.str (kd k))))] m':=fun ks m' hk hf'=>by
    simp [zA0]
    exact h ks m' (by omega) hf'
  simp [zy2,zg4]
  refine ⟨by omega,?_⟩
  refine zA7 (fun i acc d m'=>Feeds m' a∧(∃ o,d=[o,some (.cel a)])∧Knds i acc) ?_ ?_ _ _ _ ⟨hf,⟨none,rfl⟩,[],rfl,rfl⟩
  · rintro acc d m1 ⟨hf1,_,ks,rfl,hk⟩
    simp [zL5]
    refine zf5 (by decide) (by decide) hf1 fun w m2 w0 w1 hf2=>?_
    simp [PyData.eqv,PyData.canLay0,PyData.depth,zg4]
    by_cases c:w=0
    · right
      refine ⟨c,by omega,?_⟩
      refine zA7 (fun i acc d m'=>m'=m2∧(∃ o,d=[o])∧Knds i acc) ?_ ?_ _ _ _ ⟨rfl,⟨none,rfl⟩,[],rfl,rfl⟩
      · rintro acc d m3 ⟨rfl,_,ks,rfl,hk⟩
        exact fin ks _ hk hf2
      · rintro i acc d m3 k hi ⟨rfl,⟨o,rfl⟩,ht⟩ hk'
        simp
        exact ⟨Nat.lt_of_lt_of_le (by rw [ht.len]; omega) (sz (n:=100) (by decide)),hk' _ _ _ ⟨rfl,⟨_,rfl⟩,ht.snoc (k:=true)⟩⟩
    · left
      exact ⟨c,fin ks _ hk hf2⟩
  · rintro i acc d m1 k hi ⟨hf1,⟨o,rfl⟩,ht⟩ hk
    simp [sz]
    refine zf5 (by decide) (by decide) hf1 fun q m2 q0 q1 hf2=>?_
    obtain ⟨b,e⟩:=zbp0 q0 q1
    exact ⟨_,e,_,rfl,Nat.lt_of_lt_of_le (by rw [ht.len]; omega) (sz (n:=100) (by decide)),hk _ _ _ ⟨hf2,⟨_,rfl⟩,ht.snoc⟩⟩
theorem zac1:∀ ds m R,ds.length=zi2.length→zm4 ds m R→zt5 (EN R) (zb4 zC6 ds) m:=by
  rintro ds m R hl ⟨a,n,rfl,n1,n2,hf,h⟩
  simp [zt5]
  refine zf5 (by omega) (by omega) hf fun w m1 w0 w1 hf1=>?_
  refine ⟨a,1 + w,rfl,by omega,by omega,hf1,fun zs m2 hz hnm hf2=>?_⟩
  simp [zI1]
  refine ⟨a,zs.length,rfl,by omega,by omega,hf2,fun ks m3 hk hf3=>?_⟩
  have hkl:ks.length=zs.length:=by omega
  simp [zF7,zg4]
  refine ⟨by omega,?_⟩
  refine zA7 (fun i acc d m'=>m'=m3∧(∃ o,d=[o,some (.dat (.list (zs.map .str))),some (.dat (.tuple (ks.map fun k=>.str (kd k))))])∧acc=((zs.zip ks).take i).map fun t=>.tuple [.str t.1,.str (kd t.2)]) ?_ ?_ _ _ _ ⟨rfl,⟨none,rfl⟩,rfl⟩
  · rintro acc d m4 ⟨rfl,_,rfl⟩
    rw [List.take_of_length_le (by rw [List.length_zip]; omega)]
    exact h (zs.zip ks) _ (by rw [List.length_zip]; omega) (by rw [List.map_fst_zip (by omega)]; exact hnm) hf3
  · rintro i acc d m4 k hi ⟨rfl,⟨o,rfl⟩,rfl⟩ hk'
    have e1:atI (zs.map PyData.str) (i:Int)=some (.str zs[i]):=zm0 (by rw [List.getElem?_map,List.getElem?_eq_getElem hi]; rfl)
    have hi2:i < ks.length:=by omega
    have e2:atI (ks.map fun k=>PyData.str (kd k)) (i:Int)=some (.str (kd ks[i])):=zm0 (by rw [List.getElem?_map,List.getElem?_eq_getElem hi2]; rfl)
    simp
    refine ⟨_,e1,_,e2,sz (by decide),Nat.lt_of_lt_of_le (by omega) (sz (n:=100) (by decide)),hk' _ _ _ ⟨rfl,⟨_,rfl⟩,?_⟩⟩
    rw [List.take_succ_eq_append_getElem (by rw [List.length_zip]; omega)]
    simp
theorem TmAll.len:∀ {ts:List (Str×Bool)} {ps:List PyData},TmAll ts ps→ps.length=ts.length
  | [],[],_=>rfl
  | t :: ts,p :: ps,h=>by rw [List.length_cons,List.length_cons,TmAll.len h.2]
  | [],_ :: _,h=>h.elim
  | _ :: _,[],h=>h.elim
theorem TmAll.snoc:∀ {ts:List (Str×Bool)} {ps:List PyData} {t:Str×Bool} {p:PyData},TmAll ts ps→(∃ x y,Tm p t.2 x y)→TmAll (ts++[t]) (ps++[p])
  | [],[],_,_,_,q=>⟨q,True.intro⟩
  | t :: ts,p :: ps,_,_,h,q=>⟨h.1,TmAll.snoc h.2 q⟩
  | [],_ :: _,_,_,h,_=>h.elim
  | _ :: _,[],_,_,h,_=>h.elim
theorem zW2:∀ ds m R,ds.length=zh7.length→zj6 ds m R→zs4 (EN R) (zb4 zA3 ds) m:=by
  rintro ds m R hl ⟨a,ts,rfl,hn,hf,h⟩
  simp [zs4]
  refine zf5 (by decide) (by decide) hf fun mn m1 n0 n1 hf1=>?_
  simp [zF3,sz]
  refine zf5 (by decide) (by decide) hf1 fun r m2 r0 r1 hf2=>?_
  obtain ⟨p,e,bo,rfl,u0,u1⟩:=zau9 (xs:=[.int 1,.int 1,.int 2,.int 3,.int 7,.int 999983]) (P:=fun p=>∃ i:Int,p=.int i∧1≤i∧i≤999983) (r:=r) (by simp) r0 r1
  refine ⟨_,e,?_⟩
  simp [zF1,sz]
  refine zf5 (by decide) (by decide) hf2 fun q m3 q0 q1 hf3=>?_
  obtain ⟨p,e,bs,rfl,v0,v1⟩:=zau9 (xs:=[.int 0,.int 0,.int (-5),.int 12,.int 900000]) (P:=fun p=>∃ i:Int,p=.int i∧-5≤i∧i≤900000) (r:=q) (by simp) q0 q1
  refine ⟨_,e,?_⟩
  refine zf5 (by decide) (by decide) hf3 fun w m4 w0 w1 hf4=>?_
  simp [zF0,zg4]
  refine zD3 (fun rest acc d m'=>Feeds m' a∧(∃ o1 o2,d=[o1,o2,some (.cel a),some (I (2 + mn)),some (I bo),some (I (bs - w))])∧∃ done todo,ts=done++todo∧rest=todo.map (fun t=>.dat (.tuple [.str t.1,.str (kd t.2)]))∧TmAll done acc∧∀ p∈acc,bdP 60 p) ?_ ?_ _ _ _ _ ⟨hf4,⟨_,_,rfl⟩,[],ts,rfl,by first | rfl | (rw [List.map_map]; rfl) | simp,True.intro,by simp⟩
  · rintro acc d m5 ⟨hf5,_,done,todo,e1,e2,hla,hbd⟩
    have e3:todo=[]:=by simpa using e2.symm
    subst e3
    rw [List.append_nil] at e1
    subst e1
    exact h acc m5 hla hbd hf5
  · rintro x xs acc d m5 k ⟨hf5,⟨o1,o2,rfl⟩,done,todo,e1,e2,hla,hbd⟩ hk
    cases todo with
    | nil=>simp at e2
    | cons t todo =>
      obtain ⟨rfl,rfl⟩:=List.cons.inj e2
      have hln:acc.length < 7:=by
        have:=congrArg List.length e1
        have:=hla.len
        simp at *
        omega
      simp
      refine zaI4 (by omega) (by omega) (by omega) (by omega) (by omega) (by omega) hf5 fun p x y m6 tp bp hf6=>⟨p,rfl,Nat.lt_of_lt_of_le hln (sz (n:=7) (by decide)),hk _ _ _ ⟨hf6,⟨_,_,rfl⟩,done++[t],todo,by rw [e1]; simp,rfl,hla.snoc ⟨x,y,tp⟩,fun z hz=>(List.mem_append.mp hz).elim (hbd z) fun q=>by cases List.mem_singleton.mp q; exact bp⟩⟩
theorem zao6:∀ ds m R,ds.length=zl4.length→zn6 ds m R→zJ4 (EN R) (zb4 zR9 ds) m:=by
  rintro ds m R hl ⟨ts,rfl,hn,h⟩
  simp [zJ4,zg4]
  refine zD3 (fun rest acc d m'=>m'=m∧(∃ o1 o2,d=[o1,o2])∧∃ done todo,ts=done++todo∧rest=todo.map (fun t=>.dat (.tuple [.str t.1,.str (kd t.2)]))∧acc=done.map fun t=>.str t.1) ?_ ?_ _ _ _ _ ⟨rfl,⟨_,_,rfl⟩,[],ts,rfl,by first | rfl | (rw [List.map_map]; rfl) | simp,rfl⟩
  · rintro acc d m1 ⟨rfl,_,done,todo,e1,e2,rfl⟩
    have e3:todo=[]:=by simpa using e2.symm
    subst e3
    rw [List.append_nil] at e1
    subst e1
    exact h
  · rintro x xs acc d m1 k ⟨rfl,⟨o1,o2,rfl⟩,done,todo,e1,e2,rfl⟩ hk
    cases todo with
    | nil=>simp at e2
    | cons t todo =>
      obtain ⟨rfl,rfl⟩:=List.cons.inj e2
      have hln:done.length < 7:=by
        have:=congrArg List.length e1
        simp at this
        omega
      simp
      exact ⟨Nat.lt_of_lt_of_le hln (sz (n:=7) (by decide)),hk _ _ _ ⟨rfl,⟨_,_,rfl⟩,done++[t],todo,by rw [e1]; simp,rfl,by simp⟩⟩
theorem zas5:∀ ds m R,ds.length=zl2.length→zl0 ds m R→zJ2 (EN R) (zb4 zS1 ds) m:=by
  rintro ds m R hl ⟨ts,ps,z,p,rfl,hn,hz,hp,h⟩
  simp [zJ2]
  refine ⟨ts,rfl,hn,?_⟩
  refine ⟨ts.map (·.1),.inr (by simp),hz,?_⟩
  exact ⟨p,zm0 hp,h⟩
theorem zL6 {p:PyData} {k:Bool} {x y:Int×Int} (h:Tm p k x y):ends p=(k,x,y):=by
  have e:=h.eq
  subst e
  cases k with
  | true=>rfl
  | false =>
    cases h.pt rfl
    rfl
theorem zam4 {p q:PyData} {k l:Bool} {a0 a1 b0 b1:Int×Int} (h:Tm p k a0 a1) (g:Tm q l b0 b1):wdP p q=wd (k && l) a0 a1 b0 b1:=by
  unfold wdP
  rw [zL6 h,zL6 g]
theorem zW8:∀ ds m R,ds.length=zf3.length→zf8 ds m R→zs3 (EN R) (zb4 zA1 ds) m:=by
  rintro ds m R hl ⟨ts,ps,a,b,p,q,k,l,a0,a1,b0,b1,rfl,hn,ha,hb,hp,hq,tp,tq,h⟩
  simp [zs3]
  refine ⟨ts,ps,a,p,rfl,hn,ha,hp,?_⟩
  refine ⟨ts,ps,b,q,rfl,hn,hb,hq,?_⟩
  exact ⟨p,q,k,l,a0,a1,b0,b1,rfl,tp,tq,h⟩
theorem TmAll.at:∀ {ts:List (Str×Bool)} {ps:List PyData} {i:Nat} {p:PyData},TmAll ts ps→ps[i]?=some p→∃ k x y,Tm p k x y
  | t :: ts,q :: ps,0,p,h,e=>by
    cases e
    obtain ⟨x,y,g⟩:=h.1
    exact ⟨_,x,y,g⟩
  | t :: ts,q :: ps,i + 1,p,h,e=>TmAll.at h.2 (by simpa using e)
  | [],[],i,p,_,e=>by simp at e
  | [],_ :: _,_,_,h,_=>h.elim
  | _ :: _,[],_,_,h,_=>h.elim
theorem zaz9 {ts:List (Str×Bool)} {i:Nat} {t:Str×Bool} (h:ts[i]?=some t):atI (ts.map fun t=>PyData.tuple [.str t.1,.str (kd t.2)]) (i:Int)=some (.tuple [.str t.1,.str (kd t.2)]):=zm0 (by rw [List.getElem?_map,h]; rfl)
def MENU:List Str:=["a","ab","abc","b","point","may","gap","begin","strict","o","stretch","zzzzzzzz"]
def f1 (a s k:Nat):Str:=MENU.getD ((a + s * k) % 12) ""
theorem zaU8:∀ a < 12,∀ s∈[1,5,7,11],((List.range 6).map (f1 a s)).Nodup:=by decide +kernel
theorem zaE8:∀ z∈MENU,z.cps.toList.all (fun c=>decide (c < 1114112))=true∧z.length≤20:=by decide +kernel
theorem zam2 {n:Nat} (h:n≤6):List.Sublist (List.range n) (List.range 6):=by
  have:List.range n=(List.range 6).take n:=by
    rw [List.take_range]
    congr 1
    omega
  rw [this]
  exact List.take_sublist _ _
theorem zba6 (a s k:Nat):f1 a s k∈MENU:=by
  unfold f1
  have h:(a + s * k) % 12 < MENU.length:=by
    show _ < 12
    omega
  rw [List.getD_eq_getElem?_getD,List.getElem?_eq_getElem h]
  exact List.getElem_mem h
theorem nm1 {a s n:Nat} (ha:a < 12) (hs:s∈[1,5,7,11]) (hn:n≤6):Nm ((List.range n).map (f1 a s)):=by
  refine ⟨List.Nodup.sublist ((zam2 hn).map _) (zaU8 a ha s hs),by simpa using hn,fun z hz=>?_⟩
  obtain ⟨k,_,rfl⟩:=List.mem_map.mp hz
  exact zaE8 _ (zba6 a s k)
theorem zaY2 (a s k:Nat):atI (MENU.map PyData.str) (((a:Int) + (s:Int) * (k:Int)).fmod 12)=some (.str (f1 a s k)):=by
  have e:((a:Int) + (s:Int) * (k:Int)).fmod 12=(((a + s * k) % 12:Nat):Int):=by
    rw [Int.fmod_eq_emod_of_nonneg _ (by decide)]
    simp
  rw [e]
  have h:(a + s * k) % 12 < MENU.length:=by
    show _ < 12
    omega
  refine zm0 ?_
  unfold f1
  rw [List.getElem?_map,List.getD_eq_getElem?_getD,List.getElem?_eq_getElem h]
  rfl
theorem zaG4:∀ i < 26,(Str.ofString "abcdefghijklmnopqrstuvwxyz").cps.toList[i]?=some (97 + i):=by decide +kernel
theorem zbd4:∀ a < 12,((List.range 6).map fun k=>(a + 3 * k) % 26).Nodup:=by decide +kernel
def mid (x y:Str) (c:Nat):Str:=x++(⟨#[c]⟩:Str)++y
def f2 (x y:Str) (a k:Nat):Str:=mid x y (97 + (a + 3 * k) % 26)
theorem zaY7 {x y:Str} {c d:Nat} (h:mid x y c=mid x y d):c=d:=by
  have e:=congrArg (fun z:Str=>z.cps.toList) h
  simp [mid,Str.cps_append] at e
  exact e
def gc (z:Str):Prop:=∀ c∈z.cps.toList,c < 1114112
theorem zax0 {x y:Str} (h:gc x) (g:gc y):gc (x++y):=fun c hc=>by
  rw [Str.cps_append,Array.toList_append] at hc
  exact (List.mem_append.mp hc).elim (h c) (g c)
theorem zaR2 {c:Nat} (h:c < 1114112):gc (⟨#[c]⟩:Str):=fun d hd=>by
  have:d=c:=by simpa using hd
  omega
theorem zav6 {z:Str} (h:gc z) (lo hi:Option Int):gc (Txt.slice z lo hi):=by
  unfold Txt.slice
  split
  · exact h
  · intro c hc
    simp only [List.mem_filterMap] at hc
    obtain ⟨i,_,e⟩:=hc
    exact h c (by
      have:=Array.mem_of_getElem? e
      simpa using this)
theorem nm2 {x y:Str} {a n:Nat} (hx:gc x) (hy:gc y) (hl:x.length + y.length≤19) (ha:a < 12) (hn:n≤6):Nm ((List.range n).map (f2 x y a)):=by
  refine ⟨?_,by simpa using hn,fun z hz=>?_⟩
  · have nd:=List.Nodup.sublist ((zam2 hn).map fun k=>(a + 3 * k) % 26) (zbd4 a ha)
    have e:(List.range n).map (f2 x y a)=((List.range n).map fun k=>(a + 3 * k) % 26).map fun c=>mid x y (97 + c):=by rw [List.map_map]; rfl
    rw [e]
    exact List.Pairwise.map _ (fun p q hpq h=>hpq (by have:=zaY7 h; omega)) nd
  · obtain ⟨k,_,rfl⟩:=List.mem_map.mp hz
    refine ⟨?_,?_⟩
    · rw [List.all_eq_true]
      intro c hc
      exact decide_eq_true (zax0 (zax0 hx (zaR2 (by omega))) hy c hc)
    · show (x++(⟨#[_]⟩:Str)++y).length≤20
      rw [strLen_append,strLen_append]
      show x.length + 1 + y.length≤20
      omega
theorem zaT6 {zs ys:List Str} (h:Nm zs) (p:ys.Perm zs):Nm ys:=⟨p.nodup_iff.mpr h.1,by rw [p.length_eq]; exact h.2.1,fun z hz=>h.2.2 z (p.mem_iff.mp hz)⟩
theorem zas7:∀ {us:List Str},(∀ z∈us,z.length=1)→(us.map (·.length)).sum=us.length
  | [],_=>rfl
  | u :: us,h=>by
    rw [List.map_cons,List.sum_cons,zas7 fun z hz=>h z (List.mem_cons_of_mem _ hz),h u List.mem_cons_self,List.length_cons]
    omega
theorem zaQ6:gc (Str.ofString ""):=by
  intro c hc
  have:(Str.ofString "").cps.toList=[]:=by decide +kernel
  rw [this] at hc
  cases hc
theorem zaE6:∀ (us:List Str),(∀ u∈us,gc u)→gc (Str.join (Str.ofString "") us)
  | [],_=>zaQ6
  | [u],h=>by
    simp only [Str.join]
    exact h u List.mem_cons_self
  | u :: v :: us,h=>by
    simp only [Str.join]
    exact zax0 (zax0 (h u List.mem_cons_self) zaQ6) (zaE6 (v :: us) fun z hz=>h z (List.mem_cons_of_mem _ hz))
theorem bds {i:Int} (h0:-1000000≤i) (h1:i≤1000000):Bd 64 i:=by
  unfold Bd
  have e:(2:Nat) ^ 64=18446744073709551616:=by decide
  omega
abbrev MD:List PyData:=MENU.map .str
theorem zbh4 (a k:Nat):atI (Str.ofString "abcdefghijklmnopqrstuvwxyz").cps.toList (((a:Int) + 3 * (k:Int)).fmod 26)=some (97 + (a + 3 * k) % 26):=by
  have e:((a:Int) + 3 * (k:Int)).fmod 26=(((a + 3 * k) % 26:Nat):Int):=by
    rw [Int.fmod_eq_emod_of_nonneg _ (by decide)]
    simp
  rw [e]
  exact zm0 (zaG4 _ (by omega))
theorem zai7:∀ ds m R,ds.length=zk7.length→zp3 ds m R→zy9 (EN R) (zb4 zH6 ds) m:=by
  rintro ds m R hl ⟨a,n,rfl,n1,n2,hf,h⟩
  obtain ⟨nn,rfl⟩:∃ nn:Nat,n=nn:=⟨n.toNat,by omega⟩
  simp [zy9,sz]
  simp [zL0]
  refine zf5 (by decide) (by decide) hf fun first m1 f0 f1' hf1=>?_
  obtain ⟨ff,rfl⟩:∃ ff:Nat,first=ff:=⟨first.toNat,by omega⟩
  simp [zL1,sz]
  refine zf5 (by decide) (by decide) hf1 fun st m2 s0 s1 hf2=>?_
  obtain ⟨p,e,step,rfl,hst⟩:=zau9 (xs:=[.int 1,.int 5,.int 7,.int 11]) (P:=fun p=>∃ i:Nat,p=.int i∧i∈[1,5,7,11]) (r:=st) (by
    intro p hp
    simp at hp
    rcases hp with rfl | rfl | rfl | rfl
    · exact ⟨1,rfl,by decide⟩
    · exact ⟨5,rfl,by decide⟩
    · exact ⟨7,rfl,by decide⟩
    · exact ⟨11,rfl,by decide⟩) s0 s1
  refine ⟨_,e,?_⟩
  have sl:step≤11:=by
    simp at hst
    omega
  have fin:∀ (zs:List Str) m' o6 o7 o8,zs.length=nn→Nm zs→Feeds m' a→zA2 (EN R) [some (.cel a),some (I nn),some (.dat (.list MD)),some (I ff),some (I step),some (.dat (.list (zs.map .str))),o6,o7,o8] m':=fun zs m' o6 o7 o8 hz hg hf'=>by
    simp [zA2]
    exact ⟨zs,rfl,by omega,fun ys hp _=>h ys m' (by rw [hp.length_eq,hz]) (zaT6 hg hp) hf'⟩
  simp [zK9,zg4]
  refine ⟨by omega,?_⟩
  refine zA7 (fun i acc d m'=>m'=m2∧(∃ o,d=[o,some (.dat (.list MD)),some (I ff),some (I step)])∧acc=((List.range i).map (f1 ff step)).map .str) ?_ ?_ _ _ _ ⟨rfl,⟨none,rfl⟩,rfl⟩
  · rintro acc d m3 ⟨rfl,_,rfl⟩
    have g1:Nm ((List.range nn).map (f1 ff step)):=nm1 (by omega) hst (by omega)
    obtain ⟨zs,ez⟩:∃ zs,zs=(List.range nn).map (f1 ff step):=⟨_,rfl⟩
    have hz:zs.length=nn:=by rw [ez]; simp
    rw [← ez] at g1 ⊢
    simp [zL4]
    refine zf5 (by decide) (by decide) hf2 fun w m4 w0 w1 hf4=>?_
    simp [PyData.eqv,PyData.canLay0,PyData.depth]
    by_cases c:w=0
    · right
      refine ⟨c,?_⟩
      simp [zG4]
      simp [zB1,zg4]
      refine zf5 (by decide) (by decide) hf4 fun e8 m5 v0 v1 hf5=>?_
      obtain ⟨en,rfl⟩:∃ en:Nat,e8=en:=⟨e8.toNat,by omega⟩
      refine ⟨_,rfl,by omega,by omega,?_⟩
      rw [Int.toNat_natCast]
      refine zA7 (fun i acc d m'=>Feeds m' a∧(∃ o,d=[o,some (.cel a),some (.dat (.str "abcdefghijklmnopqrstuvwxyz"))])∧∃ zs:List Str,acc=zs.map .str∧zs.length=i∧(∀ z∈zs,z.length=1)∧∀ z∈zs,gc z) ?_ ?_ _ _ _ ⟨hf5,⟨none,rfl⟩,[],rfl,rfl,by simp,by simp⟩
      · rintro acc d m6 ⟨hf6,_,us,rfl,hu,hu1,hu2⟩
        have hsum:=zas7 hu1
        refine ⟨us,rfl,by decide,by rw [hsum]; omega,?_⟩
        have hbase:(Txt.join (Str.ofString "") us).length≤7:=by
          unfold Txt.join
          rw [size_glued,hsum,show (Str.ofString "").length=0 by decide +kernel]
          omega
        have gb:gc (Txt.join (Str.ofString "") us):=by
          unfold Txt.join
          first
            | rw [Str.glued_eq_join]
            | rw [StrLaws.glued_eq_join]
            | rw [glued_eq_join]
          exact zaE6 us hu2
        obtain ⟨base,eb⟩:∃ b,Txt.join (Str.ofString "") us=b:=⟨_,rfl⟩
        rw [eb] at hbase gb ⊢
        simp [zB6]
        refine ⟨sz (by omega),?_⟩
        refine zf5 (by omega) (by omega) hf6 fun at_ m7 a0 a1 hf7=>?_
        simp [zB0,zg4]
        refine ⟨by omega,?_⟩
        obtain ⟨x,ex⟩:∃ x,x=Txt.slice base none (some at_):=⟨_,rfl⟩
        obtain ⟨y,ey⟩:∃ y,y=Txt.slice base (some at_) none:=⟨_,rfl⟩
        have lx:x.length≤7:=by rw [ex]; exact Nat.le_trans (zaa9 _ _ _) hbase
        have ly:y.length≤7:=by rw [ey]; exact Nat.le_trans (zaa9 _ _ _) hbase
        have gx:gc x:=by rw [ex]; exact zav6 gb _ _
        have gy:gc y:=by rw [ey]; exact zav6 gb _ _
        refine zA7 (fun i acc d m'=>m'=m7∧(∃ o,d=[o,some (I ff),some (.dat (.str "abcdefghijklmnopqrstuvwxyz")),some (.dat (.str base)),some (I at_)])∧acc=((List.range i).map (f2 x y ff)).map .str) ?_ ?_ _ _ _ ⟨rfl,⟨none,rfl⟩,rfl⟩
        · rintro acc d m8 ⟨rfl,_,rfl⟩
          exact fin _ _ _ _ _ (by simp) (nm2 gx gy (by omega) (by omega) (by omega)) hf7
        · rintro i acc d m8 k hi ⟨rfl,⟨o,rfl⟩,rfl⟩ hk
          have el:=zbh4 ff i
          simp [← ex,← ey]
          have l1:∀ c:Nat,(({ cps:=#[c] }:Str)).length=1:=fun _=>rfl
          refine ⟨sz (by omega),mulL (bds (by decide) (by decide)),sz (by decide +kernel),_,el,sz (by rw [l1]; omega),sz (by omega),sz (by rw [strLen_append,l1]; omega),Nat.lt_of_lt_of_le (show i < 1000 by omega) (sz (by decide)),hk _ _ _ ⟨rfl,⟨_,rfl⟩,?_⟩⟩
          rw [List.range_succ]
          simp [f2,mid]
      · rintro i acc d m6 k hi ⟨hf6,⟨o,rfl⟩,us,rfl,hu,hu1,hu2⟩ hk
        simp
        refine zf5 (by decide) (by decide) hf6 fun q m7 q0 q1 hf7=>?_
        obtain ⟨qn,rfl⟩:∃ qn:Nat,q=qn:=⟨q.toNat,by omega⟩
        have ec:atI (Str.ofString "abcdefghijklmnopqrstuvwxyz").cps.toList (qn:Int)=some (97 + qn):=zm0 (zaG4 qn (by omega))
        refine ⟨sz (by decide),_,ec,_,rfl,Nat.lt_of_lt_of_le (by omega) (sz (n:=100) (by decide)),hk _ _ _ ⟨hf7,⟨_,rfl⟩,us++[⟨#[97 + qn]⟩],by simp,by simp [hu],fun z hz=>?_,fun z hz=>?_⟩⟩
        · rcases List.mem_append.mp hz with hz | hz
          · exact hu1 z hz
          · have:z=⟨#[97 + qn]⟩:=by simpa using hz
            rw [this]
            rfl
        · rcases List.mem_append.mp hz with hz | hz
          · exact hu2 z hz
          · have:z=⟨#[97 + qn]⟩:=by simpa using hz
            rw [this]
            exact zaR2 (by omega)
    · left
      exact ⟨c,fin zs m4 _ _ _ hz g1 hf4⟩
  · rintro i acc d m3 k hi ⟨rfl,⟨o,rfl⟩,rfl⟩ hk
    have em:=zaY2 ff step i
    simp
    refine ⟨mulL (bds (by omega) (by omega)),_,em,?_⟩
    refine ⟨Nat.lt_of_lt_of_le (show i < 1000 by omega) (sz (by decide)),hk _ _ _ ⟨rfl,⟨_,rfl⟩,?_⟩⟩
    rw [List.range_succ]
    simp
theorem zaK0 (i n:Nat):zu0 (i:Int) (n + 1)=I i :: zu0 ((i + 1:Nat):Int) n:=by
  unfold zu0
  rw [List.range_succ_eq_map,List.map_cons,List.map_map]
  congr 1
  refine List.map_congr_left fun k _=>?_
  have:(i:Int) + ((k + 1:Nat):Int)=((i + 1:Nat):Int) + (k:Int):=by omega
  show D.dat (.int ((i:Int) + ((k + 1:Nat):Int)))=D.dat (.int (((i + 1:Nat):Int) + (k:Int)))
  rw [this]
theorem zu4 {g:DG} {b:DS} {E:Ends2} (N:Nat) (J:Nat→St2→Mu→Prop) (fin:∀ d m,J N d m→E.nx d m)
    (step:∀ i d m (k:St2→Mu→Prop),i < N→J i d m→(∀ d' m',J (i + 1) d' m'→k d' m')→g (I i) d m fun d' m'=>b { E with nx:=k,ct:=k,bk:=E.nx } d' m') :
    ∀ (n i:Nat),i + n=N→∀ d m,J i d m→zM5 g b E (zu0 (i:Int) n) d m
  | 0,i,e,d,m,h=>by
    have:i=N:=by omega
    subst this
    exact fin d m h
  | n + 1,i,e,d,m,h=>by
    rw [zaK0]
    exact step i d m _ (by omega) h (zu4 N J fin step n (i + 1) (by omega))
theorem zaL8 {n:Nat} {x:D} (h:x∈zu0 0 n):∃ i:Int,x=I i∧0≤i∧i < n:=by
  unfold zu0 at h
  obtain ⟨i,hi,rfl⟩:=List.mem_map.mp h
  have:=List.mem_range.mp hi
  exact ⟨_,rfl,by omega,by omega⟩
theorem zas4:∀ ds m R,ds.length=zr1.length→zw6 ds m R→zI8 (EN R) (zb4 zR2 ds) m:=by
  rintro ds m R hl ⟨ts,ps,i,j,t,u,p,q,rfl,h1,h2,h3,h4,h5,h⟩
  obtain ⟨k,x,y,tp⟩:=h5.at h3
  obtain ⟨l,z,w,tq⟩:=h5.at h4
  have e1:=zaz9 h1
  have e2:=zaz9 h2
  simp [zI8]
  refine ⟨_,e1,?_⟩
  simp
  refine ⟨_,e2,?_⟩
  simp
  refine ⟨p,zm0 h3,q,zm0 h4,?_⟩
  refine ⟨p,q,k,l,x,y,z,w,rfl,tp,tq,?_⟩
  rw [zam4 tp tq] at h
  simp [sz]
  exact h
theorem zaP1 {xs:List PyData} {n:Nat} (h:n≤xs.length):cutP xs (some (n:Int)) none=xs.drop n:=by
  unfold cutP
  have e1:HT.sIx xs.length 0 (some (n:Int))=n:=by
    have q:¬ ((n:Int) < 0):=by omega
    simp [HT.sIx,q]
    exact Nat.min_eq_left h
  have e2:HT.sIx xs.length xs.length none=xs.length:=rfl
  rw [e1,e2]
  exact List.take_of_length_le (by rw [List.length_drop]; omega)
abbrev T2s (z:Str×Str):PyData:=.tuple [.str z.1,.str z.2]
theorem zav1 {i:D} {a:Str} {N:Option D} {m:Mu} {Q:List PyData→St2→Mu→Prop}:∀ (rest:List Str) (acc:List PyData) (o:Option D),acc.length + rest.length≤100→(∀ o,Q (acc++(rest.map fun k=>(a,k)).map T2s) [some i,some (.dat (.str a)),o,N] m) →
    zj4 (DL.stepI (gN 2) zx1 (dTup (za3 (dVar 1) (za3 (dVar 2) dNil)))) ((rest.map PyData.str).map .dat) acc [some i,some (.dat (.str a)),o,N] m Q
  | [],acc,o,_,h=>by simpa [zj4] using h o
  | b :: rest,acc,o,hl,h=>by
    rw [List.length_cons] at hl
    have ih:=zav1 (i:=i) (a:=a) (N:=N) (m:=m) (Q:=Q) rest
    obtain ⟨K,hK⟩:∃ K,K=zj4 (DL.stepI (gN 2) zx1 (dTup (za3 (dVar 1) (za3 (dVar 2) dNil)))) ((rest.map PyData.str).map .dat):=⟨_,rfl⟩
    rw [← hK] at ih
    simp only [List.map_cons,zj4]
    rw [← hK]
    have hz:acc.length < sizeLine:=Nat.lt_of_lt_of_le (show acc.length < 1000 by omega) (sz (by decide))
    simp [DL.stepI,sz,hz]
    refine ih _ _ (by simp; omega) fun o'=>?_
    have:=h o'
    simpa using this
theorem zaj5 {N:List Str} {m:Mu} {Q:List PyData→St2→Mu→Prop} (hN:N.length≤6):∀ (todo done:List Str) (acc:List PyData) (o0 o1 o2:Option D),N=done++todo→acc.length + 6 * todo.length≤36→(∀ d,Q (acc++(prs todo).map T2s) d m) →
    zj4 (zG5 (gT 2 (gNs (gN 0) (gNs (gN 1) gN0))) zx1 (zz8 (dSlX (dVar 3) (zag9 (dBin aAdd (dVar 0) (dCon (.int 1)))) dNoP)) (DL.stepI (gN 2) zx1 (dTup (za3 (dVar 1) (za3 (dVar 2) dNil))))) ((todo.zipIdx done.length).map fun z=>.dat (.tuple [.int z.2,.str z.1])) acc [o0,o1,o2,some (.dat (.list (N.map .str)))] m Q
  | [],done,acc,o0,o1,o2,_,_,h=>by simpa [zj4,prs] using h _
  | a :: todo,done,acc,o0,o1,o2,e,hl,h=>by
    rw [List.length_cons] at hl
    have ih:=fun acc o0 o1 o2 h1 h2=>zaj5 (N:=N) (m:=m) (Q:=Q) hN todo (done++[a]) acc o0 o1 o2 (by rw [e]; simp) h1 h2
    rw [List.length_append,List.length_singleton] at ih
    simp only [List.zipIdx_cons,List.map_cons,zj4]
    obtain ⟨K,hK⟩:∃ K,K=zj4 (zG5 (gT 2 (gNs (gN 0) (gNs (gN 1) gN0))) zx1 (zz8 (dSlX (dVar 3) (zag9 (dBin aAdd (dVar 0) (dCon (.int 1)))) dNoP)) (DL.stepI (gN 2) zx1 (dTup (za3 (dVar 1) (za3 (dVar 2) dNil))))) ((todo.zipIdx (done.length + 1)).map fun z=>.dat (.tuple [.int z.2,.str z.1])):=⟨_,rfl⟩
    rw [← hK] at ih ⊢
    have ln:N.length=done.length + (todo.length + 1):=by rw [e]; simp
    have ec:cutP (N.map PyData.str) (some ((done.length:Int) + 1)) none=todo.map .str:=by
      rw [show ((done.length:Int) + 1)=((done.length + 1:Nat):Int) by omega,zaP1 (by rw [List.length_map]; omega),← List.map_drop]
      congr 1
      rw [e,show done++a :: todo=(done++[a])++todo by simp,List.drop_left' (by simp)]
    simp [zG5,ec]
    have e2:List.map (D.dat∘PyData.str) todo=(todo.map PyData.str).map .dat:=by rw [List.map_map]
    rw [e2]
    refine zav1 todo acc o2 (by omega) fun o=>?_
    refine ih _ _ _ _ (by simp; omega) fun d=>?_
    have:=h d
    simpa [prs] using this
theorem zaq4:∀ ds m R,ds.length=zr9.length→zx9 ds m R→zJ3 (EN R) (zb4 zS0 ds) m:=by
  rintro ds m R hl ⟨ts,rfl,hn,h⟩
  simp [zJ3]
  refine ⟨ts,rfl,hn,?_⟩
  simp [zT0,zg4,numD]
  have q:=zaj5 (N:=ts.map (·.1)) (m:=m) (Q:=fun ps _ m2=>R (.dat (.list ps)) m2) (by simpa using hn) (ts.map (·.1)) [] [] none none none rfl (by simp; omega) (fun d=>by simpa using h)
  simpa [List.zipIdx_map,Function.comp_def] using q
theorem zaH1:∀ {ns:List Str} {z:Str×Str},z∈prs ns→z.1∈ns∧z.2∈ns
  | [],z,h=>nomatch h
  | n :: ns,z,h=>by
    rcases List.mem_append.mp h with h | h
    · obtain ⟨k,hk,rfl⟩:=List.mem_map.mp h
      exact ⟨List.mem_cons_self,List.mem_cons_of_mem _ hk⟩
    · obtain ⟨h1,h2⟩:=zaH1 h
      exact ⟨List.mem_cons_of_mem _ h1,List.mem_cons_of_mem _ h2⟩
theorem zaE1:∀ ns:List Str,(prs ns).length≤ns.length * ns.length
  | []=>Nat.le_refl _
  | n :: ns=>by
    have ih:=zaE1 ns
    simp only [prs,List.length_append,List.length_map,List.length_cons]
    rw [Nat.add_mul,Nat.mul_add]
    omega
abbrev rowF (F:Str→PyData) (z:Str×Str):PyData:=.tuple [.str z.1,.str z.2,.tuple [.str (wdP (F z.1) (F z.2))]]
theorem zaH5 (F:Str→PyData):∀ (ns:List Str) (ps:List PyData),ns.length=ps.length→(∀ z∈ns.zip ps,F z.1=z.2)→tbl (ns.zip ps)=(prs ns).map (rowF F)
  | [],[],_,_=>rfl
  | n :: ns,p :: ps,hl,h=>by
    have ih:=zaH5 F ns ps (by simpa using hl) fun z hz=>h z (List.mem_cons_of_mem _ hz)
    have e0:F n=p:=h (n,p) List.mem_cons_self
    simp only [List.zip_cons_cons,tbl,prs,List.map_append,ih]
    congr 1
    have e1:ns=(ns.zip ps).map (·.1):=by rw [List.map_fst_zip (by simp at hl; omega)]
    conv=>rhs; rw [e1,List.map_map,List.map_map]
    refine List.map_congr_left fun z hz=>?_
    have e2:F z.1=z.2:=h z (List.mem_cons_of_mem _ hz)
    simp [rowF,e0,e2]
  | [],_ :: _,hl,_=>by simp at hl
  | _ :: _,[],hl,_=>by simp at hl
theorem zbp2 {ns:List Str} {ps:List PyData} (nd:ns.Nodup):∀ z∈ns.zip ps,FN ns ps z.1=z.2:=fun z hz=>by
  obtain ⟨i,hi,e⟩:=List.getElem_of_mem hz
  rw [List.length_zip] at hi
  have h1:i < ns.length:=by omega
  have h2:i < ps.length:=by omega
  rw [List.getElem_zip] at e
  subst e
  unfold FN
  simp only
  rw [List.Nodup.idxOf_getElem nd,List.getD_eq_getElem?_getD,List.getElem?_eq_getElem h2]
  rfl
theorem zaS5 {ns:List Str} {ps:List PyData} {z:Str} (hl:ps.length=ns.length) (h:z∈ns):ps[ns.idxOf z]?=some (FN ns ps z):=by
  have hj:ns.idxOf z < ns.length:=List.idxOf_lt_length_iff.mpr h
  unfold FN
  rw [List.getD_eq_getElem?_getD,List.getElem?_eq_getElem (by omega)]
  rfl
theorem zar4:∀ ds m R,ds.length=zl6.length→zn0 ds m R→zI9 (EN R) (zb4 zS7 ds) m:=by
  rintro ds m R hl ⟨ts,ps,rfl,⟨nd,hn,_⟩,ht,h⟩
  have hn':ts.length≤6:=by simpa using hn
  have lp:ps.length=(ts.map (·.1)).length:=by rw [ht.len,List.length_map]
  rw [zaH5 (FN (ts.map (·.1)) ps) _ _ lp.symm (zbp2 nd)] at h
  have pl:(prs (ts.map (·.1))).length≤36:=by
    refine Nat.le_trans (zaE1 _) ?_
    exact Nat.le_trans (Nat.mul_le_mul hn hn) (by decide)
  simp [zI9,zg4]
  refine ⟨ts,rfl,hn',?_⟩
  refine .inl ⟨_,rfl,?_⟩
  refine zD3 (fun rest acc d m'=>m'=m∧(∃ o1 o2,d=[o1,o2,some (.dat (TH ts)),some (.dat (.tuple ps))])∧∃ done todo,prs (ts.map (·.1))=done++todo∧rest=todo.map (fun z=>.dat (.tuple [.str z.1,.str z.2]))∧acc=done.map (rowF (FN (ts.map (·.1)) ps))) ?_ ?_ _ _ _ _ ⟨rfl,⟨_,_,rfl⟩,[],prs (ts.map (·.1)),rfl,by rw [List.map_map]; rfl,rfl⟩
  · rintro acc d m1 ⟨rfl,_,done,todo,e1,e2,rfl⟩
    have e3:todo=[]:=by simpa using e2.symm
    subst e3
    rw [List.append_nil] at e1
    rw [e1] at h
    simpa using h
  · rintro x xs acc d m1 k ⟨rfl,⟨o1,o2,rfl⟩,done,todo,e1,e2,rfl⟩ hk
    cases todo with
    | nil=>simp at e2
    | cons z todo =>
      obtain ⟨rfl,rfl⟩:=List.cons.inj e2
      have hln:done.length < 37:=by
        have:=congrArg List.length e1
        simp at this
        omega
      obtain ⟨za,zb⟩:=zaH1 (z:=z) (ns:=ts.map (·.1)) (by rw [e1]; simp)
      have ga:=zaS5 lp za
      have gb:=zaS5 lp zb
      obtain ⟨k1,a0,a1,ta⟩:=ht.at ga
      obtain ⟨k2,b0,b1,tb⟩:=ht.at gb
      simp [sz]
      refine ⟨ts,ps,z.1,z.2,_,_,k1,k2,a0,a1,b0,b1,rfl,hn',za,zb,ga,gb,ta,tb,?_⟩
      simp [sz]
      refine ⟨Nat.lt_of_lt_of_le hln (sz (n:=37) (by decide)),hk _ _ _ ⟨rfl,⟨_,_,rfl⟩,done++[z],todo,by rw [e1]; simp,rfl,?_⟩⟩
      rw [List.map_append]
      congr 1
      simp [rowF,zam4 ta tb]
abbrev rw1 (x z:Str×PyData):PyData:=.tuple [.str x.1,.str z.1,.tuple [.str (wdP x.2 z.2)]]
theorem zah9:∀ ds m R,ds.length=zh1.length→zi9 ds m R→zy5 (EN R) (zb4 zG9 ds) m:=by
  rintro ds m R hl ⟨ts,ps,rfl,hn,ht,h⟩
  have lp:=ht.len
  obtain ⟨L,hL⟩:∃ L,L=(ts.map (·.1)).zip ps:=⟨_,rfl⟩
  have lL:L.length=ts.length:=by rw [hL,List.length_zip,List.length_map]; omega
  rw [← hL] at h
  have atL:∀ i (hi:i < L.length),∃ t p,ts[i]?=some t∧ps[i]?=some p∧L[i]=(t.1,p):=fun i hi=>by
    refine ⟨ts[i]'(by omega),ps[i]'(by omega),List.getElem?_eq_getElem (by omega),List.getElem?_eq_getElem (by omega),?_⟩
    simp [hL]
  simp [zy5,sz]
  intro c hc
  simp [zJ8]
  refine ⟨by omega,?_⟩
  refine zu4 (N:=ts.length) (fun i d m'=>(∃ o3 o4,d=[some (.dat (TH ts)),some (.dat (.tuple ps)),some (.cel c),o3,o4])∧∃ acc,m' c=some (.l acc)∧acc.length≤6 * i∧acc++tbl (L.drop i)=tbl L∧∀ x,(m x).isSome=true→m' x=m x) ?_ ?_ ts.length 0 (by omega) _ _ ⟨⟨_,_,rfl⟩,[],zd0,by simp,by simp,fun x hx=>zi7 (fun e=>by rw [e,hc] at hx; cases hx)⟩
  · rintro d m1 ⟨⟨o3,o4,rfl⟩,acc,h1,h2,h3,h4⟩
    rw [List.drop_eq_nil_of_le (by omega)] at h3
    simp [zK4]
    refine ⟨acc,h1,?_⟩
    simp [tbl] at h3
    rw [h3]
    exact h m1 h4
  · rintro i d m1 k hi ⟨⟨o3,o4,rfl⟩,acc,h1,h2,h3,h4⟩ hk
    obtain ⟨t,p,ti,pi,eL⟩:=atL i (by omega)
    rw [List.drop_eq_getElem_cons (by omega),eL] at h3
    simp [zH1]
    refine ⟨by omega,?_⟩
    have en:((ts.length:Int) - ((i:Int) + 1)).toNat=ts.length - (i + 1):=by omega
    rw [en,show ((i:Int) + 1)=((i + 1:Nat):Int) by omega]
    refine zu4 (N:=ts.length) (fun j d m'=>(∃ o4,d=[some (.dat (TH ts)),some (.dat (.tuple ps)),some (.cel c),some (I i),o4])∧i < j∧∃ acc,m' c=some (.l acc)∧acc.length + (i + 1)≤6 * i + j∧acc++((L.drop j).map (rw1 (t.1,p))++tbl (L.drop (i + 1)))=tbl L∧∀ x,(m x).isSome=true→m' x=m x) ?_ ?_ (ts.length - (i + 1)) (i + 1) (by omega) _ _ ⟨⟨_,rfl⟩,by omega,acc,h1,by omega,h3,h4⟩
    · rintro d m2 ⟨⟨o4,rfl⟩,_,acc,h1,h2,h3,h4⟩
      rw [List.drop_eq_nil_of_le (show L.length≤ts.length by omega)] at h3
      exact hk _ _ ⟨⟨_,_,rfl⟩,acc,h1,by omega,by simpa using h3,h4⟩
    · rintro j d m2 k2 hj ⟨⟨o4,rfl⟩,hij,acc,h1,h2,h3,h4⟩ hk2
      obtain ⟨u,q,tj,pj,eJ⟩:=atL j (by omega)
      rw [List.drop_eq_getElem_cons (show j < L.length by omega),eJ] at h3
      simp [zH3,h1]
      refine ⟨ts,ps,i,j,t,u,p,q,rfl,ti,tj,pi,pj,ht,?_⟩
      simp [h1]
      refine ⟨Nat.lt_of_lt_of_le (show acc.length < 1000 by omega) (sz (by decide)),hk2 _ _ ⟨⟨_,rfl⟩,by omega,acc++[rw1 (t.1,p) (u.1,q)],zd0,by simp; omega,?_,fun x hx=>?_⟩⟩
      · simpa using h3
      · rw [zi7 (fun e=>by rw [e,hc] at hx; cases hx)]
        exact h4 x hx
theorem zaL5:∀ z∈ORD,z.cps.toList.all (fun c=>decide (c < 1114112))=true∧z.length≤20:=by decide +kernel
theorem zaP2 (p q:PyData):good (wdP p q):=zaL5 _ (zbi3 _ _ (zr7 _ _) _ (zr7 _ _) _ (zr7 _ _) _ (zr7 _ _))
def Rw (p:PyData):Prop:=∃ n m w:Str,p=.tuple [.str n,.str m,.tuple [.str w]]∧good n∧good m∧good w
theorem zaQ0:∀ (L:List (Str×PyData)),(∀ z∈L,good z.1)→∀ p∈tbl L,Rw p
  | [],_,p,hp=>nomatch hp
  | (n,q) :: r,h,p,hp=>by
    rcases List.mem_append.mp hp with hp | hp
    · obtain ⟨z,hz,rfl⟩:=List.mem_map.mp hp
      exact ⟨n,z.1,wdP q z.2,rfl,h (n,q) List.mem_cons_self,h z (List.mem_cons_of_mem _ hz),zaP2 _ _⟩
    · exact zaQ0 r (fun z hz=>h z (List.mem_cons_of_mem _ hz)) p hp
theorem zaC6:∀ L:List (Str×PyData),(tbl L).length≤L.length * L.length
  | []=>Nat.le_refl _
  | (n,q) :: r=>by
    have ih:=zaC6 r
    simp only [tbl,List.length_append,List.length_map,List.length_cons]
    rw [Nat.add_mul,Nat.mul_add]
    omega
theorem zai3 {z:Str} (h:good z):PyData.leavesShort 8 (.str z)=true:=by
  unfold PyData.leavesShort
  rw [List.all_eq_true]
  intro c hc
  have:=List.all_eq_true.mp h.1 c hc
  simp at this
  exact decide_eq_true (Nat.lt_trans this (by decide))
theorem zaI0:∀ (xs:List PyData),(∀ p∈xs,Rw p)→PyData.showableAll xs=true∧PyData.leavesShortAll 8 xs=true∧PyData.weightAll xs≤100 * xs.length∧PyData.depthAll xs≤5
  | [],_=>by simp [PyData.showableAll,PyData.leavesShortAll,PyData.weightAll,PyData.depthAll]
  | p :: xs,h=>by
    obtain ⟨i1,i2,i3,i4⟩:=zaI0 xs fun y hy=>h y (List.mem_cons_of_mem _ hy)
    obtain ⟨n,m,w,rfl,g1,g2,g3⟩:=h p List.mem_cons_self
    have w1:n.cps.size≤20:=g1.2
    have w2:m.cps.size≤20:=g2.2
    have w3:w.cps.size≤20:=g3.2
    refine ⟨?_,?_,?_,?_⟩
    · simp [PyData.showableAll,PyData.showable,i1]
    · simp only [PyData.leavesShortAll,i2,Bool.and_true]
      rw [PyData.leavesShort]
      simp only [PyData.leavesShortAll,zai3 g1,zai3 g2,Bool.and_true,Bool.true_and]
      rw [PyData.leavesShort]
      simp only [PyData.leavesShortAll,zai3 g3,Bool.and_true]
    · simp only [PyData.weightAll,PyData.weight,List.length_cons]
      omega
    · simp only [PyData.depthAll,PyData.depth]
      omega
end K14
set_option Elab.async false
set_option linter.all false
set_option maxRecDepth 100000
set_option maxHeartbeats 4000000
namespace K14
open PySem PySem.Spec PyProof.Rows L2 DL K01
theorem zaJ9:∀ ds m R,ds.length=zD0.length→zw2 ds m R→zV3 (EN R) (zb4 zaf0 ds) m:=by
  rintro ds m R hl ⟨a,b,rfl,h⟩
  simp [zV3,zad1,zY9]
  refine ⟨fun n d m'=>m'=m∧∃ x y:Int,d=[some (I x),some (I y)]∧n=y.natAbs∧Int.gcd x y=Int.gcd a b,⟨_,rfl,a,b,rfl,rfl,rfl⟩,?_⟩
  rintro n d m' ⟨rfl,x,y,rfl,rfl,hg⟩
  by_cases hy:y=0
  · subst hy
    rw [Int.gcd_zero_right] at hg
    have e:(if x < 0 then -x else x)=((a.gcd b:Nat):Int):=by rw [← hg]; split <;> omega
    simp [PyData.eqv,PyData.canLay0,PyData.depth]
    rw [e]
    exact h
  · simp [PyData.eqv,PyData.canLay0,PyData.depth,hy]
    refine ⟨fun d' m''=>m''=m'∧d'=[some (I y),some (I (x.fmod y))],?_,by simp⟩
    rintro d' m'' ⟨rfl,rfl⟩
    exact ⟨_,zaD7 x y hy,rfl,y,x.fmod y,rfl,rfl,by rw [zau2]; exact hg⟩
theorem zap8:∀ ds m R,ds.length=zh9.length→zg5 ds m R→zA8 (EN R) (zb4 zR3 ds) m:=by
  rintro ds m R hl ⟨t,b,rfl,hb,bb,h⟩
  have g0:=zah1 (t:=t) hb
  have gb:Bd 2000 ((t.gcd b:Nat):Int):=by
    have:=Int.gcd_le_natAbs_right t (b:=b) hb
    unfold Bd at *
    omega
  have gl:=gb.log (by decide)
  have gl2:=gb.neg.log (by decide)
  by_cases h0:b < 0
  · have n0:¬ (0 < b):=by omega
    simp [zA8,zH9,zI2,zw2,h0]
    rw [if_neg n0] at h
    unfold fr at h
    rw [Int.neg_gcd,Int.gcd_neg] at h
    refine ⟨t,b,⟨rfl,rfl⟩,fun _=>hb,Nat.lt_of_lt_of_le (by simpa using gl) (show 2000≤9000 by decide),fun _=>hb,Nat.lt_of_lt_of_le (by simpa using gl) (show 2000≤9000 by decide),by rw [sizeLine_eq]; decide,?_⟩
    rw [show t.fdiv (-((t.gcd b:Nat):Int))=-t / ((t.gcd b:Nat):Int) by rw [← Int.neg_fdiv_neg,Int.neg_neg,Int.fdiv_eq_ediv_of_nonneg _ (by omega)],
      show b.fdiv (-((t.gcd b:Nat):Int))=-b / ((t.gcd b:Nat):Int) by rw [← Int.neg_fdiv_neg,Int.neg_neg,Int.fdiv_eq_ediv_of_nonneg _ (by omega)]]
    exact h
  · have n0:0 < b:=by omega
    simp [zA8,zH9,zI2,zw2,h0]
    rw [if_pos n0] at h
    unfold fr at h
    refine ⟨t,b,⟨rfl,rfl⟩,fun _=>hb,Nat.lt_of_lt_of_le (by simpa using gl) (show 2000≤9000 by decide),fun _=>hb,Nat.lt_of_lt_of_le (by simpa using gl) (show 2000≤9000 by decide),by rw [sizeLine_eq]; decide,?_⟩
    rw [Int.fdiv_eq_ediv_of_nonneg _ (by omega),Int.fdiv_eq_ediv_of_nonneg _ (by omega)]
    exact h
theorem zaU4:∀ ds m R,ds.length=zY5.length→zR6 ds m R→zat6 (EN R) (zb4 zaG9 ds) m:=by
  rintro ds m R hl ⟨a,b,c,d,rfl,hb,hd,ba,bb,bc,bd,h⟩
  have h1:=Int.mul_pos hb hd
  have k1:=(bb.mul bd).mono (show 1800≤2000 by decide)
  simp [zat6,zg5,atI,ixN,I]
  refine ⟨ba.mulOk bd (by decide),bc.mulOk bb (by decide),bb.mulOk bd (by decide),_,_,⟨rfl,rfl⟩,by omega,k1,?_⟩
  rw [if_pos h1]
  exact h
theorem Kn.refl {m:Mu}:Kn m m:=fun _ _=>rfl
theorem Kn.trans {m m1 m2:Mu} (h:Kn m m1) (g:Kn m1 m2):Kn m m2:=fun c h2=>by
  have e:=h c h2
  rw [g c (by rw [e]; exact h2),e]
theorem Kn.new {m:Mu} {c:Addr} {x:Cel} (h:m c=none):Kn m (updM m c x):=fun b hb=>zi7 fun e=>by rw [e,h] at hb; cases hb
theorem Kn.kp {a:Addr} {m m':Mu} (h:Kn m m'):Kp a m m':=fun c _ hc=>h c hc
theorem Kn.get {m m':Mu} {c:Addr} {x:Cel} (h:Kn m m') (hc:m c=some x):m' c=some x:=by rw [h c (by rw [hc]; rfl)]; exact hc
theorem Kp.get {a:Addr} {m m':Mu} {c:Addr} {x:Cel} (h:Kp a m m') (ne:c≠a) (hc:m c=some x):m' c=some x:=by rw [h c ne (by rw [hc]; rfl)]; exact hc
theorem Feeds.kn {a:Addr} {m m':Mu} (h:Feeds m a) (k:Kn m m'):Feeds m' a:=by
  obtain ⟨xs,e,f⟩:=h
  exact ⟨xs,k.get e,f⟩
theorem TmAll.of:∀ {ts:List (Str×Bool)} {ps:List PyData} {i:Nat} {t:Str×Bool},TmAll ts ps→ts[i]?=some t→∃ p x y,ps[i]?=some p∧Tm p t.2 x y
  | t :: ts,q :: ps,0,u,h,e=>by
    cases e
    obtain ⟨x,y,g⟩:=h.1
    exact ⟨_,x,y,rfl,g⟩
  | t :: ts,q :: ps,i + 1,u,h,e=>by
    obtain ⟨p,x,y,e2,g⟩:=TmAll.of h.2 (by simpa using e)
    exact ⟨p,x,y,by simpa using e2,g⟩
  | [],[],i,p,_,e=>by simp at e
  | [],_ :: _,_,_,h,_=>h.elim
  | _ :: _,[],_,_,h,_=>h.elim
theorem zM1 {ts:List (Str×Bool)} {ps:List PyData} {z:Str} (ht:TmAll ts ps) (hz:z∈ts.map (·.1)):∃ k x y,ps[(ts.map (·.1)).idxOf z]?=some (FT ts ps z)∧Tm (FT ts ps z) k x y∧ts[(ts.map (·.1)).idxOf z]?=some (z,k)∧(z,k)∈ts:=by
  have hj:(ts.map (·.1)).idxOf z < ts.length:=by
    have:=List.idxOf_lt_length_iff.mpr hz
    simpa using this
  have e0:(ts[(ts.map (·.1)).idxOf z]).1=z:=by
    have:=List.getElem_idxOf (x:=z) (xs:=ts.map (·.1)) (by simpa using hj)
    rw [List.getElem_map] at this
    exact this
  obtain ⟨p,x,y,e1,t1⟩:=ht.of (List.getElem?_eq_getElem hj)
  have e2:FT ts ps z=p:=by
    show ps.getD _ _=p
    rw [List.getD_eq_getElem?_getD,e1]
    rfl
  have e3:ts[(ts.map (·.1)).idxOf z]=(z,(ts[(ts.map (·.1)).idxOf z]).2):=Prod.ext e0 rfl
  exact ⟨(ts[(ts.map (·.1)).idxOf z]).2,x,y,by rw [e2]; exact e1,by rw [e2]; exact t1,by rw [List.getElem?_eq_getElem hj]; exact congrArg some e3,by rw [← e3]; exact List.getElem_mem hj⟩
theorem zaR1 {ts:List (Str×Bool)} {ps:List PyData} {e:Str×Bool} {k:Bool} {x y:Int×Int} (h:Tm (FT ts ps e.1) k x y):tmP ts ps e=if e.2 then y else x:=by
  unfold tmP
  rw [zL6 h]
theorem zaR3 {ts:List (Str×Bool)} {ps:List PyData} {e:Str×Bool} (ht:TmAll ts ps) (he:e.1∈ts.map (·.1)):0 < (tmP ts ps e).2∧Bd 800 (tmP ts ps e).1∧Bd 800 (tmP ts ps e).2:=by
  obtain ⟨k,x,y,_,h,_,_⟩:=zM1 ht he
  rw [zaR1 h]
  cases e.2
  · exact ⟨h.px,h.b1,h.b2⟩
  · exact ⟨h.py,h.b3,h.b4⟩
theorem zbm8 (k:Bool):decide (kd k=Str.ofString "point")=!k:=by cases k <;> decide +kernel
theorem Bd.part {n:Nat} {g a t:Int} (h:t=g * a) (hg:0 < g) (b:Bd n t):Bd n a:=by
  unfold Bd at *
  have:a.natAbs≤t.natAbs:=by
    rw [h,Int.natAbs_mul]
    exact Nat.le_mul_of_pos_left _ (by omega)
  omega
@[simp] theorem at2 (x y z:PyData) (xs:List PyData):atI (x :: y :: z :: xs) 2=some z:=by
  have:(2:Int) < xs.length + 1 + 1 + 1:=by omega
  simp [atI,ixN,this]
@[simp] theorem at3 (x y z w:PyData) (xs:List PyData):atI (x :: y :: z :: w :: xs) 3=some w:=by
  have:(3:Int) < xs.length + 1 + 1 + 1 + 1:=by omega
  simp [atI,ixN,this]
@[simp] theorem at4 (x y z w v:PyData) (xs:List PyData):atI (x :: y :: z :: w :: v :: xs) 4=some v:=by
  have:(4:Int) < xs.length + 1 + 1 + 1 + 1 + 1:=by omega
  simp [atI,ixN,this]
theorem zas0 {ts:List (Str×Bool)} {ps:List PyData} {a b:Str} {m:Mu} {R:DK} (nm:Nm (ts.map (·.1))) (ht:TmAll ts ps) (ha:a∈ts.map (·.1)) (hb:b∈ts.map (·.1)) (h:R (.dat (.str (wdP (FT ts ps a) (FT ts ps b)))) m) :
    zf8 [.dat (TH ts),.dat (.tuple ps),.dat (.str a),.dat (.str b)] m R:=by
  obtain ⟨k,x,y,e1,t1,_,_⟩:=zM1 ht ha
  obtain ⟨l,z,w,e2,t2,_,_⟩:=zM1 ht hb
  rw [zam4 t1 t2] at h
  exact ⟨ts,ps,a,b,_,_,k,l,x,y,z,w,rfl,by simpa using nm.2.1,ha,hb,e1,e2,t1,t2,h⟩
theorem zal4 {m0:Mu} {c:Addr} {th:Option D} {L:List PyData} {E:Ends2} (hc:m0 c=none):∀ (todo:List (Str×Bool)) (acc:List PyData) (o2 o3:Option D) (m:Mu),acc.length + 2 * todo.length≤40→Kn m0 m→m c=some (.l acc)→acc++(zz7 todo).map endD=L→(∀ o2 o3 m',Kn m0 m'→m' c=some (.l L)→E.nx [th,some (.cel c),o2,o3] m') →
    zM5 (gT 2 (gNs (gN 2) (gNs (gN 3) gN0))) zh4 E (todo.map fun t=>.dat (.tuple [.str t.1,.str (kd t.2)])) [th,some (.cel c),o2,o3] m
  | [],acc,o2,o3,m,_,hk,hm,e,h=>by
    simp [zz7] at e
    subst e
    simpa [zM5] using h o2 o3 m hk hm
  | t :: todo,acc,o2,o3,m,hl,hk,hm,e,h=>by
    rw [List.length_cons] at hl
    have ih:=zal4 (th:=th) (L:=L) (E:=E) hc todo
    simp only [List.map_cons,zM5]
    obtain ⟨K,hK⟩:∃ K,K=zM5 (gT 2 (gNs (gN 2) (gNs (gN 3) gN0))) zh4 E (todo.map fun t=>.dat (.tuple [.str t.1,.str (kd t.2)])):=⟨_,rfl⟩
    rw [← hK] at ih ⊢
    have q1:acc.length < sizeLine:=Nat.lt_of_lt_of_le (show acc.length < 1000 by omega) (sz (by decide))
    have q2:acc.length + 1 < sizeLine:=Nat.lt_of_lt_of_le (show acc.length + 1 < 1000 by omega) (sz (by decide))
    have kn:∀ {m:Mu} {x:Cel},Kn m0 m→Kn m0 (updM m c x):=fun hk b hb=>by
      rw [zi7 fun z=>by rw [z,hc] at hb; cases hb]
      exact hk b hb
    obtain ⟨z,k⟩:=t
    cases k with
    | false =>
      simp (decide:=true) [zh4,zm2,hm,q1,q2,sz,kd,zd0,zab1]
      refine ih _ _ _ _ ?_ (kn hk) zd0 ?_ h
      · simp; omega
      · rw [← e]; simp [zz7]
    | true =>
      simp (decide:=true) [zh4,zm2,hm,q1,q2,sz,kd,zd0,zab1]
      refine ih _ _ _ _ ?_ (kn hk) zd0 ?_ h
      · simp; omega
      · rw [← e]; simp [zz7]
theorem zV0:∀ ds m R,ds.length=zd8.length→zg1 ds m R→zp1 (EN R) (zb4 zx3 ds) m:=by
  rintro ds m R hl ⟨ts,rfl,hn,h⟩
  simp [zp1,sz]
  intro c hc
  simp [zA9]
  have q:=zal4 (m0:=m) (c:=c) (th:=some (.dat (TH ts))) (L:=(zz7 ts).map endD) (E:={ nx:=zr0 (EN R),rt:=R }) hc ts [] none none (updM m c (.l [])) (by simp; omega) (.new hc) zd0 rfl (fun o2 o3 m' k' hm'=>by
    simp [zr0]
    exact h c m' hc k' hm')
  simpa [Function.comp_def] using q
theorem zal1:∀ ds m R,ds.length=zn1.length→zk9 ds m R→zE4 (EN R) (zb4 zM8 ds) m:=by
  rintro ds m R hl ⟨ts,ps,e,rfl,nm,ht,he,h⟩
  have n6:ts.length≤6:=by simpa using nm.2.1
  obtain ⟨k,x,y,e1,h1,e2,e3⟩:=zM1 ht he
  rw [zaR1 h1] at h
  have hj:(ts.map (·.1)).idxOf e.1 < ts.length:=(List.getElem?_eq_some_iff.mp e2).1
  simp [zE4]
  refine ⟨by omega,?_⟩
  refine zu4 (N:=ts.length) (fun i d m'=>m'=m∧(∃ o,d=[some (.dat (TH ts)),some (.dat (.tuple ps)),some (.dat (endD e)),o])∧i≤(ts.map (·.1)).idxOf e.1) ?_ ?_ ts.length 0 (by omega) _ _ ⟨rfl,⟨_,rfl⟩,Nat.zero_le _⟩
  · rintro d m1 ⟨_,_,hi⟩
    omega
  · rintro i d m1 K hi ⟨rfl,⟨o,rfl⟩,hi2⟩ hk
    have ti:=List.getElem?_eq_getElem hi
    have et:=zaz9 ti
    by_cases c:i=(ts.map (·.1)).idxOf e.1
    · have e4:ts[i]=(e.1,k):=by
        rw [← c,ti] at e2
        exact Option.some.inj e2
      have e5:atI ps (i:Int)=some (FT ts ps e.1):=zm0 (by rw [c]; exact e1)
      rw [e4] at et
      have eq:=h1.eq
      simp [zz9]
      refine ⟨_,et,?_⟩
      simp
      refine ⟨_,et,?_⟩
      simp [zbm8,e5]
      rw [eq]
      cases k with
      | false =>
        cases h1.pt rfl
        have e6:(if e.2=true then x else x)=x:=by split <;> rfl
        rw [e6] at h
        simpa using h
      | true =>
        cases hb:e.2 with
        | false=>rw [hb] at h; simpa using h
        | true=>rw [hb] at h; simpa using h
    · have ne:¬ (ts[i].1=e.1):=fun z=>by
        have:(ts.map (·.1)).idxOf e.1≤i:=by
          have h3:i < (ts.map (·.1)).length:=by simpa using hi
          have h4:(ts.map (·.1))[i]=e.1:=by simpa using z
          rw [← h4,List.Nodup.idxOf_getElem nm.1]
          exact Nat.le_refl _
        omega
      simp [zz9]
      refine ⟨_,et,?_⟩
      simp [ne]
      exact hk _ _ ⟨rfl,⟨_,rfl⟩,by omega⟩
theorem zav3 {ts:List (Str×Bool)} {ps:List PyData} {x:Str×Bool} {m:Mu} {R:DK} (nm:Nm (ts.map (·.1))) (ht:TmAll ts ps) (hx:x.1∈ts.map (·.1)) (h:R (.dat (fq (tmP ts ps x))) m):zk9 [.dat (TH ts),.dat (.tuple ps),.dat (endD x)] m R:=⟨ts,ps,x,rfl,nm,ht,hx,h⟩
end K14
set_option Elab.async false
set_option linter.all false
set_option maxRecDepth 100000
set_option maxHeartbeats 4000000
namespace K14
open PySem PySem.Spec PyProof.Rows L2 DL K01
theorem zaK5 {zs:List Str} (h:∀ z∈zs,PyData.strOk z=true):PyData.canLayAll0 (zs.map .str)=true:=by
  induction zs with
  | nil=>simp [PyData.canLayAll0]
  | cons z zs ih =>
    simp only [List.map_cons,PyData.canLayAll0,PyData.canLay0,h z List.mem_cons_self,ih fun y hy=>h y (List.mem_cons_of_mem _ hy),Bool.and_self]
theorem zaw4:∀ zs:List Str,PyData.depthAll (zs.map .str)≤1
  | []=>by simp [PyData.depthAll]
  | z :: zs=>by
    have:=zaw4 zs
    simp only [List.map_cons,PyData.depthAll,PyData.depth]
    omega
theorem zbg2:∀ z∈ORD,PyData.strOk z=true:=by decide +kernel
theorem zaH3 {n:Nat} {x:Int} (hn:0 < n):∃ j:Nat,x.fmod (n:Int)=j∧j < n:=by
  have h1:=Int.fmod_nonneg_of_pos x (b:=(n:Int)) (by omega)
  have h2:=Int.fmod_lt_of_pos x (b:=(n:Int)) (by omega)
  exact ⟨(x.fmod n).toNat,by omega,by omega⟩
theorem zal3 {ws:List Str} {w:Str} {Q:List PyData→Mu→Prop} {m:Mu}:∀ (todo:List Str) (acc:List Str) (o:Option D),acc.length + todo.length≤100→(∀ zs:List Str,Q (zs.map .str) m) →
    zm5 (gN 0) (dOrT (dTst (dBin aIn (dVar 0) (dVar 2))) (dTst (dBin aEq (dVar 0) (dVar 1)))) (dVar 0) (todo.map fun z=>.dat (.str z)) (acc.map .str) [o,some (.dat (.str w)),some (.dat (.tuple (ws.map .str)))] m Q
  | [],acc,o,_,h=>by simpa [zm5] using h acc
  | z :: todo,acc,o,hl,h=>by
    rw [List.length_cons] at hl
    have ih:=zal3 (ws:=ws) (w:=w) (Q:=Q) (m:=m) todo
    simp only [List.map_cons,zm5]
    obtain ⟨K,hK⟩:∃ K,K=zm5 (gN 0) (dOrT (dTst (dBin aIn (dVar 0) (dVar 2))) (dTst (dBin aEq (dVar 0) (dVar 1)))) (dVar 0) (todo.map fun z=>D.dat (.str z)):=⟨_,rfl⟩
    rw [← hK] at ih ⊢
    have q:acc.length < sizeLine:=Nat.lt_of_lt_of_le (show acc.length < 1000 by omega) (sz (by decide))
    have y1:=ih (acc++[z]) (some (.dat (.str z))) (by simp; omega) h
    have y2:=ih acc (some (.dat (.str z))) (by omega) h
    rw [List.map_append] at y1
    simp [q]
    refine ⟨ws,rfl,?_⟩
    by_cases c1:z∈ws
    · exact .inr ⟨c1,y1⟩
    · refine .inl ⟨c1,?_⟩
      by_cases c2:z=w
      · exact .inr ⟨c2,y1⟩
      · exact .inl ⟨c2,y2⟩
theorem zP0:∀ ds m R,ds.length=ze6.length→zh3 ds m R→zl8 (EN R) (zb4 zp8 ds) m:=by
  rintro ds m R hl ⟨a,ts,ps,rfl,nm,ht,h2,hf,h⟩
  have n6:ts.length≤6:=by simpa using nm.2.1
  simp [zl8]
  refine zf6 (by omega) (by omega) hf fun k m1 k0 k1 hf1 kp1=>?_
  obtain ⟨kk,rfl⟩:∃ kk:Nat,k=kk:=⟨k.toNat,by omega⟩
  have hk:kk < ts.length:=by omega
  simp [zu8]
  refine zf6 (by omega) (by omega) hf1 fun r m2 r0 r1 hf2 kp2=>?_
  obtain ⟨j,ej,hj⟩:=zaH3 (n:=ts.length) (x:=(kk:Int) + 1 + r) (by omega)
  refine ⟨by intro z; omega,?_⟩
  rw [ej]
  have e1:=zaz9 (List.getElem?_eq_getElem hk)
  have e2:=zaz9 (List.getElem?_eq_getElem hj)
  obtain ⟨p,x,y,f1,t1⟩:=ht.of (List.getElem?_eq_getElem hk)
  obtain ⟨q,z,w,f2,t2⟩:=ht.of (List.getElem?_eq_getElem hj)
  obtain ⟨t,et⟩:∃ t,t=ts[kk]:=⟨_,rfl⟩
  obtain ⟨u,eu⟩:∃ u,u=ts[j]:=⟨_,rfl⟩
  have mt:t.1∈ts.map (·.1):=List.mem_map.mpr ⟨t,by rw [et]; exact List.getElem_mem hk,rfl⟩
  have mu:u.1∈ts.map (·.1):=List.mem_map.mpr ⟨u,by rw [eu]; exact List.getElem_mem hj,rfl⟩
  rw [← et] at e1 t1
  rw [← eu] at e2 t2
  have g1:atI ps (kk:Int)=some p:=zm0 f1
  have g2:atI ps (j:Int)=some q:=zm0 f2
  have kp12:=kp1.trans kp2
  have fin:∀ (zs:List Str) (w:Str) m',Feeds m' a→Kp a m m'→zg8 (EN R) [some (.cel a),some (.dat (TH ts)),some (.dat (.tuple ps)),some (I kk),some (I j),some (.dat (kds t.2 u.2)),some (.dat (.str w)),some (.dat (.tuple (zs.map .str)))] m':=fun zs w m' hf' kp'=>by
    simp [zg8]
    refine ⟨_,e1,?_⟩
    simp
    refine ⟨_,e2,?_⟩
    simp [sz]
    exact h (.may t.1 u.1 zs) m' ⟨mt,mu⟩ hf' kp'
  simp [zv6]
  refine ⟨_,e1,?_⟩
  simp
  refine ⟨_,e2,?_⟩
  simp [sz]
  simp [zu1,g1,g2]
  refine ⟨p,q,t.2,u.2,x,y,z,w,rfl,t1,t2,?_⟩
  simp [zx6]
  refine ⟨a,t.2,u.2,rfl,hf2,fun zs m3 hs hf3 kp3=>?_⟩
  have kp3:=kp12.trans kp3
  have lz:=zaK5 fun z hz=>zbg2 z (zaS2 _ _ z (hs.subset hz))
  have dz:=zaw4 zs
  obtain ⟨W,eW⟩:∃ W,W=wd (t.2 && u.2) x y z w:=⟨_,rfl⟩
  rw [← eW]
  have again:∀ m',Feeds m' a→Kp a m m'→dSeq (dSet 7 (zc6 zp6 (za3 (dLC [none,some 6,some 7] (zz8 (zb6 1 zh0 (za3 (dVar 5) dNil))) (gN 0) (dOrT (dTst (dBin aIn (dVar 0) (dVar 2))) (dTst (dBin aEq (dVar 0) (dVar 1)))) (dVar 0)) dNil))) zb7 { nx:=zg8 (EN R),rt:=R } [some (.cel a),some (.dat (TH ts)),some (.dat (.tuple ps)),some (I kk),some (I j),some (.dat (kds t.2 u.2)),some (.dat (.str W)),some (.dat (.tuple (zs.map .str)))] m':=fun m' hf' kp'=>by
    simp only [dSeq,dSet,zc6,za3,dNil,dLC,zz8,zb6,dVar,zg4]
    refine ⟨_,rfl,rfl,t.2,u.2,rfl,.inl ⟨_,rfl,?_⟩⟩
    have q:=zal3 (ws:=zs) (w:=W) (m:=m') (Q:=fun xs m2=>zp6 [D.dat (.list xs)] m2 fun x m1=>zg8 (EN R) [some (D.cel a),some (D.dat (TH ts)),some (D.dat (.tuple ps)),some (I kk),some (I j),some (D.dat (kds t.2 u.2)),some (D.dat (.str W)),some x] m1) (WS t.2 u.2) [] none (by have:=(zaC9 t.2 u.2).2; simp; omega) (fun zs'=>fin zs' W m' hf' kp')
    rw [List.map_map]
    exact q
  unfold zx0
  show dOrT _ _ _ _ _
  refine ⟨_,rfl,[],rfl,sz (by decide),?_⟩
  refine ⟨by simpa only [PyData.canLay0] using lz,by simp [PyData.canLay0,PyData.canLayAll0],by simp only [PyData.depth]; omega,_,rfl,?_⟩
  cases PyData.eqv (.tuple (zs.map .str)) (.tuple []) with
  | true=>exact again m3 hf3 kp3
  | false =>
    rw [if_neg Bool.false_ne_true]
    refine ⟨_,rfl,rfl,zf6 (by decide) (by decide) hf3 fun r m4 r0 r1 hf4 kp4=>?_⟩
    refine ⟨_,rfl,?_⟩
    dsimp only
    split
    · exact again m4 hf4 (kp3.trans kp4)
    · exact fin zs W m4 hf4 (kp3.trans kp4)
theorem zaa2 {xs:List PyData} {P:PyData→Prop} {r:Int} {K:PyData→Prop} (h:∀ p∈xs,P p) (h0:0≤r) (h1:r < (xs.length:Int)) (k:∀ p,P p→K p):∃ p,atI xs r=some p∧K p:=by
  obtain ⟨p,e,g⟩:=zau9 h h0 h1
  exact ⟨p,e,k p g⟩
theorem zat4:∀ {ts:List (Str×Bool)} {x:Str×Bool},x∈zz7 ts→x.1∈ts.map (·.1)
  | t :: ts,x,h=>by
    simp only [zz7,List.mem_cons,List.mem_append] at h
    rcases h with rfl | h | h
    · simp
    · cases hb:t.2 with
      | true =>
        rw [hb] at h
        simp at h
        subst h
        simp
      | false=>rw [hb] at h; simp at h
    · exact List.mem_cons_of_mem _ (zat4 h)
theorem zat9:∀ ts:List (Str×Bool),(zz7 ts).length≤2 * ts.length
  | []=>Nat.le_refl _
  | t :: ts=>by
    have:=zat9 ts
    cases hb:t.2 <;> simp [zz7,hb] <;> omega
theorem zT7 {t b:Int} {m:Mu} {R:DK} (h0:0 < b) (bt:Bd 1700 t) (bb:Bd 1700 b) (h:∀ n:Int×Int,0 < n.2→Bd 2000 n.1→Bd 2000 n.2→R (.dat (fq n)) m):zb8 [I t,I b] m R:=by
  refine ⟨t,b,rfl,h0,bb.mono (by decide),?_⟩
  obtain ⟨n,d,g,e,g0,e1,e2,d0⟩:=zI4 (t:=t) (b:=b) h0
  rw [e]
  exact h (n,d) d0 ((Bd.part e1 g0 bt).mono (by decide)) ((Bd.part e2 g0 bb).mono (by decide))
theorem zaw2 {i:Int} (h1:-2000000≤i) (h2:i≤2000000):Bd 1700 i:=by
  refine Bd.mono (m:=30) ?_ (by decide)
  unfold Bd
  have e:(2:Nat) ^ 30=1073741824:=by decide
  omega
theorem zbb6 {A B C:DT} {S N:DS} {E:Ends2} {d:St2} {m:Mu} (a b c:Bool) (hA:∀ Q:Bool→Mu→Prop,Q a m→A d m Q) (hB:∀ Q:Bool→Mu→Prop,Q b m→B d m Q) (hC:∀ Q:Bool→Mu→Prop,Q c m→C d m Q) (h1:S E d m) (h2:N E d m):dIf (dOrT A (dOrT B C)) S N E d m:=by
  have fin:∀ k:Bool,if k=true then S E d m else N E d m:=fun k=>by cases k <;> simp <;> assumption
  refine hA _ ?_
  cases a with
  | true=>exact fin true
  | false =>
    refine hB _ ?_
    cases b with
    | true=>exact fin true
    | false=>exact hC _ (fin c)
theorem zN4:∀ ds m R,ds.length=zf0.length→zg0 ds m R→zl7 (EN R) (zb4 zq8 ds) m:=by
  rintro ds m R hl ⟨a,ts,ps,rfl,nm,ht,h2,hf,h⟩
  have n6:ts.length≤6:=by simpa using nm.2.1
  have l12:=zat9 ts
  have eL:∀ p∈(zz7 ts).map endD,∃ x,p=endD x∧x.1∈ts.map (·.1):=fun p hp=>by
    obtain ⟨x,hx,rfl⟩:=List.mem_map.mp hp
    exact ⟨x,rfl,zat4 hx⟩
  obtain ⟨L,hL⟩:∃ L,L=(zz7 ts).map endD:=⟨_,rfl⟩
  have lL:L.length=(zz7 ts).length:=by rw [hL,List.length_map]
  rw [← hL] at eL
  have hfa:(m a).isSome=true:=by obtain ⟨xs,e,_⟩:=hf; rw [e]; rfl
  simp [zl7]
  refine ⟨ts,rfl,n6,fun c m1 hc kn1 hm1=>?_⟩
  have ca:c≠a:=fun e=>by rw [e] at hc; rw [hc] at hfa; cases hfa
  have hf1:=hf.kn kn1
  have kp1:Kp a m m1:=kn1.kp
  rw [← hL] at hm1
  simp [zx7,hm1]
  refine zf6 (by omega) (by omega) hf1 fun k m2 k0 k1 hf2 kp2=>?_
  have hm2:=kp2.get ca hm1
  have kp2:=kp1.trans kp2
  simp [zw8,hm2]
  refine zaa2 eL k0 (by omega) ?_
  rintro _ ⟨x,rfl,hx⟩
  simp [zv1,hm2]
  refine zf6 (by omega) (by omega) hf2 fun r m3 r0 r1 hf3 kp3=>?_
  have hm3:=kp3.get ca hm2
  have kp3:=kp2.trans kp3
  obtain ⟨j,ej,hj⟩:=zaH3 (n:=L.length) (x:=k + 1 + r) (by omega)
  refine ⟨L,hm3,by intro z; omega,?_⟩
  rw [ej]
  refine ⟨L,hm3,?_⟩
  refine zaa2 eL (by omega) (by omega) ?_
  rintro _ ⟨y,rfl,hy⟩
  obtain ⟨x0,x1,x2⟩:=zaR3 ht hx
  obtain ⟨y0,y1,y2⟩:=zaR3 ht hy
  simp [zv2]
  refine zav3 nm ht hx ?_
  simp [zv9]
  refine zav3 nm ht hy ?_
  obtain ⟨X,eX⟩:∃ X,X=tmP ts ps x:=⟨_,rfl⟩
  obtain ⟨Y,eY⟩:∃ Y,Y=tmP ts ps y:=⟨_,rfl⟩
  rw [← eX] at x0 x1 x2 ⊢
  rw [← eY] at y0 y1 y2 ⊢
  have fin:∀ (n:Int×Int) o7 o8 o9 o10 o11 m',0 < n.2→Bd 2000 n.1→Bd 2000 n.2→Feeds m' a→Kp a m m'→zh8 (EN R) [some (.cel a),some (.dat (TH ts)),some (.dat (.tuple ps)),some (.cel c),some (I k),some (.dat (endD x)),some (.dat (endD y)),o7,o8,o9,o10,o11,some (.dat (fq n))] m':=fun n o7 o8 o9 o10 o11 m' n0 n1 n2 hf' kp'=>by
    simp [zh8]
    refine zf6 (by decide) (by decide) hf' fun q m4 q0 q1 hf4 kp4=>?_
    simp [PyData.eqv,PyData.canLay0,PyData.depth,sz]
    exact h (.gap x y n _) m4 ⟨hx,hy,n0,n1,n2⟩ hf4 (kp'.trans kp4)
  have last:∀ (t:Int) (way:Int) m',Bd 1700 t→Feeds m' a→Kp a m m'→zm1 (EN R) [some (.cel a),some (.dat (TH ts)),some (.dat (.tuple ps)),some (.cel c),some (I k),some (.dat (endD x)),some (.dat (endD y)),some (.dat (fq X)),some (.dat (fq Y)),some (I t),some (I (X.2 * Y.2)),some (I way),none] m':=fun t way m' bt hf' kp'=>by
    have bb:Bd 1700 (X.2 * Y.2):=(x2.mul y2).mono (by decide)
    have pb:0 < X.2 * Y.2:=Int.mul_pos x0 y0
    obtain ⟨B,eB⟩:∃ B,B=X.2 * Y.2:=⟨_,rfl⟩
    rw [← eB] at bb pb ⊢
    simp [zm1]
    refine zT7 pb bt bb fun n n0 n1 n2=>?_
    have B0:zm3 { nx:=zh8 (EN R),rt:=R } [some (.cel a),some (.dat (TH ts)),some (.dat (.tuple ps)),some (.cel c),some (I k),some (.dat (endD x)),some (.dat (endD y)),some (.dat (fq X)),some (.dat (fq Y)),some (I t),some (I B),some (I way),some (.dat (fq n))] m':=by
      simp [zm3,sz]
      refine zf6 (by decide) (by decide) hf' fun q m4 q0 q1 hf4 kp4=>?_
      refine zaa2 (P:=fun p=>∃ i:Int,p=.int i∧-2000000≤i∧i≤2000000) (by simp) q0 q1 ?_
      rintro _ ⟨i,rfl,i1,i2⟩
      simp [zp4,sz]
      refine zf6 (by decide) (by decide) hf4 fun q' m5 q0' q1' hf5 kp5=>?_
      refine zaa2 (P:=fun p=>∃ i:Int,p=.int i∧0 < i∧i≤2000000) (by simp) q0' q1' ?_
      rintro _ ⟨i',rfl,i1',i2'⟩
      exact zT7 i1' (zaw2 i1 i2) (zaw2 (by omega) i2') fun n' n0' n1' n2'=>fin n' _ _ _ _ _ m5 n0' n1' n2' hf5 (kp'.trans (kp4.trans kp5))
    have F0:=fin n (some (.dat (fq X))) (some (.dat (fq Y))) (some (I t)) (some (I B)) (some (I way)) m' n0 n1 n2 hf' kp'
    refine zbb6 (decide (way=2)) (decide (999999 < (if n.1 < 0 then -n.1 else n.1))) (decide (999999 < n.2)) (fun Q q=>?_) (fun Q q=>?_) (fun Q q=>?_) B0 F0
    · simp [PyData.eqv,PyData.canLay0,PyData.depth]
      by_cases c:way=2
      · rw [decide_eq_true c] at q; exact .inr ⟨c,q⟩
      · rw [decide_eq_false c] at q; exact .inl ⟨c,q⟩
    · simp
      by_cases c:999999 < (if n.1 < 0 then -n.1 else n.1)
      · rw [decide_eq_true c] at q; exact .inr ⟨c,q⟩
      · rw [decide_eq_false c] at q; exact .inl ⟨Int.not_lt.mp c,q⟩
    · simp
      by_cases c:999999 < n.2
      · rw [decide_eq_true c] at q; exact .inr ⟨c,q⟩
      · rw [decide_eq_false c] at q; exact .inl ⟨Int.not_lt.mp c,q⟩
  simp [zw0]
  refine ⟨x1.mulOk y2 (by decide),y1.mulOk x2 (by decide),?_⟩
  simp [zw9]
  refine ⟨x2.mulOk y2 (by decide),?_⟩
  have bt:Bd 1601 (X.1 * Y.2 - Y.1 * X.2):=(x1.mul y2).sub (y1.mul x2)
  obtain ⟨T,eT⟩:∃ T,T=X.1 * Y.2 - Y.1 * X.2:=⟨_,rfl⟩
  rw [← eT] at bt ⊢
  simp [zw7]
  refine zf6 (by decide) (by decide) hf3 fun way m4 w0 w1 hf4 kp4=>?_
  have kp4:=kp3.trans kp4
  simp [zu5]
  by_cases c1:way < 2
  · refine .inr ⟨c1,sz (by decide),?_⟩
    refine zf6 (by decide) (by decide) hf4 fun q m5 q0 q1 hf5 kp5=>?_
    refine zaa2 (P:=fun p=>∃ i:Int,p=.int i∧Bd 1601 i) ?_ q0 q1 ?_
    · intro p hp
      simp at hp
      rcases hp with rfl | rfl | rfl
      · exact ⟨0,rfl,Bd.mono (m:=2) (by unfold Bd; decide) (by decide)⟩
      · exact ⟨1,rfl,Bd.mono (m:=2) (by unfold Bd; decide) (by decide)⟩
      · exact ⟨-1,rfl,Bd.mono (m:=2) (by unfold Bd; decide) (by decide)⟩
    · rintro _ ⟨i,rfl,bi⟩
      exact last (T + i) way m5 ((bt.add bi).mono (by decide)) hf5 (kp4.trans kp5)
  · exact .inl ⟨by omega,last T way m4 (bt.mono (by decide)) hf4 kp4⟩
theorem zan7:∀ ds m R,ds.length=zn3.length→zs8 ds m R→zC4 (EN R) (zb4 zM2 ds) m:=by
  rintro ds m R hl ⟨a,ts,ps,n,rfl,nm,ht,n0,n1,hf,h⟩
  have n6:ts.length≤6:=by simpa using nm.2.1
  have hfa:(m a).isSome=true:=by obtain ⟨xs,e,_⟩:=hf; rw [e]; rfl
  simp [zC4]
  refine ⟨ts,rfl,n6,fun e m1 he kn1 hm1=>?_⟩
  have ea:e≠a:=fun z=>by rw [z] at he; rw [he] at hfa; cases hfa
  have hf1:=hf.kn kn1
  have hfa1:(m1 a).isSome=true:=by obtain ⟨xs,e,_⟩:=hf1; rw [e]; rfl
  simp [zP9,sz]
  intro c hc
  have ca:c≠a:=fun z=>by rw [z] at hc; rw [hc] at hfa1; cases hfa1
  have ce:c≠e:=fun z=>by rw [z,hm1] at hc; cases hc
  have kn2:Kn m1 (updM m1 c (.l [])):=.new hc
  have hf2:=hf1.kn kn2
  have hm2:=kn2.get hm1
  obtain ⟨m2,em2⟩:∃ m2,m2=updM m1 c (.l []):=⟨_,rfl⟩
  have hc2:m2 c=some (.l []):=by rw [em2,zd0]
  rw [← em2] at hf2 hm2 ⊢
  simp [zO7]
  refine zf6 (by omega) (by omega) hf2 fun r m3 r0 r1 hf3 kp3=>?_
  obtain ⟨rn,rfl⟩:∃ rn:Nat,r=rn:=⟨r.toNat,by omega⟩
  refine ⟨_,rfl,by omega,by omega,?_⟩
  rw [Int.toNat_natCast]
  refine zu4 (N:=rn) (fun i d m'=>(∃ o6,d=[some (.cel a),some (.dat (TH ts)),some (.dat (.tuple ps)),some (I n),some (.cel e),some (.cel c),o6])∧Feeds m' a∧m' e=some (.l ((zz7 ts).map endD))∧∃ ss:List Say,m' c=some (.l (ss.map SayD))∧ss.length≤i∧∀ s∈ss,zU7 ts s) ?_ ?_ rn 0 (by omega) _ _ ⟨⟨_,rfl⟩,hf3,kp3.get ea hm2,[],kp3.get ca hc2,by simp,by simp⟩
  · rintro d m4 ⟨⟨o6,rfl⟩,hf4,_,ss,hs,hl,ok⟩
    simp [zQ3,hs,sz]
    exact h ss m4 (by omega) ok hf4
  · rintro i d m4 K hi ⟨⟨o6,rfl⟩,hf4,he4,ss,hs,hl,ok⟩ hk
    have q1:(ss.map SayD).length < sizeLine:=Nat.lt_of_lt_of_le (show _ < 1000 by rw [List.length_map]; omega) (sz (by decide))
    -- what an item does
    have add:∀ s m5,zU7 ts s→Feeds m5 a→Kp a m4 m5→K [some (.cel a),some (.dat (TH ts)),some (.dat (.tuple ps)),some (I n),some (.cel e),some (.cel c),some (I i)] (updM m5 c (.l (ss.map SayD++[SayD s]))):=fun s m5 os hf5 kp5=>by
      refine hk _ _ ⟨⟨_,rfl⟩,?_,?_,ss++[s],by rw [zd0,List.map_append]; rfl,by simp; omega,fun z hz=>?_⟩
      · obtain ⟨xs,q,f⟩:=hf5
        exact ⟨xs,by rw [zi7 (Ne.symm ca)]; exact q,f⟩
      · rw [zi7 (Ne.symm ce)]
        exact kp5.get ea he4
      · rcases List.mem_append.mp hz with hz | hz
        · exact ok z hz
        · cases List.mem_singleton.mp hz
          exact os
    have skip:∀ m5,Feeds m5 a→Kp a m4 m5→K [some (.cel a),some (.dat (TH ts)),some (.dat (.tuple ps)),some (I n),some (.cel e),some (.cel c),some (I i)] m5:=fun m5 hf5 kp5=>hk _ _ ⟨⟨_,rfl⟩,hf5,kp5.get ea he4,ss,kp5.get ca hs,by omega,ok⟩
    have gap:∀ m5,Feeds m5 a→Kp a m4 m5→1 < (zz7 ts).length→zg0 [.cel a,.dat (TH ts),.dat (.tuple ps)] m5 fun x m6=>∃ xs p,x=.dat p∧m6 c=some (.l xs)∧xs.length < sizeLine∧K [some (.cel a),some (.dat (TH ts)),some (.dat (.tuple ps)),some (I n),some (.cel e),some (.cel c),some (I i)] (updM m6 c (.l (xs++[p]))):=fun m5 hf5 kp5 c1 =>
      ⟨a,ts,ps,rfl,nm,ht,by omega,hf5,fun s m6 os hf6 kp6=>⟨_,_,rfl,(kp5.trans kp6).get ca hs,q1,add s m6 os hf6 (kp5.trans kp6)⟩⟩
    have le:((List.map endD (zz7 ts)).length:Int)=((zz7 ts).length:Int):=by rw [List.length_map]
    simp [zL2,hs]
    by_cases c0:1 < ts.length
    · refine .inr ⟨by omega,zf6 (by decide) (by decide) hf4 fun q m5 q0 q2 hf5 kp5=>?_⟩
      simp
      by_cases c2:q < 3
      · refine .inr ⟨c2,⟨_,kp5.get ca hs⟩,a,ts,ps,rfl,nm,ht,by omega,hf5,fun s m6 os hf6 kp6=>⟨_,_,rfl,(kp5.trans kp6).get ca hs,q1,add s m6 os hf6 (kp5.trans kp6)⟩⟩
      · refine .inl ⟨by omega,_,kp5.get ea he4,?_⟩
        by_cases c1:1 < (zz7 ts).length
        · exact .inr ⟨by rw [le]; omega,⟨_,kp5.get ca hs⟩,gap m5 hf5 kp5 c1⟩
        · exact .inl ⟨by rw [le]; omega,skip m5 hf5 kp5⟩
    · refine .inl ⟨by omega,_,he4,?_⟩
      by_cases c1:1 < (zz7 ts).length
      · exact .inr ⟨by rw [le]; omega,gap m4 hf4 .refl c1⟩
      · exact .inl ⟨by rw [le]; omega,skip m4 hf4 .refl⟩
end K14
set_option Elab.async false
set_option linter.all false
set_option maxRecDepth 100000
set_option maxHeartbeats 4000000
namespace K14
open PySem PySem.Spec PyProof.Rows L2 DL K01
theorem zaY6:∀ ds m R,ds.length=zZ4.length→zX6 ds m R→zaF9 (EN R) (zb4 zaG6 ds) m:=fun _ _ _ _ h=>h.elim
theorem zaz1:∀ ds m R,ds.length=zw1.length→zt6 ds m R→zY8 (EN R) (zb4 zX4 ds) m:=fun _ _ _ _ h=>h.elim
theorem zag5:∀ ds m R,ds.length=zk8.length→zo8 ds m R→zI0 (EN R) (zb4 zH0 ds) m:=fun _ _ _ _ h=>h.elim
theorem zaL7:∀ ds m R,ds.length=zL9.length→zC7 ds m R→zag0 (EN R) (zb4 zap3 ds) m:=by
  rintro ds m R hl ⟨ts,ps,a,b,ws,rfl,nm,ht,hs,h⟩
  simp [zag0,SayD]
  refine zas0 nm ht hs.1 hs.2 ?_
  exact ⟨ws,rfl,h⟩
theorem zau3 {ts:List (Str×Bool)} {ps:List PyData} {m:Mu} {Q:List PyData→Mu→Prop} (nm:Nm (ts.map (·.1))) (ht:TmAll ts ps):∀ (todo:List Say) (i:Nat) (acc:List PyData) (o0 o1:Option D),acc.length + todo.length≤40→(∀ s∈todo,zU7 ts s∧zC2 s=true)→Q (acc++(brkF ts ps i todo).map .int) m →
    zm5 (gT 2 (gNs (gN 0) (gNs (gN 1) gN0))) (zay3 (dTst (zb6 3 zC7 (za3 (dVar 3) (za3 (dVar 1) (za3 (dVar 2) dNil)))))) (dVar 0) ((todo.zipIdx i).map fun z=>.dat (.tuple [.int z.2,SayD z.1])) acc [o0,o1,some (.dat (.tuple ps)),some (.dat (TH ts))] m Q
  | [],i,acc,o0,o1,_,_,h=>by simpa [zm5,brkF] using h
  | s :: todo,i,acc,o0,o1,hl,hs,h=>by
    rw [List.length_cons] at hl
    have ih:=zau3 (m:=m) (Q:=Q) nm ht todo (i + 1)
    simp only [List.zipIdx_cons,List.map_cons,zm5]
    obtain ⟨K,hK⟩:∃ K,K=zm5 (gT 2 (gNs (gN 0) (gNs (gN 1) gN0))) (zay3 (dTst (zb6 3 zC7 (za3 (dVar 3) (za3 (dVar 1) (za3 (dVar 2) dNil)))))) (dVar 0) ((todo.zipIdx (i + 1)).map fun z=>.dat (.tuple [.int z.2,SayD z.1])):=⟨_,rfl⟩
    rw [← hK] at ih ⊢
    have hs':∀ s∈todo,zU7 ts s∧zC2 s=true:=fun z hz=>hs z (List.mem_cons_of_mem _ hz)
    obtain ⟨os,ms⟩:=hs s List.mem_cons_self
    cases s with
    | gap x y n s=>simp [zC2] at ms
    | may a b ws =>
      simp
      refine ⟨ts,ps,a,b,ws,rfl,nm,ht,os,?_⟩
      cases c:so ts ps (.may a b ws) with
      | true =>
        refine .inr ⟨rfl,ih acc _ _ (by omega) hs' ?_⟩
        simpa [brkF,c] using h
      | false =>
        refine .inl ⟨rfl,Nat.lt_of_lt_of_le (show acc.length < 1000 by omega) (sz (by decide)),ih _ _ _ (by simp; omega) hs' ?_⟩
        simpa [brkF,c] using h
theorem zaD5:∀ ds m R,ds.length=zD8.length→zB2 ds m R→zV7 (EN R) (zb4 zaj0 ds) m:=by
  rintro ds m R hl ⟨ts,ps,ss,rfl,nm,ht,hs,h40,h⟩
  simp [zV7,zac4,-List.map_map,zg4]
  have q:=zau3 (m:=m) (Q:=fun ps m2=>(EN R).rt (.dat (.list ps)) m2) nm ht ss 0 [] none none (by simpa using h40) hs h
  have e:numD (ss.map SayD)=(ss.zipIdx 0).map fun z=>D.dat (.tuple [.int z.2,SayD z.1]):=by
    unfold numD
    rw [List.zipIdx_map,List.map_map]
    rfl
  rw [e]
  exact q
theorem zaA7 {k z:Int} (hk:0 < k):sgn (k * z)=sgn z:=by
  rcases Int.lt_trichotomy z 0 with h | h | h
  · have:=Int.mul_neg_of_pos_of_neg hk h
    unfold sgn
    rw [if_neg (by omega),if_pos this,if_neg (by omega),if_pos h]
  · subst h; simp
  · have:=Int.mul_pos hk h
    unfold sgn
    rw [if_pos this,if_neg (by omega),if_pos h,if_neg (by omega)]
theorem zau6 {o e x:Int×Int} (h:OM o e) (hx:0 < x.2):0 < mbot o e x:=Int.mul_pos (Int.mul_pos hx h.b) h.c
theorem zN9 {o e x:Int×Int} (h:OM o e) (hx:0 < x.2):∃ g:Int,0 < g∧mtop o e x=g * (mvq o e x).1∧mbot o e x=g * (mvq o e x).2∧0 < (mvq o e x).2:=by
  have hb:=zau6 h hx
  have g0:=zah1 (t:=mtop o e x) (b:=mbot o e x) (by omega)
  have d1:((Int.gcd (mtop o e x) (mbot o e x):Nat):Int)∣mtop o e x:=Int.gcd_dvd_left ..
  have d2:((Int.gcd (mtop o e x) (mbot o e x):Nat):Int)∣mbot o e x:=Int.gcd_dvd_right ..
  exact ⟨_,g0,(Int.mul_ediv_cancel' d1).symm,(Int.mul_ediv_cancel' d2).symm,(zaC3 g0 d2).mpr hb⟩
theorem zan5 {o e x y:Int×Int} (h:OM o e) (hx:0 < x.2) (hy:0 < y.2):stn (mvq o e x) (mvq o e y)=stn x y:=by
  obtain ⟨g,g0,a1,a2,a3⟩:=zN9 h hx
  obtain ⟨k,k0,b1,b2,b3⟩:=zN9 h hy
  unfold stn
  rw [← zaA7 (k:=g * k) (Int.mul_pos g0 k0),← zaA7 (k:=o.1 * o.2 * e.2 * e.2) (z:=x.1 * y.2 - y.1 * x.2) (Int.mul_pos (Int.mul_pos (Int.mul_pos h.a h.b) h.c) h.c)]
  congr 1
  have e1:g * k * ((mvq o e x).1 * (mvq o e y).2 - (mvq o e y).1 * (mvq o e x).2)=mtop o e x * mbot o e y - mtop o e y * mbot o e x:=by
    rw [a1,a2,b1,b2]
    grind
  rw [e1]
  unfold mtop mbot
  grind
theorem zaV4 {o e:Int×Int} {n:Nat} {p:PyData} {k:Bool} {x y:Int×Int} (h:OM o e) (t:Tm p k x y) (b:bdP n p) (hn:n≤700):Tm (mvP o e p) k (mvq o e x) (mvq o e y)∧bdP (n + 41) (mvP o e p):=by
  have en:=zL6 t
  obtain ⟨g,g0,a1,a2,a3⟩:=zN9 h t.px
  obtain ⟨j,j0,b1,b2,b3⟩:=zN9 h t.py
  unfold bdP at b
  rw [en] at b
  obtain ⟨u1,u2,u3,u4⟩:=b
  have bb:∀ z:Int×Int,Bd n z.1→Bd n z.2→Bd (n + 41) (mtop o e z)∧Bd (n + 41) (mbot o e z):=fun z z1 z2=>by
    have q1:Bd (n + 40) (z.1 * o.1 * e.2):=((z1.mul h.d1).mul h.d4).mono (by omega)
    have q2:Bd (n + 40) (e.1 * z.2 * o.2):=((h.d3.mul z2).mul h.d2).mono (by omega)
    exact ⟨(q1.add q2).mono (by omega),((z2.mul h.d2).mul h.d4).mono (by omega)⟩
  obtain ⟨v1,v2⟩:=bb x u1 u2
  obtain ⟨v3,v4⟩:=bb y u3 u4
  have w1:=Bd.part a1 g0 v1
  have w2:=Bd.part a2 g0 v2
  have w3:=Bd.part b1 j0 v3
  have w4:=Bd.part b2 j0 v4
  have T:Tm (mvP o e p) k (mvq o e x) (mvq o e y):=by
    refine ⟨?_,a3,b3,fun hk=>?_,fun hk=>by rw [t.pt hk],w1.mono (by omega),w2.mono (by omega),w3.mono (by omega),w4.mono (by omega)⟩
    · unfold mvP
      rw [en]
    · have s1:stn x y < 0:=by
        rw [zH4,if_pos (t.st hk)]
        decide
      rw [← zan5 h t.px t.py,zH4] at s1
      by_cases c:(mvq o e x).1 * (mvq o e y).2 < (mvq o e y).1 * (mvq o e x).2
      · exact c
      · rw [if_neg c] at s1
        split at s1 <;> omega
  refine ⟨T,?_⟩
  unfold bdP
  rw [zL6 T]
  exact ⟨w1,w2,w3,w4⟩
theorem zaS4 {o e:Int×Int} {n:Nat} {p q:PyData} {k l:Bool} {x y z w:Int×Int} (h:OM o e) (t:Tm p k x y) (u:Tm q l z w) (b:bdP n p) (c:bdP n q) (hn:n≤700):wdP (mvP o e p) (mvP o e q)=wdP p q:=by
  rw [zam4 (zaV4 h t b hn).1 (zaV4 h u c hn).1,zam4 t u]
  unfold wd
  rw [zan5 h t.py u.px,zan5 h t.px u.py,zan5 h t.px u.px,zan5 h t.py u.py]
theorem TmAll.mem:∀ {ts:List (Str×Bool)} {ps:List PyData},TmAll ts ps→∀ p∈ps,∃ k x y,Tm p k x y
  | t :: ts,q :: ps,h,p,hp=>by
    rcases List.mem_cons.mp hp with rfl | hp
    · obtain ⟨x,y,g⟩:=h.1
      exact ⟨_,x,y,g⟩
    · exact TmAll.mem h.2 p hp
  | [],[],_,_,hp=>nomatch hp
  | [],_ :: _,h,_,_=>h.elim
  | _ :: _,[],h,_,_=>h.elim
theorem TmAll.mv {o e:Int×Int} {n:Nat} (om:OM o e) (hn:n≤700):∀ {ts:List (Str×Bool)} {ps:List PyData},TmAll ts ps→(∀ p∈ps,bdP n p)→TmAll ts (ps.map (mvP o e))∧∀ q∈ps.map (mvP o e),bdP (n + 41) q
  | t :: ts,q :: ps,h,b=>by
    obtain ⟨h1,h2⟩:=TmAll.mv om hn h.2 fun p hp=>b p (List.mem_cons_of_mem _ hp)
    obtain ⟨x,y,g⟩:=h.1
    obtain ⟨g1,g2⟩:=zaV4 om g (b q List.mem_cons_self) hn
    refine ⟨⟨⟨_,_,g1⟩,h1⟩,fun z hz=>?_⟩
    rcases List.mem_cons.mp hz with rfl | hz
    · exact g2
    · exact h2 z hz
  | [],[],_,_=>⟨True.intro,fun z hz=>nomatch hz⟩
  | [],_ :: _,h,_=>h.elim
  | _ :: _,[],h,_=>h.elim
theorem zaP9 {o e:Int×Int} {n:Nat} (om:OM o e) (hn:n≤700):∀ (L:List (Str×PyData)),(∀ z∈L,(∃ k x y,Tm z.2 k x y)∧bdP n z.2)→tbl (L.map fun z=>(z.1,mvP o e z.2))=tbl L
  | [],_=>rfl
  | (a,p) :: r,h=>by
    obtain ⟨⟨k,x,y,t⟩,b⟩:=h (a,p) List.mem_cons_self
    simp only [List.map_cons,tbl,zaP9 om hn r fun z hz=>h z (List.mem_cons_of_mem _ hz),List.map_map]
    congr 1
    refine List.map_congr_left fun z hz=>?_
    obtain ⟨⟨l,z1,z2,u⟩,c⟩:=h z (List.mem_cons_of_mem _ hz)
    simp only [Function.comp]
    rw [zaS4 om t u b c hn]
theorem zai6 {o e:Int×Int} {n:Nat} {ts:List (Str×Bool)} {ps:List PyData} (om:OM o e) (hn:n≤700) (ht:TmAll ts ps) (hb:∀ p∈ps,bdP n p):tbl ((ts.map (·.1)).zip (ps.map (mvP o e)))=tbl ((ts.map (·.1)).zip ps):=by
  rw [← zaP9 om hn ((ts.map (·.1)).zip ps) fun z hz=>⟨ht.mem _ (List.of_mem_zip hz).2,hb _ (List.of_mem_zip hz).2⟩]
  rw [List.zip_map_right]
  rfl
theorem zbl1 {o e:Int×Int} {n:Nat} {ts:List (Str×Bool)} {ps:List PyData} {s:Say} (om:OM o e) (hn:n≤700) (ht:TmAll ts ps) (hb:∀ p∈ps,bdP n p) (ok:zU7 ts s) (ms:zC2 s=true):so ts (ps.map (mvP o e)) s=so ts ps s:=by
  cases s with
  | gap=>simp [zC2] at ms
  | may a b ws =>
    obtain ⟨k,x,y,e1,t1,_,_⟩:=zM1 ht ok.1
    obtain ⟨l,z,w,e2,t2,_,_⟩:=zM1 ht ok.2
    have f:∀ c,c∈ts.map (·.1)→FT ts (ps.map (mvP o e)) c=mvP o e (FT ts ps c):=fun c hc=>by
      obtain ⟨_,_,_,e3,_,_,_⟩:=zM1 ht hc
      show (ps.map (mvP o e)).getD _ _=_
      rw [List.getD_eq_getElem?_getD,List.getElem?_map,e3]
      rfl
    simp only [so]
    rw [f a ok.1,f b ok.2,zaS4 om t1 t2 (hb _ (List.mem_of_getElem? e1)) (hb _ (List.mem_of_getElem? e2)) hn]
theorem zaQ5 {o e:Int×Int} {n:Nat} {ts:List (Str×Bool)} {ps:List PyData} (om:OM o e) (hn:n≤700) (ht:TmAll ts ps) (hb:∀ p∈ps,bdP n p):∀ (ss:List Say) (i:Nat),(∀ s∈ss,zU7 ts s∧zC2 s=true)→brkF ts (ps.map (mvP o e)) i ss=brkF ts ps i ss
  | [],i,_=>rfl
  | s :: ss,i,h=>by
    simp only [brkF,zbl1 om hn ht hb (h s List.mem_cons_self).1 (h s List.mem_cons_self).2,zaQ5 om hn ht hb ss (i + 1) fun z hz=>h z (List.mem_cons_of_mem _ hz)]
end K14
set_option Elab.async false
set_option linter.all false
set_option maxRecDepth 100000
set_option maxHeartbeats 4000000
namespace K14
open PySem PySem.Spec PyProof.Rows L2 DL K01
theorem zaA0:∀ ds m R,ds.length=zx5.length→zt7 ds m R→zQ9 (EN R) (zb4 zaa4 ds) m:=by
  rintro ds m R hl ⟨a,b,c,d,rfl,hb,hd,ba,bb,bc,bd,h⟩
  have h1:=Int.mul_pos hb hd
  have k1:=(bb.mul bd).mono (show 1800≤2000 by decide)
  simp [zQ9,zg5,atI,ixN,I]
  refine ⟨ba.mulOk bc (by decide),bb.mulOk bd (by decide),_,_,⟨rfl,rfl⟩,by omega,k1,?_⟩
  rw [if_pos h1]
  exact h
theorem zX0 {o e x:Int×Int} {m:Mu} {R:DK} (om:OM o e) (hx:0 < x.2) (b1:Bd 700 x.1) (b2:Bd 700 x.2) (h:R (.dat (fq (mvq o e x))) m):zt7 [.dat (fq x),.dat (fq o)] m fun y m1=>zR6 [y,.dat (fq e)] m1 R:=by
  refine ⟨x.1,x.2,o.1,o.2,rfl,hx,om.b,b1.mono (by decide),b2.mono (by decide),om.d1.mono (by decide),om.d2.mono (by decide),?_⟩
  obtain ⟨a,d,g,e1,g0,e2,e3,d0⟩:=zI4 (t:=x.1 * o.1) (b:=x.2 * o.2) (Int.mul_pos hx om.b)
  rw [e1]
  have c1:Bd 900 a:=(Bd.part e2 g0 (b1.mul om.d1)).mono (by decide)
  have c2:Bd 900 d:=(Bd.part e3 g0 (b2.mul om.d2)).mono (by decide)
  refine ⟨a,d,e.1,e.2,rfl,d0,om.c,c1,c2,om.d3.mono (by decide),om.d4.mono (by decide),?_⟩
  have q:fr (a * e.2 + e.1 * d) (d * e.2)=fq (mvq o e x):=by
    rw [← zaO6 (k:=g) g0]
    have s1:g * (a * e.2 + e.1 * d)=mtop o e x:=by
      unfold mtop
      rw [e2,show e.1 * x.2 * o.2=e.1 * (x.2 * o.2) by ac_rfl,e3]
      grind
    have s2:g * (d * e.2)=mbot o e x:=by
      unfold mbot
      rw [e3]
      grind
    rw [s1,s2]
    rfl
  rw [q]
  exact h
theorem zO5:∀ ds m R,ds.length=ze7.length→zd7 ds m R→zl9 (EN R) (zb4 zq9 ds) m:=by
  rintro ds m R hl ⟨x,o,e,rfl,hx,b1,b2,om,h⟩
  simp [zl9]
  refine ⟨b1.mulOk om.d1 (by decide),(b1.mul om.d1).mulOk om.d4 (by decide),om.d3.mulOk b2 (by decide),(om.d3.mul b2).mulOk om.d2 (by decide),?_⟩
  simp [zv5]
  refine ⟨b2.mulOk om.d2 (by decide),(b2.mul om.d2).mulOk om.d4 (by decide),?_⟩
  exact ⟨_,_,rfl,zau6 om hx,((b2.mul om.d2).mul om.d4).mono (by decide),h⟩
theorem zW9 {o e x:Int×Int} {m:Mu} {R:DK} (om:OM o e) (hx:0 < x.2) (b1:Bd 700 x.1) (b2:Bd 700 x.2) (h:R (.dat (fq (mvq o e x))) m):zd7 [.dat (fq x),.dat (fq o),.dat (fq e)] m R:=⟨x,o,e,rfl,hx,b1,b2,om,h⟩
theorem zaS7 {o e:Int×Int} {p:PyData} {k:Bool} {x y:Int×Int} (t:Tm p k x y):mvP o e p=if k then .tuple [fq (mvq o e x),fq (mvq o e y)] else fq (mvq o e x):=by
  unfold mvP
  rw [zL6 t]
theorem zbf4 {n:Nat} {p:PyData} {k:Bool} {x y:Int×Int} (t:Tm p k x y) (b:bdP n p):Bd n x.1∧Bd n x.2∧Bd n y.1∧Bd n y.2:=by
  unfold bdP at b
  rw [zL6 t] at b
  exact b
theorem zaq2 {m0 m:Mu} {c:Addr} {x:Cel} (hc:m0 c=none) (hk:Kn m0 m):Kn m0 (updM m c x):=fun b hb=>by
  rw [zi7 fun z=>by rw [z,hc] at hb; cases hb]
  exact hk b hb
theorem zae5 {o e:Int×Int} {c:Addr} {th te:Option D} {E:Ends2} {L:List PyData} {m0:Mu} (om:OM o e) (hc:m0 c=none):∀ (ts:List (Str×Bool)) (ps acc:List PyData) (o5 o6 o7 o8 o9:Option D) (m:Mu),acc.length + ts.length≤40→TmAll ts ps→(∀ p∈ps,bdP 700 p)→Kn m0 m→m c=some (.l acc)→acc++ps.map (mvP o e)=L→(∀ o5 o6 o7 o8 o9 m',Kn m0 m'→m' c=some (.l L)→E.nx [th,te,some (.dat (fq o)),some (.dat (fq e)),some (.cel c),o5,o6,o7,o8,o9] m') →
    zM5 (gT 2 (gNs (gT 2 (gNs (gN 5) (gNs (gN 6) gN0))) (gNs (gN 7) gN0))) zB3 E (((ts.map fun t=>PyData.tuple [.str t.1,.str (kd t.2)]).zip ps).map fun z=>.dat (.tuple [z.1,z.2])) [th,te,some (.dat (fq o)),some (.dat (fq e)),some (.cel c),o5,o6,o7,o8,o9] m
  | [],[],acc,o5,o6,o7,o8,o9,m,_,_,_,hk,hm,el,h=>by
    simp at el
    subst el
    simpa [zM5] using h _ _ _ _ _ m hk hm
  | t :: ts,p :: ps,acc,o5,o6,o7,o8,o9,m,hl,ht,hb,hk,hm,el,h=>by
    rw [List.length_cons] at hl
    have ih:=zae5 (th:=th) (te:=te) (E:=E) (L:=L) om hc ts ps
    simp only [List.map_cons,List.zip_cons_cons,zM5]
    obtain ⟨K,hK⟩:∃ K,K=zM5 (gT 2 (gNs (gT 2 (gNs (gN 5) (gNs (gN 6) gN0))) (gNs (gN 7) gN0))) zB3 E (((ts.map fun t=>PyData.tuple [.str t.1,.str (kd t.2)]).zip ps).map fun z=>.dat (.tuple [z.1,z.2])):=⟨_,rfl⟩
    rw [← hK] at ih ⊢
    have q1:acc.length < sizeLine:=Nat.lt_of_lt_of_le (show acc.length < 1000 by omega) (sz (by decide))
    obtain ⟨⟨x,y,tm⟩,ht2⟩:=ht
    obtain ⟨u1,u2,u3,u4⟩:=zbf4 tm (hb p List.mem_cons_self)
    have em:=zaS7 (o:=o) (e:=e) tm
    have ep:=tm.eq
    have go:=ih (acc++[mvP o e p])
    obtain ⟨z,k⟩:=t
    cases k with
    | false =>
      rw [show (if (z,false).2=true then PyData.tuple [fq (mvq o e x),fq (mvq o e y)] else fq (mvq o e x))=fq (mvq o e x) from rfl] at em
      rw [show (if (z,false).2=true then PyData.tuple [fq x,fq y] else fq x)=fq x from rfl] at ep
      rw [em] at go
      subst ep
      simp [zB3,kd,sz]
      simp [zI3,zg4,zm5]
      refine zX0 om tm.px u1 u2 ?_
      refine ⟨_,rfl,sz (by decide),?_⟩
      simp [zH2,hm,q1]
      refine go _ _ _ _ _ _ (by simp; omega) ht2 (fun q hq=>hb q (List.mem_cons_of_mem _ hq)) (zaq2 hc hk) zd0 ?_ h
      rw [← el,List.map_cons,em]
      simp
    | true =>
      have hd:¬ (kd true=Str.ofString "point"):=by decide +kernel
      rw [show (if (z,true).2=true then PyData.tuple [fq (mvq o e x),fq (mvq o e y)] else fq (mvq o e x))=.tuple [fq (mvq o e x),fq (mvq o e y)] from rfl] at em
      rw [show (if (z,true).2=true then PyData.tuple [fq x,fq y] else fq x)=.tuple [fq x,fq y] from rfl] at ep
      rw [em] at go
      subst ep
      simp [zB3,hd]
      simp [zI3,zg4,zm5]
      refine zX0 om tm.px u1 u2 ?_
      refine ⟨_,rfl,sz (by decide),?_⟩
      refine zX0 om tm.py u3 u4 ?_
      refine ⟨_,rfl,sz (by decide),?_⟩
      simp [zH2,hm,q1,hd]
      refine go _ _ _ _ _ _ (by simp; omega) ht2 (fun q hq=>hb q (List.mem_cons_of_mem _ hq)) (zaq2 hc hk) zd0 ?_ h
      rw [← el,List.map_cons,em]
      simp
  | [],_ :: _,_,_,_,_,_,_,_,_,ht,_,_,_,_,_=>ht.elim
  | _ :: _,[],_,_,_,_,_,_,_,_,ht,_,_,_,_,_=>ht.elim
theorem zaN1:∀ ds m R,ds.length=zE6.length→zy6 ds m R→zai1 (EN R) (zb4 zar2 ds) m:=by
  rintro ds m R hl ⟨ts,ps,o,e,rfl,n6,ht,hb,om,h⟩
  simp [zai1,sz]
  intro c hc
  simp only [zam6,dSeq,dFor,zaO8,dVar]
  refine ⟨_,rfl,_,rfl,_,_,rfl,rfl,?_⟩
  refine zae5 (L:=ps.map (mvP o e)) om hc ts ps [] _ _ _ _ _ _ (by simp; omega) ht hb (.new hc) zd0 rfl fun o5 o6 o7 o8 o9 m' k' hm'=>?_
  simp [zak3]
  exact ⟨_,hm',h m' k'⟩
theorem zR1:∀ ds m R,ds.length=zd5.length→ze5 ds m R→zm6 (EN R) (zb4 zs9 ds) m:=by
  rintro ds m R hl ⟨ts,ps,o,e,rfl,n6,ht,hb,om,h⟩
  have lp:=ht.len
  simp [zm6,sz]
  intro c hc
  simp [zy8]
  refine ⟨by omega,?_⟩
  refine zu4 (N:=ts.length) (fun i d m'=>(∃ o5,d=[some (.dat (TH ts)),some (.dat (.tuple ps)),some (.dat (fq o)),some (.dat (fq e)),some (.cel c),o5])∧Kn m m'∧m' c=some (.l ((ps.take i).map (mvP o e)))) ?_ ?_ ts.length 0 (by omega) _ _ ⟨⟨_,rfl⟩,.new hc,zd0⟩
  · rintro d m1 ⟨⟨o5,rfl⟩,k1,hm1⟩
    rw [List.take_of_length_le (by omega)] at hm1
    simp [zz2]
    exact ⟨_,hm1,h m1 k1⟩
  · rintro i d m1 K hi ⟨⟨o5,rfl⟩,k1,hm1⟩ hk
    have hi2:i < ps.length:=by omega
    have et:=zaz9 (List.getElem?_eq_getElem hi)
    have ep:atI ps (i:Int)=some ps[i]:=zm0 (List.getElem?_eq_getElem hi2)
    obtain ⟨p,x,y,e1,tm⟩:=ht.of (List.getElem?_eq_getElem hi)
    rw [List.getElem?_eq_getElem hi2] at e1
    have e1:=Option.some.inj e1
    rw [e1] at ep
    obtain ⟨u1,u2,u3,u4⟩:=zbf4 tm (hb p (by rw [← e1]; exact List.getElem_mem hi2))
    have em:=zaS7 (o:=o) (e:=e) tm
    have q1:((ps.take i).map (mvP o e)).length < sizeLine:=Nat.lt_of_lt_of_le (show _ < 1000 by rw [List.length_map,List.length_take]; omega) (sz (by decide))
    have go:K [some (.dat (TH ts)),some (.dat (.tuple ps)),some (.dat (fq o)),some (.dat (fq e)),some (.cel c),some (I i)] (updM m1 c (.l ((ps.take i).map (mvP o e)++[mvP o e p]))):=hk _ _ ⟨⟨_,rfl⟩,zaq2 hc k1,by rw [zd0,List.take_succ_eq_append_getElem hi2,List.map_append,e1]; rfl⟩
    obtain ⟨A,eA⟩:∃ A,A=(ps.take i).map (mvP o e):=⟨_,rfl⟩
    rw [← eA] at hm1 q1 go
    obtain ⟨t,et'⟩:∃ t,t=ts[i]:=⟨_,rfl⟩
    rw [← et'] at et tm em
    have epq:=tm.eq
    obtain ⟨z,k⟩:=t
    rw [em] at go
    cases k with
    | false =>
      rw [show (if (z,false).2=true then PyData.tuple [fq (mvq o e x),fq (mvq o e y)] else fq (mvq o e x))=fq (mvq o e x) from rfl] at go
      rw [show (if (z,false).2=true then PyData.tuple [fq x,fq y] else fq x)=fq x from rfl] at epq
      rw [epq] at ep
      simp [zm9]
      refine ⟨_,et,?_⟩
      simp [kd,hm1,ep]
      refine zW9 om tm.px u1 u2 ?_
      exact ⟨_,_,rfl,hm1,q1,go⟩
    | true =>
      have hd:¬ (kd true=Str.ofString "point"):=by decide +kernel
      rw [show (if (z,true).2=true then PyData.tuple [fq (mvq o e x),fq (mvq o e y)] else fq (mvq o e x))=.tuple [fq (mvq o e x),fq (mvq o e y)] from rfl] at go
      rw [show (if (z,true).2=true then PyData.tuple [fq x,fq y] else fq x)=.tuple [fq x,fq y] from rfl] at epq
      rw [epq] at ep
      simp [zm9]
      refine ⟨_,et,?_⟩
      simp [hd,hm1,ep,zg4,zm5]
      refine zW9 om tm.px u1 u2 ?_
      refine ⟨_,rfl,sz (by decide),?_⟩
      refine zW9 om tm.py u3 u4 ?_
      refine ⟨_,rfl,sz (by decide),?_⟩
      simp [hm1,q1]
      exact go
end K14
set_option Elab.async false
set_option linter.all false
set_option maxRecDepth 100000
set_option maxHeartbeats 4000000
namespace K14
open PySem PySem.Spec PyProof.Rows L2 DL K01
def Sh (n d:Nat) (p:PyData):Prop:=p.showable=true∧p.shown.length≤n∧p.depth≤d
theorem Sh.mono {n d n' d':Nat} {p:PyData} (h:Sh n d p) (h1:n≤n') (h2:d≤d'):Sh n' d' p:=⟨h.1,Nat.le_trans h.2.1 h1,Nat.le_trans h.2.2 h2⟩
theorem zaQ2 {n d:Nat}:∀ {ps:List PyData},(∀ p∈ps,Sh n d p)→PyData.showableAll ps=true∧((PyData.shownAll ps).map (·.length)).sum≤n * ps.length∧(PyData.shownAll ps).length=ps.length∧PyData.depthAll ps≤d
  | [],_=>by simp [PyData.showableAll,PyData.shownAll,PyData.depthAll]
  | p :: ps,h=>by
    obtain ⟨q1,q2,q3,q4⟩:=zaQ2 (ps:=ps) fun y hy=>h y (List.mem_cons_of_mem _ hy)
    obtain ⟨p1,p2,p3⟩:=h p List.mem_cons_self
    refine ⟨?_,?_,?_,?_⟩
    · simp only [PyData.showableAll,p1,q1,Bool.and_self]
    · simp only [PyData.shownAll,List.map_cons,List.sum_cons,List.length_cons,Nat.mul_succ]
      omega
    · simp only [PyData.shownAll,List.length_cons,q3]
    · simp only [PyData.depthAll]
      omega
theorem zaI3 {n d N:Nat} {ps:List PyData} (h:∀ p∈ps,Sh n d p) (hN:n * ps.length + 2 * ps.length + 3≤N):Sh N (d + 1) (.tuple ps):=by
  obtain ⟨q1,q2,q3,q4⟩:=zaQ2 h
  refine ⟨by simpa only [PyData.showable] using q1,?_,by simp only [PyData.depth]; omega⟩
  simp only [PyData.shown]
  refine Nat.le_trans (PySem.tupleText_len_le _) ?_
  rw [q3]
  omega
theorem zaJ0 {ts:List (Str×Bool)} {ps:List PyData}:∀ {ss:List Say} {i:Nat} {x:Int},x∈brkF ts ps i ss→∃ k:Nat,x=k∧k < i + ss.length
  | s :: ss,i,x,h=>by
    rcases List.mem_append.mp h with h | h
    · cases c:so ts ps s with
      | true=>rw [c] at h; simp at h
      | false =>
        rw [c] at h
        simp at h
        exact ⟨i,h,by simp⟩
    · obtain ⟨k,e,hk⟩:=zaJ0 h
      exact ⟨k,e,by rw [List.length_cons]; omega⟩
theorem zaB3 {ts:List (Str×Bool)} {ps:List PyData}:∀ (ss:List Say) (i:Nat),(brkF ts ps i ss).length≤ss.length
  | [],i=>Nat.le_refl _
  | s :: ss,i=>by
    have:=zaB3 (ts:=ts) (ps:=ps) ss (i + 1)
    cases c:so ts ps s <;> simp [brkF,c] <;> omega
theorem zaK8:∀ i < 60,(PyData.int (i:Nat)).shown.length≤8∧(PyData.int (i:Nat)).weight≤10∧(PyData.int (i:Nat)).showable=true:=by decide +kernel
theorem zaD8:∀ (is:List Int),(∀ x∈is,∃ k:Nat,x=k∧k < 60)→PyData.showableAll (is.map .int)=true∧PyData.leavesShortAll 8 (is.map .int)=true∧PyData.weightAll (is.map .int)≤20 * is.length
  | [],_=>by simp [PyData.showableAll,PyData.leavesShortAll,PyData.weightAll]
  | x :: is,h=>by
    obtain ⟨i1,i2,i3⟩:=zaD8 is fun y hy=>h y (List.mem_cons_of_mem _ hy)
    obtain ⟨k,rfl,hk⟩:=h x List.mem_cons_self
    obtain ⟨s1,s2,s3⟩:=zaK8 k hk
    refine ⟨?_,?_,?_⟩
    · simp only [List.map_cons,PyData.showableAll,i1,s3,Bool.and_self]
    · simp only [List.map_cons,PyData.leavesShortAll,i2,Bool.and_true]
      rw [PyData.leavesShort]
      exact decide_eq_true s1
    · simp only [List.map_cons,PyData.weightAll,List.length_cons]
      omega
theorem zaV1 {is:List Int} (h:∀ x∈is,∃ k:Nat,x=k∧k < 60) (hl:is.length≤50):(PyData.list (is.map .int)).showable=true∧(PyData.list (is.map .int)).shown.length≤sizeLine∧(PyData.list (is.map .int)).depth≤100:=by
  obtain ⟨r1,r2,r3⟩:=zaD8 is h
  refine ⟨by simpa only [PyData.showable] using r1,PyData.shown_fits (B:=8) (by decide) (by decide) (by rw [PyData.leavesShort]; exact r2) ?_,?_⟩
  · simp only [PyData.weight]
    omega
  · have:=(zV5 is).2
    simp only [PyData.depth]
    omega
theorem sb (b:Bool):(PyData.bool b).showable=true∧(PyData.bool b).shown.length≤sizeLine∧(PyData.bool b).depth≤100:=by
  cases b <;> exact ⟨rfl,sz (by decide +kernel),by simp [PyData.depth]⟩
theorem zaQ1 {i:Int} (h:Bd 800 i):Sh 1921 1 (.int i):=by
  refine ⟨?_,?_,by simp [PyData.depth]⟩
  · simp only [PyData.showable,decide_eq_true_eq]
    exact Nat.lt_of_lt_of_le (h.log (by decide)) (by decide)
  · simp only [PyData.shown]
    exact PyProof.Rows.int_text_len_1921 (Nat.lt_of_lt_of_le (h.log (by decide)) (by decide))
theorem zaW9 {x:Int×Int} (h1:Bd 800 x.1) (h2:Bd 800 x.2):Sh 3900 2 (fq x):=zaI3 (n:=1921) (d:=1) (fun p hp=>by
  simp at hp
  rcases hp with rfl | rfl
  · exact zaQ1 h1
  · exact zaQ1 h2) (by simp)
theorem zbn9 {p:PyData} {k:Bool} {x y:Int×Int} (t:Tm p k x y):Sh 8000 3 p:=by
  have e:=t.eq
  subst e
  cases k with
  | false=>exact (zaW9 t.b1 t.b2).mono (by decide) (by decide)
  | true=>exact zaI3 (n:=3900) (d:=2) (fun p hp=>by
      simp at hp
      rcases hp with rfl | rfl
      · exact zaW9 t.b1 t.b2
      · exact zaW9 t.b3 t.b4) (by simp)
theorem zaR7 {ts:List (Str×Bool)} {ps:List PyData} (h:TmAll ts ps) (hn:ts.length≤6):(PyData.tuple ps).showable=true∧(PyData.tuple ps).shown.length≤sizeLine∧(PyData.tuple ps).depth≤100:=by
  have lp:=h.len
  have q:Sh 60000 4 (.tuple ps):=zaI3 (n:=8000) (d:=3) (fun p hp=>by
    obtain ⟨k,x,y,t⟩:=h.mem p hp
    exact zbn9 t) (by omega)
  exact ⟨q.1,Nat.le_trans q.2.1 (by rw [sizeLine_eq]; decide),Nat.le_trans q.2.2 (by decide)⟩
theorem zaR6 {ts:List (Str×Bool)} (ps:List PyData) (tn:Nm (ts.map (·.1))):(PyData.tuple (tbl ((ts.map (·.1)).zip ps))).showable=true∧(PyData.tuple (tbl ((ts.map (·.1)).zip ps))).shown.length≤sizeLine∧(PyData.tuple (tbl ((ts.map (·.1)).zip ps))).depth≤100:=by
  have tl:ts.length≤6:=by simpa using tn.2.1
  have gz:∀ z∈(ts.map (·.1)).zip ps,good z.1:=fun z hz=>tn.2.2 _ (List.of_mem_zip hz).1
  obtain ⟨r1,r2,r3,r4⟩:=zaI0 _ (zaQ0 _ gz)
  have l1:=zaC6 ((ts.map (·.1)).zip ps)
  have l2:((ts.map (·.1)).zip ps).length≤6:=by
    rw [List.length_zip,List.length_map]
    omega
  have l3:(tbl ((ts.map (·.1)).zip ps)).length≤36:=Nat.le_trans l1 (Nat.le_trans (Nat.mul_le_mul l2 l2) (by decide))
  refine ⟨by simpa only [PyData.showable] using r1,PyData.shown_fits (B:=8) (by decide) (by decide) (by rw [PyData.leavesShort]; exact r2) ?_,?_⟩
  · simp only [PyData.weight]
    omega
  · simp only [PyData.depth]
    omega
theorem zag3 {n k:Nat} {p:PyData} (h:bdP n p) (hk:n≤k):bdP k p:=⟨h.1.mono hk,h.2.1.mono hk,h.2.2.1.mono hk,h.2.2.2.mono hk⟩
theorem zN3:∀ ds m R,ds.length=zd9.length→zg7 ds m R→zj2 (EN R) (zb4 zo9 ds) m:=by
  rintro ds m R hl ⟨ts,ps,o,e,e',rfl,nm,ht,hb,om,om',h⟩
  have n6:ts.length≤6:=by simpa using nm.2.1
  obtain ⟨t1,b1⟩:=TmAll.mv om (by decide) ht hb
  have w1:=zai6 om (by decide) ht hb
  simp [zj2]
  simp [zt0]
  refine zu4 (N:=3) (fun i d m'=>∃ (cur:List PyData) (o5:Option D),d=[some (.dat (TH ts)),some (.dat (.tuple ps)),some (.dat (.tuple cur)),some (.dat (fq e')),some (.dat (.tuple cur)),o5]∧TmAll ts cur∧(∀ p∈cur,bdP (101 + 41 * i) p)∧tbl ((ts.map (·.1)).zip cur)=tbl ((ts.map (·.1)).zip ps)) ?_ ?_ 3 0 (by omega) _ _ ⟨_,_,rfl,t1,b1,w1⟩
  · rintro d m1 ⟨cur,o5,rfl,tc,bc,wc⟩
    obtain ⟨s1,s2,s3⟩:=zaR7 tc n6
    obtain ⟨r1,r2,r3⟩:=zaR6 (ts:=ts) cur nm
    simp [zt4,s1,s2,s3]
    refine ⟨ts,cur,rfl,nm,tc,?_⟩
    simp [r1,r2,r3]
    refine ⟨ts,ps,rfl,n6,ht,fun m2 _=>?_⟩
    rw [← wc]
    simp [r1,r2,r3]
    exact h m2
  · rintro i d m1 K hi ⟨cur,o5,rfl,tc,bc,wc⟩ hk
    have bn:101 + 41 * i≤700:=by omega
    have bc7:∀ p∈cur,bdP 700 p:=fun p hp=>zag3 (bc p hp) bn
    obtain ⟨t2,b2⟩:=TmAll.mv om' bn tc bc
    have w2:=zai6 om' bn tc bc
    simp [zs6,sz]
    refine ⟨ts,cur,(1,999999),e',rfl,n6,tc,bc7,om',fun m2 _=>?_⟩
    simp [zo7,sz]
    refine ⟨ts,cur,(1,999999),e',rfl,n6,tc,bc7,om',fun m3 _=>?_⟩
    exact hk _ _ ⟨_,_,rfl,t2,fun p hp=>zag3 (b2 p hp) (by omega),by rw [w2,wc]⟩
theorem zbj0 {t b:Int} (h0:0 < b) (h1:b≤999999) (h2:-999999≤t) (h3:t≤999999):∃ x:Int×Int,fr t b=fq x∧0 < x.2∧Bd 20 x.1∧Bd 20 x.2∧(0 < t→0 < x.1):=by
  obtain ⟨n,d,g,e,g0,e1,e2,d0⟩:=zI4 (t:=t) (b:=b) h0
  have bt:∀ i:Int,-999999≤i→i≤999999→Bd 20 i:=fun i q1 q2=>by
    unfold Bd
    have e:(2:Nat) ^ 20=1048576:=by decide
    omega
  refine ⟨(n,d),e,d0,Bd.part e1 g0 (bt t h2 h3),Bd.part e2 g0 (bt b (by omega) h1),fun ht=>?_⟩
  rcases Int.lt_trichotomy n 0 with c | c | c
  · have:=Int.mul_neg_of_pos_of_neg g0 c
    omega
  · subst c
    omega
  · exact c
end K14
set_option Elab.async false
set_option linter.all false
set_option maxRecDepth 100000
set_option maxHeartbeats 4000000
namespace K14
open PySem PySem.Spec PyProof.Rows L2 DL K01
theorem zan3 {Q:List PyData→Mu→Prop} {m:Mu}:∀ (todo acc:List Say) (o:Option D),acc.length + todo.length≤100→Q ((acc++todo.filter zC2).map SayD) m →
    zm5 (gN 0) (dTst (dBin aEq (dBin aIx (dVar 0) (dCon (.int 0))) (dCon (.str "may")))) (dVar 0) (todo.map fun s=>.dat (SayD s)) (acc.map SayD) [o] m Q
  | [],acc,o,_,h=>by simpa [zm5] using h
  | s :: todo,acc,o,hl,h=>by
    rw [List.length_cons] at hl
    have ih:=zan3 (Q:=Q) (m:=m) todo
    simp only [List.map_cons,zm5]
    obtain ⟨K,hK⟩:∃ K,K=zm5 (gN 0) (dTst (dBin aEq (dBin aIx (dVar 0) (dCon (.int 0))) (dCon (.str "may")))) (dVar 0) (todo.map fun s=>D.dat (SayD s)):=⟨_,rfl⟩
    rw [← hK] at ih ⊢
    cases s with
    | may a b ws =>
      rw [List.filter_cons_of_pos (by rfl)] at h
      have q:=ih (acc++[.may a b ws]) (some (.dat (SayD (.may a b ws)))) (by simp; omega) (by simpa using h)
      rw [List.map_append] at q
      simp [SayD] at q ⊢
      exact ⟨Nat.lt_of_lt_of_le (show acc.length < 1000 by omega) (sz (by decide)),q⟩
    | gap x y n z =>
      have e:¬ (Str.ofString "gap"=Str.ofString "may"):=by decide +kernel
      rw [List.filter_cons_of_neg (by simp [zC2])] at h
      have q:=ih acc (some (.dat (SayD (.gap x y n z)))) (by omega) (by simpa using h)
      simp [SayD,e] at q ⊢
      exact q
theorem zbi7:∀ ds m R,ds.length=zaM9.length→zac5 ds m R→zaL4 (EN R) (zb4 zaX0 ds) m:=by
  rintro ds m R hl ⟨ns,rfl,hn,h⟩
  simp [zaL4]
  refine zaw1 (fun d _=>∃ o1 o2 o3 o4 o5 o6 o7 o8 o9 o10 o11,d=[some (.dat (.list (ns.map .int))),o1,o2,o3,o4,o5,o6,o7,o8,o9,o10,o11]) ?_ _ ?_ _ _ ⟨_,_,_,_,_,_,_,_,_,_,_,rfl⟩
  · rintro d m' -
    simp [zaa6]
    exact h m'
  · rintro x hx K hK d m1 ⟨o1,o2,o3,o4,o5,o6,o7,o8,o9,o10,o11,rfl⟩
    obtain ⟨i,rfl,i0,i1⟩:=zaL8 hx
    simp [zav7]
    refine ⟨ns,i,rfl,hn,i0,by omega,fun a m2 hf=>?_⟩
    simp [zae6]
    refine ⟨a,6,rfl,by decide,by decide,hf,fun ts m3 t1 tn hf3=>?_⟩
    have tl:ts.length≤6:=by simpa using tn.2.1
    simp [zac8]
    refine ⟨a,ts,rfl,tl,hf3,fun ps m4 tp bp hf4=>?_⟩
    have main:∀ (o e:Int×Int) m',OM o e→OM (1,999999) e→Feeds m' a→zS8 { nx:=K,rt:=R,bk:=fun d m=>zaa6 (EN R) d m,ct:=K } [some (.dat (.list (ns.map .int))),some (I i),some (.cel a),some (.dat (TH ts)),some (.dat (.tuple ps)),some (.dat (fq o)),some (.dat (fq e)),o7,o8,o9,o10,o11] m':=fun o e m' om om' hf'=>by
      have bp7:∀ p∈ps,bdP 700 p:=fun p hp=>zag3 (bp p hp) (by decide)
      obtain ⟨t2,b2⟩:=TmAll.mv om (by decide) tp bp
      have w2:=zai6 om (by decide) tp bp
      have bk:=fun ss i=>zaQ5 (n:=60) om (by decide) tp bp ss i
      obtain ⟨s1,s2,s3⟩:=zaR7 t2 tl
      obtain ⟨r1,r2,r3⟩:=zaR6 (ts:=ts) ps tn
      obtain ⟨qs,eqs⟩:∃ qs,qs=ps.map (mvP o e):=⟨_,rfl⟩
      simp [zS8]
      refine ⟨ts,ps,o,e,rfl,tl,tp,bp7,om,fun m5 k5=>?_⟩
      simp [zac6]
      refine ⟨ts,ps,o,e,rfl,tl,tp,bp7,om,fun m6 k6=>?_⟩
      have often:∀ o9 o10 o11 m',zN1 { nx:=K,rt:=R,bk:=fun d m=>zaa6 (EN R) d m,ct:=K } [some (.dat (.list (ns.map .int))),some (I i),some (.cel a),some (.dat (TH ts)),some (.dat (.tuple ps)),some (.dat (fq o)),some (.dat (fq e)),some (.dat (.tuple qs)),some (.dat (.tuple qs)),o9,o10,o11] m':=fun o9 o10 o11 m'=>by
        rw [eqs]
        simp [zN1]
        exact ⟨ts,ps,o,e,e,rfl,tn,tp,bp,om,om',fun m7=>.inr ⟨rfl,hK _ _ ⟨_,_,_,_,_,_,_,_,_,_,_,rfl⟩⟩⟩
      have hf6:=(hf'.kn k5).kn k6
      rw [← eqs] at t2 b2 w2 s1 s2 s3 bk ⊢
      simp [zac9,s1,s2,s3]
      simp [zad4]
      refine ⟨ts,qs,rfl,tn,t2,?_⟩
      rw [w2]
      simp [r1,r2,r3]
      refine ⟨ts,ps,rfl,tl,tp,fun m7 k7=>?_⟩
      simp [r1,r2,r3]
      have hf7:Feeds m7 a:=hf6.kn k7
      simp [zX8]
      refine ⟨a,ts,ps,8,rfl,tn,tp,by decide,by decide,hf7,fun ss m8 l40 ok hf8=>?_⟩
      have ok2:∀ s∈ss.filter zC2,zU7 ts s∧zC2 s=true:=fun s hs=>⟨ok s (List.mem_filter.mp hs).1,(List.mem_filter.mp hs).2⟩
      have l2:(ss.filter zC2).length≤40:=Nat.le_trans (List.length_filter_le _ _) l40
      simp only [zY6,dSeq,dSet,dLC,zz8,dBin,dVar,dCon,aIx,zg4]
      refine ⟨_,rfl,_,at1 _ _ _,.inr ⟨_,rfl,?_⟩⟩
      rw [List.map_map]
      refine zan3 ss [] none (by simp; omega) ?_
      rw [List.nil_append]
      obtain ⟨ms,ems⟩:∃ ms,ms=ss.filter zC2:=⟨_,rfl⟩
      rw [← ems] at ok2 l2 ⊢
      have mis:∀ x∈brk ts ps ms,∃ k:Nat,x=k∧k < 60:=fun x hx=>by
        obtain ⟨k,e,hk⟩:=zaJ0 hx
        exact ⟨k,e,by omega⟩
      obtain ⟨g1,g2,g3⟩:=zaV1 mis (Nat.le_trans (zaB3 ms 0) (by omega))
      simp [zaa5,sz]
      simp [zX7]
      refine ⟨ts,qs,ms,rfl,tn,t2,ok2,l2,?_⟩
      have eb:brk ts qs ms=brk ts ps ms:=bk ms 0 ok2
      rw [eb]
      simp [g1,g2,g3]
      refine ⟨ts,ps,ms,rfl,tn,tp,ok2,l2,?_⟩
      simp [g1,g2,g3]
      exact often _ _ _ _
    have often:∀ (t:Int) m',1≤t→t≤999999→Feeds m' a→zS3 { nx:=K,rt:=R,bk:=fun d m=>zaa6 (EN R) d m,ct:=K } [some (.dat (.list (ns.map .int))),some (I i),some (.cel a),some (.dat (TH ts)),some (.dat (.tuple ps)),some (I t),o6,o7,o8,o9,o10,o11] m':=fun t m' h1 h2 hf'=>by
      have r0:=Int.fmod_nonneg_of_pos i (b:=2) (by decide)
      have r1:=Int.fmod_lt_of_pos i (b:=2) (by decide)
      simp [zS3,sz]
      refine zaa2 (xs:=[.int 1,.int 9]) (P:=fun p=>∃ j:Int,p=.int j∧1≤j∧j≤9) (by simp) r0 r1 ?_
      rintro _ ⟨j,rfl,j0,j1⟩
      refine zf5 (by omega) (by omega) hf' fun w m5 w0 w1 hf5=>?_
      refine zam8 (by omega) (by omega) ?_
      obtain ⟨o,eo,p1,p2,p3,p4⟩:=zbj0 (t:=t) (b:=1 + w) (by omega) (by omega) (by omega) (by omega)
      rw [eo]
      simp [zad3]
      refine zf5 (by decide) (by decide) hf5 fun u m6 u0 u1 hf6=>?_
      refine zf5 (by decide) (by decide) hf6 fun v m7 v0 v1 hf7=>?_
      refine zam8 (by omega) (by omega) ?_
      obtain ⟨e,ee,q1,q2,q3,q4⟩:=zbj0 (t:=u - 1000) (b:=1 + v) (by omega) (by omega) (by omega) (by omega)
      rw [ee]
      have b1:Bd 20 (1:Int):=by unfold Bd; decide
      have b9:Bd 20 (999999:Int):=by unfold Bd; decide
      exact main o e m7 ⟨p4 (by omega),p1,q1,p2,p3,q2,q3⟩ ⟨by decide,by decide,q1,b1,b9,q2,q3⟩ hf7
    simp [zad5,sz]
    refine zf5 (by decide) (by decide) hf4 fun r m5 r0 r1 hf5=>?_
    refine zaa2 (P:=fun p=>∃ j:Int,p=.int j∧1≤j∧j≤999999) (by simp) r0 r1 ?_
    rintro _ ⟨j,rfl,j0,j1⟩
    refine zf5 (by omega) (by omega) hf5 fun w m6 w0 w1 hf6=>?_
    exact often (1 + w) m6 (by omega) (by omega) hf6
end K14
set_option Elab.async false
set_option linter.all false
set_option maxRecDepth 100000
namespace HD
open PySem PySem.W
section
variable {α β:Type} {tb:String→Option Builtin} {p:Program} {w:World} {n₀:Nat} {ann:Option Value} {c:Code} {B:List Frame}
theorem zbf6 {b:Nat}:∀ {n m:Nat} {s s1 s2:Shared} {t t1 t2:Thread},segGo tb p w n₀ ann b n s t=some (s1,t1)→segGo tb p w n₀ ann b m s1 t1=some (s2,t2)→segGo tb p w n₀ ann b (n + m) s t=some (s2,t2)
  | 0,m,s,s1,s2,t,t1,t2,h,k=>by
    obtain ⟨rfl,rfl⟩:s=s1∧t=t1:=by simpa [segGo] using h
    rw [Nat.zero_add]
    exact k
  | n + 1,m,s,s1,s2,t,t1,t2,h,k=>by
    rw [show n + 1 + m=n + m + 1 by omega]
    unfold segGo at h ⊢
    cases he:endAt b t with
    | some f=>rw [he] at h; cases h
    | none =>
      rw [he] at h
      cases hk:stepOk n₀ ann t with
      | false=>rw [hk] at h; cases h
      | true =>
        rw [hk] at h
        cases hs:step (denote tb) p w s t with
        | halt o s'=>rw [hs] at h; cases h
        | go s' t'=>rw [hs] at h; exact zbf6 h k
def R (N:Nat) (tb:String→Option Builtin) (p:Program) (w:World) (n₀:Nat) (ann:Option Value) (c:Code) (B:List Frame) (m:Sem α) (s:Shared) (pos:Pos) (a:α) (s':Shared) (pos':Pos):Prop :=
  ∀ (K:α→Sem Fin) (H:Value→Sem Fin) (gd:Bool→Bool) (lv:List Value→List Value),∃ n,n≤N∧segGo tb p w n₀ ann B.length n s ⟨m.wrap K H gd lv,c,pos,B⟩=some (s',⟨K a,c,pos',B⟩)
variable {s s1 s':Shared} {pos pos1 pos':Pos} {N N1 N2:Nat}
theorem R.pure {a:α}:R 0 tb p w n₀ ann c B (Pure.pure a) s pos a s pos:=fun K H gd lv=>⟨0,Nat.le_refl _,rfl⟩
theorem R.mono {m:Sem α} {a:α} (hN:N1≤N) (h:R N1 tb p w n₀ ann c B m s pos a s' pos'):R N tb p w n₀ ann c B m s pos a s' pos':=fun K H gd lv=>let ⟨n,l,e⟩:=h K H gd lv; ⟨n,Nat.le_trans l hN,e⟩
theorem R.bind {m:Sem α} {f:α→Sem β} {a:α} {b:β} (h:R N1 tb p w n₀ ann c B m s pos a s1 pos1) (k:R N2 tb p w n₀ ann c B (f a) s1 pos1 b s' pos'):R (N1 + N2) tb p w n₀ ann c B (m>>=f) s pos b s' pos':=fun K H gd lv=>by
  obtain ⟨n1,l1,e1⟩:=h (fun a=>(f a).wrap K H gd lv) H gd lv
  obtain ⟨n2,l2,e2⟩:=k K H gd lv
  refine ⟨n1 + n2,Nat.add_le_add l1 l2,?_⟩
  have e:(m>>=f).wrap K H gd lv=m.wrap (fun a=>(f a).wrap K H gd lv) H gd lv:=by
    rw [Sem.bind_eq_wrap',Sem.wrap_wrap]
    rfl
  rw [e]
  exact zbf6 e1 e2
theorem R.hold {m:Sem α} {vs:List Value} {a:α} (h:R N tb p w n₀ ann c B m s pos a s' pos'):R N tb p w n₀ ann c B (holding vs m) s pos a s' pos':=by
  unfold holding
  split
  · exact h
  · intro K H gd lv
    rw [Sem.keep_eq_wrap,Sem.wrap_wrap]
    exact h K H _ _
theorem R.leaf {m:Sem α} {a:α} {sT sT':SharedT} (n:Nat) (h:∀ (K:α→Sem Fin) (H:Value→Sem Fin) (gd:Bool→Bool) (lv:List Value→List Value),segGoT tb p w n₀ ann B.length n sT ⟨m.wrap K H gd lv,c,pos,B⟩=some (sT',⟨K a,c,pos',B⟩)):R n tb p w n₀ ann c B m sT.abs pos a sT'.abs pos':=fun K H gd lv=>⟨n,Nat.le_refl _,segGo_of (h K H gd lv)⟩
theorem R.piece {m:Sem Flow} {q:Pos} (h:R N tb p w n₀ ann c [topFrame q] m s pos .next s' pos'):∃ n,n≤N + 1∧segRun tb p w n₀ ann 1 n s ⟨m.wrap doneF deadEnd id id,c,pos,[topFrame q]⟩=some (.next,s',c,pos'):=by
  obtain ⟨n,l,e⟩:=h doneF deadEnd id id
  exact ⟨n + 1,Nat.succ_le_succ l,seg_go (N:=1) e rfl⟩
end
end HD
namespace HD
open PySem PySem.W
section
variable {α β:Type} {tb:String→Option Builtin} {p:Program} {w:World} {n₀:Nat} {ann:Option Value} {c:Code} {B:List Frame} {s s1 s':Shared} {pos pos1 pos':Pos}
def zaw6:Stmt→List (Option Expr) | .Assign [.Name _ _] (.Dict ks _ _) _=>ks | _=>[]
def zas6:Stmt→List Expr | .Assign [.Name _ _] (.Dict _ vs _) _=>vs | _=>[]
def dpOf:Stmt→Pos | .Assign [.Name _ _] (.Dict _ _ dp) _=>dp | _=>default
def pxOf:Stmt→Pos | .Assign [.Name _ px] (.Dict _ _ _) _=>px | _=>default
def spOf:Stmt→Pos | .Assign _ _ sp=>sp | _=>default
end
end HD
set_option maxRecDepth 100000
set_option maxHeartbeats 0
set_option Elab.async false
namespace H14
open PySem PySem.W HD
open_shared pre for PySem.Challenge.pw_whens_k14_whole_moved leaving 43
abbrev prog:Program:=PySem.Challenge.pw_whens_k14_whole_moved
abbrev q0:Pos:=⟨0,0,0,0⟩
def st:Stmt:=prog.main.body.getD 9 (.Pass q0)
def mf (k:Nat) (cl:Value) (g:Addr) (clo:List (Str×Addr)) (d kd dc pm:Value) (an:Option Addr) (cd ct:Value) (bi:Addr):Obj:=match prog.main.body.getD k (.Pass q0) with
  | .FunctionDef n a b _ _ _ s _ _ _=>⟨cl,none,.func ⟨n,n,a,.stmts b,s,g,clo,d,kd,dc,pm,an,cd,ct,bi⟩,#[]⟩
  | _=>⟨cl,none,.plain,#[]⟩
def tq (xs:List Value):Obj:=⟨.type "tuple",none,.seq xs.toArray,#[]⟩
def fl (xs:List Value):Obj:=⟨.none,none,.fields xs.toArray,#[]⟩
def lf (o:Obj):BT:=.node o .nil .nil
noncomputable def o3 (P:Params):Obj:=⟨.type "dict",none,.dict #[⟨PyData.keyHash P "__name__",.str "__name__" 165,.str "law_whens_k14_whole_moved" 509⟩,⟨PyData.keyHash P "__doc__",.str "__doc__" 166,.none⟩,⟨PyData.keyHash P "__package__",.str "__package__" 167,.none⟩,⟨PyData.keyHash P "__loader__",.str "__loader__" 168,Value.builtin "__main__.__loader__#opaque"⟩,⟨PyData.keyHash P "__spec__",.str "__spec__" 169,.none⟩,⟨PyData.keyHash P "__annotations__",.str "__annotations__" 170,.ref 6⟩,⟨PyData.keyHash P "__builtins__",.str "__builtins__" 171,.ref 4⟩,⟨PyData.keyHash P "__file__",.str "__file__" 173,.str "/claim/cut.py" 172⟩,⟨PyData.keyHash P "__cached__",.str "__cached__" 174,.none⟩,⟨PyData.keyHash P "common",.str "common" 196,.ref 21⟩,⟨PyData.keyHash P "fraction",.str "fraction" 205,.ref 28⟩,⟨PyData.keyHash P "plus",.str "plus" 213,.ref 35⟩,⟨PyData.keyHash P "less",.str "less" 221,.ref 42⟩,⟨PyData.keyHash P "product",.str "product" 229,.ref 49⟩,⟨PyData.keyHash P "is_below",.str "is_below" 237,.ref 56⟩,⟨PyData.keyHash P "ORDER",.str "ORDER" 253,.ref 57⟩,⟨PyData.keyHash P "POINT_WORDS",.str "POINT_WORDS" 282,.ref 58⟩,⟨PyData.keyHash P "WAYS",.str "WAYS" 383,.ref 65⟩,⟨PyData.keyHash P "words_of",.str "words_of" 390,.ref 85⟩,⟨PyData.keyHash P "ways_by",.str "ways_by" 399,.ref 92⟩,⟨PyData.keyHash P "is_point",.str "is_point" 406,.ref 99⟩,⟨PyData.keyHash P "way_of",.str "way_of" 414,.ref 106⟩,⟨PyData.keyHash P "word_of",.str "word_of" 420,.ref 111⟩,⟨PyData.keyHash P "names_of",.str "names_of" 428,.ref 116⟩,⟨PyData.keyHash P "pairs_of",.str "pairs_of" 434,.ref 121⟩,⟨PyData.keyHash P "times_of",.str "times_of" 443,.ref 128⟩,⟨PyData.keyHash P "time_of",.str "time_of" 455,.ref 135⟩,⟨PyData.keyHash P "word_between",.str "word_between" 465,.ref 142⟩,⟨PyData.keyHash P "is_gap_met",.str "is_gap_met" 479,.ref 149⟩,⟨PyData.keyHash P "table_of",.str "table_of" 485,.ref 154⟩,⟨PyData.keyHash P "moved",.str "moved" 491,.ref 159⟩,⟨PyData.keyHash P "is_so",.str "is_so" 502,.ref 166⟩,⟨PyData.keyHash P "broken",.str "broken" 508,.ref 171⟩,⟨PyData.keyHash P "_law_feed",.str "_law_feed" 519,.ref 178⟩,⟨PyData.keyHash P "_law_draw",.str "_law_draw" 529,.ref 185⟩,⟨PyData.keyHash P "_law_fraction",.str "_law_fraction" 540,.ref 192⟩,⟨PyData.keyHash P "_law_stand",.str "_law_stand" 549,.ref 199⟩,⟨PyData.keyHash P "_law_word",.str "_law_word" 561,.ref 206⟩,⟨PyData.keyHash P "_law_words",.str "_law_words" 569,.ref 213⟩,⟨PyData.keyHash P "_law_names",.str "_law_names" 575,.ref 218⟩,⟨PyData.keyHash P "_law_kinds",.str "_law_kinds" 581,.ref 223⟩,⟨PyData.keyHash P "_law_things",.str "_law_things" 587,.ref 228⟩,⟨PyData.keyHash P "_law_may",.str "_law_may" 593,.ref 233⟩,⟨PyData.keyHash P "_law_times",.str "_law_times" 606,.ref 240⟩,⟨PyData.keyHash P "_law_telling",.str "_law_telling" 612,.ref 245⟩,⟨PyData.keyHash P "_law_all_ends",.str "_law_all_ends" 622,.ref 252⟩,⟨PyData.keyHash P "_law_time",.str "_law_time" 632,.ref 259⟩,⟨PyData.keyHash P "_law_may_saying",.str "_law_may_saying" 638,.ref 264⟩,⟨PyData.keyHash P "_law_gap_saying",.str "_law_gap_saying" 657,.ref 271⟩,⟨PyData.keyHash P "_law_talk",.str "_law_talk" 670,.ref 278⟩,⟨PyData.keyHash P "_law_row",.str "_law_row" 680,.ref 285⟩,⟨PyData.keyHash P "_law_table",.str "_law_table" 691,.ref 292⟩,⟨PyData.keyHash P "_law_moved_time",.str "_law_moved_time" 701,.ref 299⟩,⟨PyData.keyHash P "_law_all_moved",.str "_law_all_moved" 707,.ref 304⟩,⟨PyData.keyHash P "_law_often_right",.str "_law_often_right" 719,.ref 311⟩,⟨PyData.keyHash P "law",.str "law" 725,.ref 316⟩] 56,#[]⟩
noncomputable def o15 (P:Params):Obj:=tq []
noncomputable def o17 (P:Params):Obj:=tq [.str "one" 192,.str "other" 193]
noncomputable def o18 (P:Params):Obj:=tq []
noncomputable def o20 (P:Params):Obj:=⟨.type "code",none,.fields #[.str "common" 189,.str "common" 190,.str "/claim/cut.py" 191,.int 2 0,.int 2 0,.int 0 0,.int 0 0,.int 3 0,.ref 15,.bool true,.int 181 0,.ref 16,.none,.ref 17,.ref 18,.ref 19,.int 194 0,.int 2 0,.str "/claim/cut.py" 195],#[]⟩
noncomputable def o21 (P:Params):Obj:=mf 1 (.type "function") 3 [] .none .none .none (.str "whens.fractions" 187) none (.ref 20) .none 0
noncomputable def o22 (P:Params):Obj:=tq []
noncomputable def o24 (P:Params):Obj:=tq [.str "top" 200,.str "bottom" 201,.str "shared" 202]
noncomputable def o25 (P:Params):Obj:=tq []
noncomputable def o27 (P:Params):Obj:=⟨.type "code",none,.fields #[.str "fraction" 197,.str "fraction" 198,.str "/claim/cut.py" 199,.int 6 0,.int 2 0,.int 0 0,.int 0 0,.int 3 0,.ref 22,.bool true,.int 181 0,.ref 23,.none,.ref 24,.ref 25,.ref 26,.int 203 0,.int 6 0,.str "/claim/cut.py" 204],#[]⟩
noncomputable def o28 (P:Params):Obj:=mf 2 (.type "function") 3 [] .none .none .none (.str "whens.fractions" 187) none (.ref 27) .none 0
noncomputable def o29 (P:Params):Obj:=tq []
noncomputable def o31 (P:Params):Obj:=tq [.str "one" 209,.str "other" 210]
noncomputable def o32 (P:Params):Obj:=tq []
noncomputable def o34 (P:Params):Obj:=⟨.type "code",none,.fields #[.str "plus" 206,.str "plus" 207,.str "/claim/cut.py" 208,.int 11 0,.int 2 0,.int 0 0,.int 0 0,.int 3 0,.ref 29,.bool true,.int 181 0,.ref 30,.none,.ref 31,.ref 32,.ref 33,.int 211 0,.int 11 0,.str "/claim/cut.py" 212],#[]⟩
noncomputable def o35 (P:Params):Obj:=mf 3 (.type "function") 3 [] .none .none .none (.str "whens.fractions" 187) none (.ref 34) .none 0
noncomputable def o36 (P:Params):Obj:=tq []
noncomputable def o38 (P:Params):Obj:=tq [.str "one" 217,.str "other" 218]
noncomputable def o39 (P:Params):Obj:=tq []
noncomputable def o41 (P:Params):Obj:=⟨.type "code",none,.fields #[.str "less" 214,.str "less" 215,.str "/claim/cut.py" 216,.int 13 0,.int 2 0,.int 0 0,.int 0 0,.int 3 0,.ref 36,.bool true,.int 181 0,.ref 37,.none,.ref 38,.ref 39,.ref 40,.int 219 0,.int 13 0,.str "/claim/cut.py" 220],#[]⟩
noncomputable def o42 (P:Params):Obj:=mf 4 (.type "function") 3 [] .none .none .none (.str "whens.fractions" 187) none (.ref 41) .none 0
noncomputable def o43 (P:Params):Obj:=tq []
noncomputable def o45 (P:Params):Obj:=tq [.str "one" 225,.str "other" 226]
noncomputable def o46 (P:Params):Obj:=tq []
noncomputable def o48 (P:Params):Obj:=⟨.type "code",none,.fields #[.str "product" 222,.str "product" 223,.str "/claim/cut.py" 224,.int 15 0,.int 2 0,.int 0 0,.int 0 0,.int 3 0,.ref 43,.bool true,.int 181 0,.ref 44,.none,.ref 45,.ref 46,.ref 47,.int 227 0,.int 15 0,.str "/claim/cut.py" 228],#[]⟩
noncomputable def o49 (P:Params):Obj:=mf 5 (.type "function") 3 [] .none .none .none (.str "whens.fractions" 187) none (.ref 48) .none 0
noncomputable def o50 (P:Params):Obj:=tq []
noncomputable def o52 (P:Params):Obj:=tq [.str "one" 233,.str "other" 234]
noncomputable def o53 (P:Params):Obj:=tq []
noncomputable def o55 (P:Params):Obj:=⟨.type "code",none,.fields #[.str "is_below" 230,.str "is_below" 231,.str "/claim/cut.py" 232,.int 17 0,.int 2 0,.int 0 0,.int 0 0,.int 3 0,.ref 50,.bool true,.int 181 0,.ref 51,.none,.ref 52,.ref 53,.ref 54,.int 235 0,.int 17 0,.str "/claim/cut.py" 236],#[]⟩
noncomputable def o56 (P:Params):Obj:=mf 6 (.type "function") 3 [] .none .none .none (.str "whens.fractions" 187) none (.ref 55) .none 0
noncomputable def o57 (P:Params):Obj:=tq [.str "ahead" 240,.str "meets" 241,.str "overlaps" 242,.str "begins" 243,.str "within" 244,.str "ends" 245,.str "same" 246,.str "ended" 247,.str "holds" 248,.str "begun" 249,.str "lapped" 250,.str "met" 251,.str "behind" 252]
noncomputable def o65 (P:Params):Obj:=⟨.type "dict",none,.dict #[⟨PyData.keyHash P "ahead",.str "ahead" 283,.ref 66⟩,⟨PyData.keyHash P "meets",.str "meets" 292,.ref 67⟩,⟨PyData.keyHash P "overlaps",.str "overlaps" 300,.ref 68⟩,⟨PyData.keyHash P "begins",.str "begins" 308,.ref 69⟩,⟨PyData.keyHash P "within",.str "within" 315,.ref 70⟩,⟨PyData.keyHash P "ends",.str "ends" 322,.ref 71⟩,⟨PyData.keyHash P "same",.str "same" 328,.ref 72⟩,⟨PyData.keyHash P "ended",.str "ended" 334,.ref 73⟩,⟨PyData.keyHash P "holds",.str "holds" 341,.ref 74⟩,⟨PyData.keyHash P "begun",.str "begun" 348,.ref 75⟩,⟨PyData.keyHash P "lapped",.str "lapped" 354,.ref 76⟩,⟨PyData.keyHash P "met",.str "met" 360,.ref 77⟩,⟨PyData.keyHash P "behind",.str "behind" 365,.ref 78⟩] 13,#[]⟩
noncomputable def o66 (P:Params):Obj:=tq [.int (-1) 285,.int (-1) 287,.int (-1) 289,.int (-1) 291]
noncomputable def o67 (P:Params):Obj:=tq [.int (-1) 294,.int (-1) 296,.int 0 297,.int (-1) 299]
noncomputable def o68 (P:Params):Obj:=tq [.int (-1) 302,.int (-1) 304,.int 1 305,.int (-1) 307]
noncomputable def o69 (P:Params):Obj:=tq [.int 0 309,.int (-1) 311,.int 1 312,.int (-1) 314]
noncomputable def o70 (P:Params):Obj:=tq [.int 1 316,.int (-1) 318,.int 1 319,.int (-1) 321]
noncomputable def o71 (P:Params):Obj:=tq [.int 1 323,.int (-1) 325,.int 1 326,.int 0 327]
noncomputable def o72 (P:Params):Obj:=tq [.int 0 329,.int (-1) 331,.int 1 332,.int 0 333]
noncomputable def o73 (P:Params):Obj:=tq [.int (-1) 336,.int (-1) 338,.int 1 339,.int 0 340]
noncomputable def o74 (P:Params):Obj:=tq [.int (-1) 343,.int (-1) 345,.int 1 346,.int 1 347]
noncomputable def o75 (P:Params):Obj:=tq [.int 0 349,.int (-1) 351,.int 1 352,.int 1 353]
noncomputable def o76 (P:Params):Obj:=tq [.int 1 355,.int (-1) 357,.int 1 358,.int 1 359]
noncomputable def o77 (P:Params):Obj:=tq [.int 1 361,.int 0 362,.int 1 363,.int 1 364]
noncomputable def o78 (P:Params):Obj:=tq [.int 1 366,.int 1 367,.int 1 368,.int 1 369]
noncomputable def o79 (P:Params):Obj:=tq []
noncomputable def o81 (P:Params):Obj:=tq [.str "kinds" 387]
noncomputable def o82 (P:Params):Obj:=tq []
noncomputable def o84 (P:Params):Obj:=⟨.type "code",none,.fields #[.str "words_of" 384,.str "words_of" 385,.str "/claim/cut.py" 386,.int 23 0,.int 1 0,.int 0 0,.int 0 0,.int 3 0,.ref 79,.bool true,.int 181 0,.ref 80,.none,.ref 81,.ref 82,.ref 83,.int 388 0,.int 23 0,.str "/claim/cut.py" 389],#[]⟩
noncomputable def o85 (P:Params):Obj:=mf 11 (.type "function") 3 [] .none .none .none (.str "whens.words" 238) none (.ref 84) .none 0
noncomputable def o86 (P:Params):Obj:=tq []
noncomputable def o88 (P:Params):Obj:=tq [.str "kinds" 394,.str "word" 395,.str "ways" 396]
noncomputable def o89 (P:Params):Obj:=tq []
noncomputable def o91 (P:Params):Obj:=⟨.type "code",none,.fields #[.str "ways_by" 391,.str "ways_by" 392,.str "/claim/cut.py" 393,.int 25 0,.int 2 0,.int 0 0,.int 0 0,.int 3 0,.ref 86,.bool true,.int 181 0,.ref 87,.none,.ref 88,.ref 89,.ref 90,.int 397 0,.int 25 0,.str "/claim/cut.py" 398],#[]⟩
noncomputable def o92 (P:Params):Obj:=mf 12 (.type "function") 3 [] .none .none .none (.str "whens.words" 238) none (.ref 91) .none 0
noncomputable def o93 (P:Params):Obj:=tq []
noncomputable def o95 (P:Params):Obj:=tq [.str "times" 403]
noncomputable def o96 (P:Params):Obj:=tq []
noncomputable def o98 (P:Params):Obj:=⟨.type "code",none,.fields #[.str "is_point" 400,.str "is_point" 401,.str "/claim/cut.py" 402,.int 32 0,.int 1 0,.int 0 0,.int 0 0,.int 3 0,.ref 93,.bool true,.int 181 0,.ref 94,.none,.ref 95,.ref 96,.ref 97,.int 404 0,.int 32 0,.str "/claim/cut.py" 405],#[]⟩
noncomputable def o99 (P:Params):Obj:=mf 13 (.type "function") 3 [] .none .none .none (.str "whens.words" 238) none (.ref 98) .none 0
noncomputable def o100 (P:Params):Obj:=tq []
noncomputable def o102 (P:Params):Obj:=tq [.str "one" 410,.str "other" 411]
noncomputable def o103 (P:Params):Obj:=tq []
noncomputable def o105 (P:Params):Obj:=⟨.type "code",none,.fields #[.str "way_of" 407,.str "way_of" 408,.str "/claim/cut.py" 409,.int 34 0,.int 2 0,.int 0 0,.int 0 0,.int 3 0,.ref 100,.bool true,.int 181 0,.ref 101,.none,.ref 102,.ref 103,.ref 104,.int 412 0,.int 34 0,.str "/claim/cut.py" 413],#[]⟩
noncomputable def o106 (P:Params):Obj:=mf 14 (.type "function") 3 [] .none .none .none (.str "whens.words" 238) none (.ref 105) .none 0
noncomputable def o107 (P:Params):Obj:=tq []
noncomputable def o110 (P:Params):Obj:=⟨.type "code",none,.fields #[.str "word_of" 415,.str "word_of" 416,.str "/claim/cut.py" 417,.int 40 0,.int 2 0,.int 0 0,.int 0 0,.int 3 0,.ref 107,.bool true,.int 181 0,.ref 108,.none,.none,.none,.ref 109,.int 418 0,.int 40 0,.str "/claim/cut.py" 419],#[]⟩
noncomputable def o111 (P:Params):Obj:=mf 15 (.type "function") 3 [] .none .none .none (.str "whens.words" 238) none (.ref 110) .none 0
noncomputable def o112 (P:Params):Obj:=tq []
noncomputable def o115 (P:Params):Obj:=⟨.type "code",none,.fields #[.str "names_of" 423,.str "names_of" 424,.str "/claim/cut.py" 425,.int 47 0,.int 1 0,.int 0 0,.int 0 0,.int 3 0,.ref 112,.bool true,.int 181 0,.ref 113,.none,.none,.none,.ref 114,.int 426 0,.int 47 0,.str "/claim/cut.py" 427],#[]⟩
noncomputable def o116 (P:Params):Obj:=mf 17 (.type "function") 3 [] .none .none .none (.str "whens.tellings" 421) none (.ref 115) .none 0
noncomputable def o117 (P:Params):Obj:=tq []
noncomputable def o120 (P:Params):Obj:=⟨.type "code",none,.fields #[.str "pairs_of" 429,.str "pairs_of" 430,.str "/claim/cut.py" 431,.int 49 0,.int 1 0,.int 0 0,.int 0 0,.int 3 0,.ref 117,.bool true,.int 181 0,.ref 118,.none,.none,.none,.ref 119,.int 432 0,.int 49 0,.str "/claim/cut.py" 433],#[]⟩
noncomputable def o121 (P:Params):Obj:=mf 18 (.type "function") 3 [] .none .none .none (.str "whens.tellings" 421) none (.ref 120) .none 0
noncomputable def o122 (P:Params):Obj:=tq []
noncomputable def o124 (P:Params):Obj:=tq [.str "things" 438,.str "telling" 439,.str "name" 440]
noncomputable def o125 (P:Params):Obj:=tq []
noncomputable def o127 (P:Params):Obj:=⟨.type "code",none,.fields #[.str "times_of" 435,.str "times_of" 436,.str "/claim/cut.py" 437,.int 52 0,.int 3 0,.int 0 0,.int 0 0,.int 3 0,.ref 122,.bool true,.int 181 0,.ref 123,.none,.ref 124,.ref 125,.ref 126,.int 441 0,.int 52 0,.str "/claim/cut.py" 442],#[]⟩
noncomputable def o128 (P:Params):Obj:=mf 19 (.type "function") 3 [] .none .none .none (.str "whens.tellings" 421) none (.ref 127) .none 0
noncomputable def o129 (P:Params):Obj:=tq []
noncomputable def o131 (P:Params):Obj:=tq [.str "things" 447,.str "telling" 448,.str "end" 449,.str "name" 450,.str "number" 451,.str "times" 452]
noncomputable def o132 (P:Params):Obj:=tq []
noncomputable def o134 (P:Params):Obj:=⟨.type "code",none,.fields #[.str "time_of" 444,.str "time_of" 445,.str "/claim/cut.py" 446,.int 54 0,.int 3 0,.int 0 0,.int 0 0,.int 3 0,.ref 129,.bool true,.int 181 0,.ref 130,.none,.ref 131,.ref 132,.ref 133,.int 453 0,.int 54 0,.str "/claim/cut.py" 454],#[]⟩
noncomputable def o135 (P:Params):Obj:=mf 20 (.type "function") 3 [] .none .none .none (.str "whens.tellings" 421) none (.ref 134) .none 0
noncomputable def o136 (P:Params):Obj:=tq []
noncomputable def o138 (P:Params):Obj:=tq [.str "things" 459,.str "telling" 460,.str "a" 461,.str "b" 462]
noncomputable def o139 (P:Params):Obj:=tq []
noncomputable def o141 (P:Params):Obj:=⟨.type "code",none,.fields #[.str "word_between" 456,.str "word_between" 457,.str "/claim/cut.py" 458,.int 58 0,.int 4 0,.int 0 0,.int 0 0,.int 3 0,.ref 136,.bool true,.int 181 0,.ref 137,.none,.ref 138,.ref 139,.ref 140,.int 463 0,.int 58 0,.str "/claim/cut.py" 464],#[]⟩
noncomputable def o142 (P:Params):Obj:=mf 21 (.type "function") 3 [] .none .none .none (.str "whens.tellings" 421) none (.ref 141) .none 0
noncomputable def o143 (P:Params):Obj:=tq []
noncomputable def o145 (P:Params):Obj:=tq [.str "things" 469,.str "telling" 470,.str "gap" 471,.str "x" 472,.str "y" 473,.str "number" 474,.str "strict" 475,.str "apart" 476]
noncomputable def o146 (P:Params):Obj:=tq []
noncomputable def o148 (P:Params):Obj:=⟨.type "code",none,.fields #[.str "is_gap_met" 466,.str "is_gap_met" 467,.str "/claim/cut.py" 468,.int 60 0,.int 3 0,.int 0 0,.int 0 0,.int 3 0,.ref 143,.bool true,.int 181 0,.ref 144,.none,.ref 145,.ref 146,.ref 147,.int 477 0,.int 60 0,.str "/claim/cut.py" 478],#[]⟩
noncomputable def o149 (P:Params):Obj:=mf 22 (.type "function") 3 [] .none .none .none (.str "whens.tellings" 421) none (.ref 148) .none 0
noncomputable def o150 (P:Params):Obj:=tq []
noncomputable def o153 (P:Params):Obj:=⟨.type "code",none,.fields #[.str "table_of" 480,.str "table_of" 481,.str "/claim/cut.py" 482,.int 64 0,.int 2 0,.int 0 0,.int 0 0,.int 3 0,.ref 150,.bool true,.int 181 0,.ref 151,.none,.none,.none,.ref 152,.int 483 0,.int 64 0,.str "/claim/cut.py" 484],#[]⟩
noncomputable def o154 (P:Params):Obj:=mf 23 (.type "function") 3 [] .none .none .none (.str "whens.tellings" 421) none (.ref 153) .none 0
noncomputable def o155 (P:Params):Obj:=tq []
noncomputable def o158 (P:Params):Obj:=⟨.type "code",none,.fields #[.str "moved" 486,.str "moved" 487,.str "/claim/cut.py" 488,.int 66 0,.int 4 0,.int 0 0,.int 0 0,.int 3 0,.ref 155,.bool true,.int 181 0,.ref 156,.none,.none,.none,.ref 157,.int 489 0,.int 66 0,.str "/claim/cut.py" 490],#[]⟩
noncomputable def o159 (P:Params):Obj:=mf 24 (.type "function") 3 [] .none .none .none (.str "whens.tellings" 421) none (.ref 158) .none 0
noncomputable def o160 (P:Params):Obj:=tq []
noncomputable def o162 (P:Params):Obj:=tq [.str "things" 497,.str "saying" 498,.str "telling" 499]
noncomputable def o163 (P:Params):Obj:=tq []
noncomputable def o165 (P:Params):Obj:=⟨.type "code",none,.fields #[.str "is_so" 494,.str "is_so" 495,.str "/claim/cut.py" 496,.int 74 0,.int 3 0,.int 0 0,.int 0 0,.int 3 0,.ref 160,.bool true,.int 181 0,.ref 161,.none,.ref 162,.ref 163,.ref 164,.int 500 0,.int 74 0,.str "/claim/cut.py" 501],#[]⟩
noncomputable def o166 (P:Params):Obj:=mf 26 (.type "function") 3 [] .none .none .none (.str "whens.talks" 492) none (.ref 165) .none 0
noncomputable def o167 (P:Params):Obj:=tq []
noncomputable def o170 (P:Params):Obj:=⟨.type "code",none,.fields #[.str "broken" 503,.str "broken" 504,.str "/claim/cut.py" 505,.int 78 0,.int 2 0,.int 0 0,.int 0 0,.int 3 0,.ref 167,.bool true,.int 181 0,.ref 168,.none,.none,.none,.ref 169,.int 506 0,.int 78 0,.str "/claim/cut.py" 507],#[]⟩
noncomputable def o171 (P:Params):Obj:=mf 27 (.type "function") 3 [] .none .none .none (.str "whens.talks" 492) none (.ref 170) .none 0
noncomputable def o172 (P:Params):Obj:=tq []
noncomputable def o174 (P:Params):Obj:=tq [.str "_law_script" 514,.str "_law_k" 515,.str "_law_cell" 516]
noncomputable def o175 (P:Params):Obj:=tq []
noncomputable def o177 (P:Params):Obj:=⟨.type "code",none,.fields #[.str "_law_feed" 511,.str "_law_feed" 512,.str "/claim/cut.py" 513,.int 82 0,.int 2 0,.int 0 0,.int 0 0,.int 3 0,.ref 172,.bool true,.int 181 0,.ref 173,.none,.ref 174,.ref 175,.ref 176,.int 517 0,.int 82 0,.str "/claim/cut.py" 518],#[]⟩
noncomputable def o178 (P:Params):Obj:=mf 29 (.type "function") 3 [] .none .none .none (.str "law_whens_k14_whole_moved" 509) none (.ref 177) .none 0
noncomputable def o179 (P:Params):Obj:=tq []
noncomputable def o181 (P:Params):Obj:=tq [.str "_law_feed_here" 523,.str "_law_many" 524,.str "_law_figure" 525,.str "_law_number" 526]
noncomputable def o182 (P:Params):Obj:=tq []
noncomputable def o184 (P:Params):Obj:=⟨.type "code",none,.fields #[.str "_law_draw" 520,.str "_law_draw" 521,.str "/claim/cut.py" 522,.int 87 0,.int 2 0,.int 0 0,.int 0 0,.int 3 0,.ref 179,.bool true,.int 181 0,.ref 180,.none,.ref 181,.ref 182,.ref 183,.int 527 0,.int 87 0,.str "/claim/cut.py" 528],#[]⟩
noncomputable def o185 (P:Params):Obj:=mf 30 (.type "function") 3 [] .none .none .none (.str "law_whens_k14_whole_moved" 509) none (.ref 184) .none 0
noncomputable def o186 (P:Params):Obj:=tq []
noncomputable def o188 (P:Params):Obj:=tq [.str "_law_top" 533,.str "_law_bottom" 534,.str "_law_one" 535,.str "_law_other" 536,.str "_law_rest" 537]
noncomputable def o189 (P:Params):Obj:=tq []
noncomputable def o191 (P:Params):Obj:=⟨.type "code",none,.fields #[.str "_law_fraction" 530,.str "_law_fraction" 531,.str "/claim/cut.py" 532,.int 97 0,.int 2 0,.int 0 0,.int 0 0,.int 3 0,.ref 186,.bool true,.int 181 0,.ref 187,.none,.ref 188,.ref 189,.ref 190,.int 538 0,.int 97 0,.str "/claim/cut.py" 539],#[]⟩
noncomputable def o192 (P:Params):Obj:=mf 31 (.type "function") 3 [] .none .none .none (.str "law_whens_k14_whole_moved" 509) none (.ref 191) .none 0
noncomputable def o193 (P:Params):Obj:=tq []
noncomputable def o195 (P:Params):Obj:=tq [.str "_law_one" 544,.str "_law_other" 545,.str "_law_apart" 546]
noncomputable def o196 (P:Params):Obj:=tq []
noncomputable def o198 (P:Params):Obj:=⟨.type "code",none,.fields #[.str "_law_stand" 541,.str "_law_stand" 542,.str "/claim/cut.py" 543,.int 105 0,.int 2 0,.int 0 0,.int 0 0,.int 3 0,.ref 193,.bool true,.int 181 0,.ref 194,.none,.ref 195,.ref 196,.ref 197,.int 547 0,.int 105 0,.str "/claim/cut.py" 548],#[]⟩
noncomputable def o199 (P:Params):Obj:=mf 32 (.type "function") 3 [] .none .none .none (.str "law_whens_k14_whole_moved" 509) none (.ref 198) .none 0
noncomputable def o200 (P:Params):Obj:=tq []
noncomputable def o202 (P:Params):Obj:=tq [.str "_law_one" 553,.str "_law_other" 554,.str "_law_both" 555,.str "_law_a" 556,.str "_law_b" 557,.str "_law_rows" 558]
noncomputable def o203 (P:Params):Obj:=tq []
noncomputable def o205 (P:Params):Obj:=⟨.type "code",none,.fields #[.str "_law_word" 550,.str "_law_word" 551,.str "/claim/cut.py" 552,.int 108 0,.int 2 0,.int 0 0,.int 0 0,.int 3 0,.ref 200,.bool true,.int 181 0,.ref 201,.none,.ref 202,.ref 203,.ref 204,.int 559 0,.int 108 0,.str "/claim/cut.py" 560],#[]⟩
noncomputable def o206 (P:Params):Obj:=mf 33 (.type "function") 3 [] .none .none .none (.str "law_whens_k14_whole_moved" 509) none (.ref 205) .none 0
noncomputable def o207 (P:Params):Obj:=tq []
noncomputable def o209 (P:Params):Obj:=tq [.str "_law_kinds_here" 565,.str "_law_first" 566]
noncomputable def o210 (P:Params):Obj:=tq []
noncomputable def o212 (P:Params):Obj:=⟨.type "code",none,.fields #[.str "_law_words" 562,.str "_law_words" 563,.str "/claim/cut.py" 564,.int 122 0,.int 1 0,.int 0 0,.int 0 0,.int 3 0,.ref 207,.bool true,.int 181 0,.ref 208,.none,.ref 209,.ref 210,.ref 211,.int 567 0,.int 122 0,.str "/claim/cut.py" 568],#[]⟩
noncomputable def o213 (P:Params):Obj:=mf 34 (.type "function") 3 [] .none .none .none (.str "law_whens_k14_whole_moved" 509) none (.ref 212) .none 0
noncomputable def o214 (P:Params):Obj:=tq []
noncomputable def o217 (P:Params):Obj:=⟨.type "code",none,.fields #[.str "_law_names" 570,.str "_law_names" 571,.str "/claim/cut.py" 572,.int 131 0,.int 2 0,.int 0 0,.int 0 0,.int 3 0,.ref 214,.bool true,.int 181 0,.ref 215,.none,.none,.none,.ref 216,.int 573 0,.int 131 0,.str "/claim/cut.py" 574],#[]⟩
noncomputable def o218 (P:Params):Obj:=mf 35 (.type "function") 3 [] .none .none .none (.str "law_whens_k14_whole_moved" 509) none (.ref 217) .none 0
noncomputable def o219 (P:Params):Obj:=tq []
noncomputable def o222 (P:Params):Obj:=⟨.type "code",none,.fields #[.str "_law_kinds" 576,.str "_law_kinds" 577,.str "/claim/cut.py" 578,.int 142 0,.int 2 0,.int 0 0,.int 0 0,.int 3 0,.ref 219,.bool true,.int 181 0,.ref 220,.none,.none,.none,.ref 221,.int 579 0,.int 142 0,.str "/claim/cut.py" 580],#[]⟩
noncomputable def o223 (P:Params):Obj:=mf 36 (.type "function") 3 [] .none .none .none (.str "law_whens_k14_whole_moved" 509) none (.ref 222) .none 0
noncomputable def o224 (P:Params):Obj:=tq []
noncomputable def o227 (P:Params):Obj:=⟨.type "code",none,.fields #[.str "_law_things" 582,.str "_law_things" 583,.str "/claim/cut.py" 584,.int 147 0,.int 2 0,.int 0 0,.int 0 0,.int 3 0,.ref 224,.bool true,.int 181 0,.ref 225,.none,.none,.none,.ref 226,.int 585 0,.int 147 0,.str "/claim/cut.py" 586],#[]⟩
noncomputable def o228 (P:Params):Obj:=mf 37 (.type "function") 3 [] .none .none .none (.str "law_whens_k14_whole_moved" 509) none (.ref 227) .none 0
noncomputable def o229 (P:Params):Obj:=tq []
noncomputable def o232 (P:Params):Obj:=⟨.type "code",none,.fields #[.str "_law_may" 588,.str "_law_may" 589,.str "/claim/cut.py" 590,.int 151 0,.int 2 0,.int 0 0,.int 0 0,.int 3 0,.ref 229,.bool true,.int 181 0,.ref 230,.none,.none,.none,.ref 231,.int 591 0,.int 151 0,.str "/claim/cut.py" 592],#[]⟩
noncomputable def o233 (P:Params):Obj:=mf 38 (.type "function") 3 [] .none .none .none (.str "law_whens_k14_whole_moved" 509) none (.ref 232) .none 0
noncomputable def o234 (P:Params):Obj:=tq []
noncomputable def o236 (P:Params):Obj:=tq [.str "_law_feed_here" 597,.str "_law_kind" 598,.str "_law_base" 599,.str "_law_many" 600,.str "_law_bottom" 601,.str "_law_first" 602,.str "_law_last" 603]
noncomputable def o237 (P:Params):Obj:=tq []
noncomputable def o239 (P:Params):Obj:=⟨.type "code",none,.fields #[.str "_law_times" 594,.str "_law_times" 595,.str "/claim/cut.py" 596,.int 161 0,.int 5 0,.int 0 0,.int 0 0,.int 3 0,.ref 234,.bool true,.int 181 0,.ref 235,.none,.ref 236,.ref 237,.ref 238,.int 604 0,.int 161 0,.str "/claim/cut.py" 605],#[]⟩
noncomputable def o240 (P:Params):Obj:=mf 39 (.type "function") 3 [] .none .none .none (.str "law_whens_k14_whole_moved" 509) none (.ref 239) .none 0
noncomputable def o241 (P:Params):Obj:=tq []
noncomputable def o244 (P:Params):Obj:=⟨.type "code",none,.fields #[.str "_law_telling" 607,.str "_law_telling" 608,.str "/claim/cut.py" 609,.int 167 0,.int 2 0,.int 0 0,.int 0 0,.int 3 0,.ref 241,.bool true,.int 181 0,.ref 242,.none,.none,.none,.ref 243,.int 610 0,.int 167 0,.str "/claim/cut.py" 611],#[]⟩
noncomputable def o245 (P:Params):Obj:=mf 40 (.type "function") 3 [] .none .none .none (.str "law_whens_k14_whole_moved" 509) none (.ref 244) .none 0
noncomputable def o246 (P:Params):Obj:=tq []
noncomputable def o248 (P:Params):Obj:=tq [.str "_law_things_here" 616,.str "_law_found" 617,.str "_law_name" 618,.str "_law_kind" 619]
noncomputable def o249 (P:Params):Obj:=tq []
noncomputable def o251 (P:Params):Obj:=⟨.type "code",none,.fields #[.str "_law_all_ends" 613,.str "_law_all_ends" 614,.str "/claim/cut.py" 615,.int 172 0,.int 1 0,.int 0 0,.int 0 0,.int 3 0,.ref 246,.bool true,.int 181 0,.ref 247,.none,.ref 248,.ref 249,.ref 250,.int 620 0,.int 172 0,.str "/claim/cut.py" 621],#[]⟩
noncomputable def o252 (P:Params):Obj:=mf 41 (.type "function") 3 [] .none .none .none (.str "law_whens_k14_whole_moved" 509) none (.ref 251) .none 0
noncomputable def o253 (P:Params):Obj:=tq []
noncomputable def o255 (P:Params):Obj:=tq [.str "_law_things_here" 626,.str "_law_telling_here" 627,.str "_law_end" 628,.str "_law_k" 629]
noncomputable def o256 (P:Params):Obj:=tq []
noncomputable def o258 (P:Params):Obj:=⟨.type "code",none,.fields #[.str "_law_time" 623,.str "_law_time" 624,.str "/claim/cut.py" 625,.int 179 0,.int 3 0,.int 0 0,.int 0 0,.int 3 0,.ref 253,.bool true,.int 181 0,.ref 254,.none,.ref 255,.ref 256,.ref 257,.int 630 0,.int 179 0,.str "/claim/cut.py" 631],#[]⟩
noncomputable def o259 (P:Params):Obj:=mf 42 (.type "function") 3 [] .none .none .none (.str "law_whens_k14_whole_moved" 509) none (.ref 258) .none 0
noncomputable def o260 (P:Params):Obj:=tq []
noncomputable def o263 (P:Params):Obj:=⟨.type "code",none,.fields #[.str "_law_may_saying" 633,.str "_law_may_saying" 634,.str "/claim/cut.py" 635,.int 184 0,.int 3 0,.int 0 0,.int 0 0,.int 3 0,.ref 260,.bool true,.int 181 0,.ref 261,.none,.none,.none,.ref 262,.int 636 0,.int 184 0,.str "/claim/cut.py" 637],#[]⟩
noncomputable def o264 (P:Params):Obj:=mf 43 (.type "function") 3 [] .none .none .none (.str "law_whens_k14_whole_moved" 509) none (.ref 263) .none 0
noncomputable def o265 (P:Params):Obj:=tq []
noncomputable def o267 (P:Params):Obj:=tq [.str "_law_feed_here" 642,.str "_law_things_here" 643,.str "_law_telling_here" 644,.str "_law_ends" 645,.str "_law_k" 646,.str "_law_x" 647,.str "_law_y" 648,.str "_law_one" 649,.str "_law_other" 650,.str "_law_top" 651,.str "_law_bottom" 652,.str "_law_way" 653,.str "_law_number" 654]
noncomputable def o268 (P:Params):Obj:=tq []
noncomputable def o270 (P:Params):Obj:=⟨.type "code",none,.fields #[.str "_law_gap_saying" 639,.str "_law_gap_saying" 640,.str "/claim/cut.py" 641,.int 193 0,.int 3 0,.int 0 0,.int 0 0,.int 3 0,.ref 265,.bool true,.int 181 0,.ref 266,.none,.ref 267,.ref 268,.ref 269,.int 655 0,.int 193 0,.str "/claim/cut.py" 656],#[]⟩
noncomputable def o271 (P:Params):Obj:=mf 44 (.type "function") 3 [] .none .none .none (.str "law_whens_k14_whole_moved" 509) none (.ref 270) .none 0
noncomputable def o272 (P:Params):Obj:=tq []
noncomputable def o274 (P:Params):Obj:=tq [.str "_law_feed_here" 661,.str "_law_things_here" 662,.str "_law_telling_here" 663,.str "_law_most" 664,.str "_law_ends" 665,.str "_law_sayings" 666,.str "_law_k" 667]
noncomputable def o275 (P:Params):Obj:=tq []
noncomputable def o277 (P:Params):Obj:=⟨.type "code",none,.fields #[.str "_law_talk" 658,.str "_law_talk" 659,.str "/claim/cut.py" 660,.int 210 0,.int 4 0,.int 0 0,.int 0 0,.int 3 0,.ref 272,.bool true,.int 181 0,.ref 273,.none,.ref 274,.ref 275,.ref 276,.int 668 0,.int 210 0,.str "/claim/cut.py" 669],#[]⟩
noncomputable def o278 (P:Params):Obj:=mf 45 (.type "function") 3 [] .none .none .none (.str "law_whens_k14_whole_moved" 509) none (.ref 277) .none 0
noncomputable def o279 (P:Params):Obj:=tq []
noncomputable def o281 (P:Params):Obj:=tq [.str "_law_things_here" 674,.str "_law_telling_here" 675,.str "_law_k" 676,.str "_law_j" 677]
noncomputable def o282 (P:Params):Obj:=tq []
noncomputable def o284 (P:Params):Obj:=⟨.type "code",none,.fields #[.str "_law_row" 671,.str "_law_row" 672,.str "/claim/cut.py" 673,.int 219 0,.int 4 0,.int 0 0,.int 0 0,.int 3 0,.ref 279,.bool true,.int 181 0,.ref 280,.none,.ref 281,.ref 282,.ref 283,.int 678 0,.int 219 0,.str "/claim/cut.py" 679],#[]⟩
noncomputable def o285 (P:Params):Obj:=mf 46 (.type "function") 3 [] .none .none .none (.str "law_whens_k14_whole_moved" 509) none (.ref 284) .none 0
noncomputable def o286 (P:Params):Obj:=tq []
noncomputable def o288 (P:Params):Obj:=tq [.str "_law_things_here" 684,.str "_law_telling_here" 685,.str "_law_found" 686,.str "_law_k" 687,.str "_law_j" 688]
noncomputable def o289 (P:Params):Obj:=tq []
noncomputable def o291 (P:Params):Obj:=⟨.type "code",none,.fields #[.str "_law_table" 681,.str "_law_table" 682,.str "/claim/cut.py" 683,.int 221 0,.int 2 0,.int 0 0,.int 0 0,.int 3 0,.ref 286,.bool true,.int 181 0,.ref 287,.none,.ref 288,.ref 289,.ref 290,.int 689 0,.int 221 0,.str "/claim/cut.py" 690],#[]⟩
noncomputable def o292 (P:Params):Obj:=mf 47 (.type "function") 3 [] .none .none .none (.str "law_whens_k14_whole_moved" 509) none (.ref 291) .none 0
noncomputable def o293 (P:Params):Obj:=tq []
noncomputable def o295 (P:Params):Obj:=tq [.str "_law_time_here" 695,.str "_law_often" 696,.str "_law_more" 697,.str "_law_top" 698]
noncomputable def o296 (P:Params):Obj:=tq []
noncomputable def o298 (P:Params):Obj:=⟨.type "code",none,.fields #[.str "_law_moved_time" 692,.str "_law_moved_time" 693,.str "/claim/cut.py" 694,.int 227 0,.int 3 0,.int 0 0,.int 0 0,.int 3 0,.ref 293,.bool true,.int 181 0,.ref 294,.none,.ref 295,.ref 296,.ref 297,.int 699 0,.int 227 0,.str "/claim/cut.py" 700],#[]⟩
noncomputable def o299 (P:Params):Obj:=mf 48 (.type "function") 3 [] .none .none .none (.str "law_whens_k14_whole_moved" 509) none (.ref 298) .none 0
noncomputable def o300 (P:Params):Obj:=tq []
noncomputable def o303 (P:Params):Obj:=⟨.type "code",none,.fields #[.str "_law_all_moved" 702,.str "_law_all_moved" 703,.str "/claim/cut.py" 704,.int 230 0,.int 4 0,.int 0 0,.int 0 0,.int 3 0,.ref 300,.bool true,.int 181 0,.ref 301,.none,.none,.none,.ref 302,.int 705 0,.int 230 0,.str "/claim/cut.py" 706],#[]⟩
noncomputable def o304 (P:Params):Obj:=mf 49 (.type "function") 3 [] .none .none .none (.str "law_whens_k14_whole_moved" 509) none (.ref 303) .none 0
noncomputable def o305 (P:Params):Obj:=tq []
noncomputable def o307 (P:Params):Obj:=tq [.str "_law_things_here" 711,.str "_law_telling_here" 712,.str "_law_found" 713,.str "_law_more" 714,.str "_law_due" 715,.str "_law_turn" 716]
noncomputable def o308 (P:Params):Obj:=tq []
noncomputable def o310 (P:Params):Obj:=⟨.type "code",none,.fields #[.str "_law_often_right" 708,.str "_law_often_right" 709,.str "/claim/cut.py" 710,.int 238 0,.int 4 0,.int 0 0,.int 0 0,.int 3 0,.ref 305,.bool true,.int 181 0,.ref 306,.none,.ref 307,.ref 308,.ref 309,.int 717 0,.int 238 0,.str "/claim/cut.py" 718],#[]⟩
noncomputable def o311 (P:Params):Obj:=mf 50 (.type "function") 3 [] .none .none .none (.str "law_whens_k14_whole_moved" 509) none (.ref 310) .none 0
noncomputable def o312 (P:Params):Obj:=tq []
noncomputable def o315 (P:Params):Obj:=⟨.type "code",none,.fields #[.str "law" 720,.str "law" 721,.str "/claim/cut.py" 722,.int 244 0,.int 1 0,.int 0 0,.int 0 0,.int 3 0,.ref 312,.bool true,.int 181 0,.ref 313,.none,.none,.none,.ref 314,.int 723 0,.int 244 0,.str "/claim/cut.py" 724],#[]⟩
noncomputable def o316 (P:Params):Obj:=mf 51 (.type "function") 3 [] .none .none .none (.str "law_whens_k14_whole_moved" 509) none (.ref 315) .none 0
noncomputable def tF (P:Params):BT:=(.node (boot_o_0 P) (.node (boot_o_1 P) (.node (o3 P) (.node (boot_o_7 P) (.node (o15 P) (.node (o31 P) (.node (tq []) (.node (o127 P) (lf (o255 P)) .nil) (lf (o191 P))) (.node (o95 P) (.node (o159 P) (lf (fl [])) .nil) (lf (o223 P)))) (.node (mf 5 (.none) 0 [] .none .none .none .none none .none .none 0) (.node (o79 P) (.node (o143 P) (lf (o271 P)) .nil) (lf (o207 P))) (.node (o111 P) (.node (o175 P) (lf (o303 P)) .nil) (lf (o239 P))))) (.node (fl []) (.node (o39 P) (.node (o71 P) (.node (o135 P) (lf (o263 P)) .nil) (lf (o199 P))) (.node (o103 P) (.node (o167 P) (lf (o295 P)) .nil) (lf (mf 38 (.none) 0 [] .none .none .none .none none .none .none 0)))) (.node (o55 P) (.node (fl []) (.node (fl []) (lf (o279 P)) .nil) (lf (fl []))) (.node (mf 18 (.none) 0 [] .none .none .none .none none .none .none 0) (.node (mf 30 (.none) 0 [] .none .none .none .none none .none .none 0) (lf (o311 P)) .nil) (lf (fl [])))))) (.node (tq []) (.node (mf 1 (.none) 0 [] .none .none .none .none none .none .none 0) (.node (o35 P) (.node (o67 P) (.node (o131 P) (lf (o259 P)) .nil) (lf (o195 P))) (.node (o99 P) (.node (o163 P) (lf (o291 P)) .nil) (lf (o227 P)))) (.node (fl []) (.node (mf 11 (.none) 0 [] .none .none .none .none none .none .none 0) (.node (mf 22 (.none) 0 [] .none .none .none .none none .none .none 0) (lf (o275 P)) .nil) (lf (mf 34 (.none) 0 [] .none .none .none .none none .none .none 0))) (.node (o115 P) (.node (o179 P) (lf (o307 P)) .nil) (lf (mf 40 (.none) 0 [] .none .none .none .none none .none .none 0))))) (.node (o27 P) (.node (o43 P) (.node (o75 P) (.node (o139 P) (lf (o267 P)) .nil) (lf (o203 P))) (.node (o107 P) (.node (o171 P) (lf (o299 P)) .nil) (lf (fl [])))) (.node (tq []) (.node (o91 P) (.node (o155 P) (lf (mf 46 (.none) 0 [] .none .none .none .none none .none .none 0)) .nil) (lf (o219 P))) (.node (fl []) (.node (fl []) (lf (o315 P)) .nil) (lf (o251 P))))))) (.node (boot_o_5 P) (.node (boot_o_9 P) (.node (o17 P) (.node (mf 3 (.none) 0 [] .none .none .none .none none .none .none 0) (.node (o65 P) (.node (o129 P) (lf (mf 42 (.none) 0 [] .none .none .none .none none .none .none 0)) .nil) (lf (o193 P))) (.node (mf 13 (.none) 0 [] .none .none .none .none none .none .none 0) (.node (fl []) (lf (o289 P)) .nil) (lf (fl [])))) (.node (o49 P) (.node (o81 P) (.node (o145 P) (lf (fl [])) .nil) (lf (o209 P))) (.node (fl []) (.node (o177 P) (lf (o305 P)) .nil) (lf (o241 P))))) (.node (o25 P) (.node (o41 P) (.node (o73 P) (.node (fl []) (lf (o265 P)) .nil) (lf (fl []))) (.node (o105 P) (.node (mf 27 (.none) 0 [] .none .none .none .none none .none .none 0) (lf (mf 48 (.none) 0 [] .none .none .none .none none .none .none 0)) .nil) (lf (o233 P)))) (.node (o57 P) (.node (o89 P) (.node (o153 P) (lf (o281 P)) .nil) (lf (o217 P))) (.node (o121 P) (.node (o185 P) (lf (fl [])) .nil) (lf (o249 P)))))) (.node (⟨.type "code",none,.fields #[.str "<module>" 182,.str "<module>" 183,.str "/claim/cut.py" 184,.int 1 0,.int 0 0,.int 0 0,.int 0 0,.int 0 0,.ref 11,.bool false,.int 181 0,.ref 12,.none,.none,.none,.none,.int 185 0,.int 1 0,.str "/claim/cut.py" 186],#[]⟩) (.node (o21 P) (.node (fl []) (.node (o69 P) (.node (mf 20 (.none) 0 [] .none .none .none .none none .none .none 0) (lf (fl [])) .nil) (lf (mf 32 (.none) 0 [] .none .none .none .none none .none .none 0))) (.node (fl []) (.node (o165 P) (lf (o293 P)) .nil) (lf (o229 P)))) (.node (o53 P) (.node (o85 P) (.node (o149 P) (lf (o277 P)) .nil) (lf (o213 P))) (.node (o117 P) (.node (o181 P) (lf (mf 50 (.none) 0 [] .none .none .none .none none .none .none 0)) .nil) (lf (o245 P))))) (.node (o29 P) (.node (o45 P) (.node (o77 P) (.node (o141 P) (lf (mf 44 (.none) 0 [] .none .none .none .none none .none .none 0)) .nil) (lf (o205 P))) (.node (mf 15 (.none) 0 [] .none .none .none .none none .none .none 0) (.node (fl []) (lf (fl [])) .nil) (lf (o237 P)))) (.node (tq []) (.node (o93 P) (.node (mf 24 (.none) 0 [] .none .none .none .none none .none .none 0) (lf (o285 P)) .nil) (lf (mf 36 (.none) 0 [] .none .none .none .none none .none .none 0))) (.node (o125 P) (lf (o189 P)) (lf (o253 P)))))))) (.node (boot_o_2 P) (.node (boot_o_4 P) (.node (boot_o_8 P) (.node (fl []) (.node (o32 P) (.node (tq []) (.node (o128 P) (lf (o256 P)) .nil) (lf (o192 P))) (.node (o96 P) (.node (o160 P) (lf (o288 P)) .nil) (lf (o224 P)))) (.node (o48 P) (.node (fl []) (.node (fl []) (lf (o272 P)) .nil) (lf (fl []))) (.node (o112 P) (.node (mf 29 (.none) 0 [] .none .none .none .none none .none .none 0) (lf (o304 P)) .nil) (lf (o240 P))))) (.node (o24 P) (.node (mf 4 (.none) 0 [] .none .none .none .none none .none .none 0) (.node (o72 P) (.node (o136 P) (lf (o264 P)) .nil) (lf (o200 P))) (.node (mf 14 (.none) 0 [] .none .none .none .none none .none .none 0) (.node (fl []) (lf (o296 P)) .nil) (lf (o232 P)))) (.node (o56 P) (.node (o88 P) (.node (mf 23 (.none) 0 [] .none .none .none .none none .none .none 0) (lf (fl [])) .nil) (lf (mf 35 (.none) 0 [] .none .none .none .none none .none .none 0))) (.node (o120 P) (.node (o184 P) (lf (o312 P)) .nil) (lf (o248 P)))))) (.node (fl [.int 2 0,.int 0 0,.ref 20,.int 6 0,.int 0 0,.ref 27,.int 11 0,.int 0 0,.ref 34,.int 13 0,.int 0 0,.ref 41,.int 15 0,.int 0 0,.ref 48,.int 17 0,.int 0 0,.ref 55,.int 23 0,.int 0 0,.ref 84,.int 25 0,.int 0 0,.ref 91,.int 32 0,.int 0 0,.ref 98,.int 34 0,.int 0 0,.ref 105,.int 40 0,.int 0 0,.ref 110,.int 47 0,.int 0 0,.ref 115,.int 49 0,.int 0 0,.ref 120,.int 52 0,.int 0 0,.ref 127,.int 54 0,.int 0 0,.ref 134,.int 58 0,.int 0 0,.ref 141,.int 60 0,.int 0 0,.ref 148,.int 64 0,.int 0 0,.ref 153,.int 66 0,.int 0 0,.ref 158,.int 74 0,.int 0 0,.ref 165,.int 78 0,.int 0 0,.ref 170,.int 82 0,.int 0 0,.ref 177,.int 87 0,.int 0 0,.ref 184,.int 97 0,.int 0 0,.ref 191,.int 105 0,.int 0 0,.ref 198,.int 108 0,.int 0 0,.ref 205,.int 122 0,.int 0 0,.ref 212,.int 131 0,.int 0 0,.ref 217,.int 142 0,.int 0 0,.ref 222,.int 147 0,.int 0 0,.ref 227,.int 151 0,.int 0 0,.ref 232,.int 161 0,.int 0 0,.ref 239,.int 167 0,.int 0 0,.ref 244,.int 172 0,.int 0 0,.ref 251,.int 179 0,.int 0 0,.ref 258,.int 184 0,.int 0 0,.ref 263,.int 193 0,.int 0 0,.ref 270,.int 210 0,.int 0 0,.ref 277,.int 219 0,.int 0 0,.ref 284,.int 221 0,.int 0 0,.ref 291,.int 227 0,.int 0 0,.ref 298,.int 230 0,.int 0 0,.ref 303,.int 238 0,.int 0 0,.ref 310,.int 244 0,.int 0 0,.ref 315]) (.node (o20 P) (.node (o36 P) (.node (o68 P) (.node (o132 P) (lf (o260 P)) .nil) (lf (o196 P))) (.node (o100 P) (.node (mf 26 (.none) 0 [] .none .none .none .none none .none .none 0) (lf (o292 P)) .nil) (lf (o228 P)))) (.node (o52 P) (.node (o84 P) (.node (o148 P) (lf (mf 45 (.none) 0 [] .none .none .none .none none .none .none 0)) .nil) (lf (o212 P))) (.node (o116 P) (.node (fl []) (lf (o308 P)) .nil) (lf (o244 P))))) (.node (o28 P) (.node (fl []) (.node (o76 P) (.node (mf 21 (.none) 0 [] .none .none .none .none none .none .none 0) (lf (o268 P)) .nil) (lf (mf 33 (.none) 0 [] .none .none .none .none none .none .none 0))) (.node (fl []) (.node (o172 P) (lf (o300 P)) .nil) (lf (o236 P)))) (.node (tq []) (.node (o92 P) (.node (fl []) (lf (o284 P)) .nil) (lf (fl []))) (.node (o124 P) (.node (o188 P) (lf (o316 P)) .nil) (lf (o252 P))))))) (.node (boot_o_6 P) (.node (boot_o_10 P) (.node (o18 P) (.node (o34 P) (.node (o66 P) (.node (fl []) (lf (o258 P)) .nil) (lf (fl []))) (.node (o98 P) (.node (o162 P) (lf (mf 47 (.none) 0 [] .none .none .none .none none .none .none 0)) .nil) (lf (mf 37 (.none) 0 [] .none .none .none .none none .none .none 0)))) (.node (o50 P) (.node (o82 P) (.node (o146 P) (lf (o274 P)) .nil) (lf (o210 P))) (.node (mf 17 (.none) 0 [] .none .none .none .none none .none .none 0) (.node (o178 P) (lf (fl [])) .nil) (lf (fl []))))) (.node (mf 2 (.none) 0 [] .none .none .none .none none .none .none 0) (.node (o42 P) (.node (o74 P) (.node (o138 P) (lf (fl [])) .nil) (lf (o202 P))) (.node (o106 P) (.node (o170 P) (lf (o298 P)) .nil) (lf (o234 P)))) (.node (tq []) (.node (mf 12 (.none) 0 [] .none .none .none .none none .none .none 0) (.node (o154 P) (lf (o282 P)) .nil) (lf (o218 P))) (.node (o122 P) (.node (o186 P) (lf (mf 51 (.none) 0 [] .none .none .none .none none .none .none 0)) .nil) (lf (mf 41 (.none) 0 [] .none .none .none .none none .none .none 0)))))) (.node (⟨.type "frame",none,.plain,#[some (.ref 13),some (.ref 3),some (.ref 3),none,some (.str "__main__" 164),none,some (.ref 0)]⟩) (.node (o22 P) (.node (o38 P) (.node (o70 P) (.node (o134 P) (lf (mf 43 (.none) 0 [] .none .none .none .none none .none .none 0)) .nil) (lf (o198 P))) (.node (o102 P) (.node (o166 P) (lf (fl [])) .nil) (lf (fl [])))) (.node (mf 6 (.none) 0 [] .none .none .none .none none .none .none 0) (.node (o86 P) (.node (o150 P) (lf (o278 P)) .nil) (lf (o214 P))) (.node (fl []) (.node (o182 P) (lf (o310 P)) .nil) (lf (o246 P))))) (.node (fl []) (.node (o46 P) (.node (o78 P) (.node (o142 P) (lf (o270 P)) .nil) (lf (o206 P))) (.node (o110 P) (.node (o174 P) (lf (mf 49 (.none) 0 [] .none .none .none .none none .none .none 0)) .nil) (lf (mf 39 (.none) 0 [] .none .none .none .none none .none .none 0)))) (.node (tq []) (.node (fl []) (.node (o158 P) (lf (o286 P)) .nil) (lf (o222 P))) (.node (mf 19 (.none) 0 [] .none .none .none .none none .none .none 0) (lf (mf 31 (.none) 0 [] .none .none .none .none none .none .none 0)) (lf (fl [])))))))))
def stsR (a n:Nat):List Stmt:=(prog.main.body.drop a).take n
end H14
set_option maxRecDepth 100000
set_option maxHeartbeats 0
set_option Elab.async false
namespace H14
open PySem PySem.W HD
noncomputable abbrev T0 (w:World) (os:OsState):SharedT:=⟨pre.tree_49 w.params,58,{},⟨[]⟩,{},254,os⟩
abbrev D0:Obj:={ cls:=.type "dict",data:=.dict #[] }
abbrev tp (vs:List Value):Obj:={ cls:=.type "tuple",data:=.seq vs.toArray }
noncomputable abbrev T1 (w:World) (os:OsState):SharedT:=⟨(pre.tree_49 w.params).ins 58 D0,59,{},⟨[]⟩,{},254,os⟩
noncomputable def trP (P:Params):BT:=(((((((pre.tree_49 P).ins 58 D0).ins 59 (tp [.str "point" 254,.str "point" 255])).ins 60 (tp [.str "ahead" 256,.str "same" 257,.str "behind" 258])).ins 61 (tp [.str "point" 259,.str "stretch" 260])).ins 62 (tp [.str "ahead" 261,.str "begins" 262,.str "within" 263,.str "ends" 264,.str "behind" 265])).ins 63 (tp [.str "stretch" 266,.str "point" 267])).ins 64 (tp [.str "ahead" 268,.str "ended" 269,.str "holds" 270,.str "begun" 271,.str "behind" 272])
abbrev dO (es:List DictEntry):Obj:={ cls:=.type "dict",data:=.dict es.toArray es.length }
noncomputable abbrev TD (es:Params→List DictEntry) (w:World) (os:OsState) (k:Nat):SharedT:=⟨(trP w.params).ins 58 (dO (es w.params)),65,{},⟨[]⟩,{},k,os⟩
abbrev es0:Params→List DictEntry:=fun _=>[]
abbrev dp:Pos:=⟨21,14,21,204⟩
theorem zbl3:st=.Assign [.Name "POINT_WORDS" (pxOf st)] (.Dict (zaw6 st) (zas6 st) (dpOf st)) (spOf st):=by kernel_rfl
section
variable (w:World) (os:OsState) (p:Program) (b:List Stmt)
abbrev RR {α:Type} (N:Nat) (m:Sem α) (s:SharedT) (pos:Pos) (a:α) (s':SharedT) (pos':Pos):Prop:=R N treeTable p w 11 (some (Value.ref 6)) (Code.body b pre.env_1) [topFrame q0] m s.abs pos a s'.abs pos'
theorem zaB1:RR w p b 34 (evalPairs (pairTrees (zaw6 st) (zas6 st) pre.env_1 (dpOf st))) (T1 w os) dp [(.ref 59,.ref 60),(.ref 61,.ref 62),(.ref 63,.ref 64)] (TD es0 w os 273) dp :=
  R.leaf 34 fun K H gd lv=>by kernel_rfl
end
abbrev kh (P:Params) (z:Str):Int:=PyData.keyHash P z
def i1 (P:Params):Int:=Builtin.Tuple.tupleHashOf [kh P "point",kh P "point"]
def i2 (P:Params):Int:=Builtin.Tuple.tupleHashOf [kh P "point",kh P "stretch"]
def i3 (P:Params):Int:=Builtin.Tuple.tupleHashOf [kh P "stretch",kh P "point"]
def e1 (P:Params):DictEntry:=⟨reduceHash (i1 P),.ref 59,.ref 60⟩
def e2 (P:Params):DictEntry:=⟨reduceHash (i2 P),.ref 61,.ref 62⟩
def e3 (P:Params):DictEntry:=⟨reduceHash (i3 P),.ref 63,.ref 64⟩
abbrev es1:Params→List DictEntry:=fun P=>[e1 P]
abbrev es2:Params→List DictEntry:=fun P=>[e1 P,e2 P]
abbrev row:String:="special-get-raises"
section
variable (v:World) (os:OsState) (p:Program) (b:List Stmt)
theorem zJ0 (w:World) (t:String) (sT:SharedT) (pos:Pos):RR w p b 1 (rule t) sT pos () sT pos:=R.leaf 1 fun K H gd lv=>by
  obtain ⟨T,n,l,g,d,k,o⟩:=sT
  rfl
theorem zS6 (w:World) (i:Int) (sT:SharedT) (pos:Pos):RR w p b 1 (pyHashByItsType.reduced i) sT pos (reduceHash i) sT pos:=by
  unfold pyHashByItsType.reduced reduceHash
  by_cases hr:(decide (-(2:Int) ^ 63≤i) && decide (i < 2 ^ 63))=true
  · rw [if_pos hr,if_pos hr]
    exact R.mono (by decide) R.pure
  · rw [if_neg hr,if_neg hr]
    exact R.mono (N1:=1 + 0) (by decide) (R.bind (zJ0 p b w _ sT pos) R.pure)
theorem zap9:RR (v.withFollow row false) p b 26 (pyHash (.ref 59)) (TD es0 (v.withFollow row false) os 273) dp (reduceHash (i1 (v.withFollow row false).params)) (TD es0 (v.withFollow row false) os 276) dp:=by
  unfold pyHash pyHashByItsType
  refine R.mono (N1:=1 + (1 + (1 + (22 + 1)))) (by decide) (R.bind (R.leaf (sT':=(TD es0 (v.withFollow row false) os 273)) (a:=()) (pos':=dp) 1 fun K H gd lv=>by rw [Fast.te10295753902157049106,Fast.te14364793385576792824]; kernel_rfl) ?_)
  refine R.bind (R.leaf (sT':=(TD es0 (v.withFollow row false) os 273)) (a:=some (.builtin "tuple.__hash__")) (pos':=dp) 1 fun K H gd lv=>by rw [Fast.te10295753902157049106,Fast.te14364793385576792824]; kernel_rfl) ?_
  rw [if_neg (by decide)]
  refine R.bind (R.leaf (sT':=(TD es0 (v.withFollow row false) os 273)) (a:=some (.builtin "tuple.__hash__")) (pos':=dp) 1 fun K H gd lv=>by rw [Fast.te10295753902157049106,Fast.te14364793385576792824]; kernel_rfl) ?_
  rw [if_neg (by decide)]
  refine R.bind (R.leaf (sT':=(TD es0 (v.withFollow row false) os 276)) (a:=some (.int (i1 (v.withFollow row false).params) 275)) (pos':=dp) 22 fun K H gd lv=>by rw [Fast.te10295753902157049106,Fast.te14364793385576792824]; kernel_rfl) ?_
  exact zS6 p b _ _ _ _
theorem zay2:RR (v.withFollow row true) p b 26 (pyHash (.ref 59)) (TD es0 (v.withFollow row true) os 273) dp (reduceHash (i1 (v.withFollow row true).params)) (TD es0 (v.withFollow row true) os 276) dp:=by
  unfold pyHash pyHashByItsType
  refine R.mono (N1:=1 + (1 + (1 + (22 + 1)))) (by decide) (R.bind (R.leaf (sT':=(TD es0 (v.withFollow row true) os 273)) (a:=()) (pos':=dp) 1 fun K H gd lv=>by rw [Fast.te10295753902157049106,Fast.te14364793385576792824]; kernel_rfl) ?_)
  refine R.bind (R.leaf (sT':=(TD es0 (v.withFollow row true) os 273)) (a:=some (.builtin "tuple.__hash__")) (pos':=dp) 1 fun K H gd lv=>by rw [Fast.te10295753902157049106,Fast.te14364793385576792824]; kernel_rfl) ?_
  rw [if_neg (by decide)]
  refine R.bind (R.leaf (sT':=(TD es0 (v.withFollow row true) os 273)) (a:=some (.builtin "tuple.__hash__")) (pos':=dp) 1 fun K H gd lv=>by rw [Fast.te10295753902157049106,Fast.te14364793385576792824]; kernel_rfl) ?_
  rw [if_neg (by decide)]
  refine R.bind (R.leaf (sT':=(TD es0 (v.withFollow row true) os 276)) (a:=some (.int (i1 (v.withFollow row true).params) 275)) (pos':=dp) 22 fun K H gd lv=>by rw [Fast.te10295753902157049106,Fast.te14364793385576792824]; kernel_rfl) ?_
  exact zS6 p b _ _ _ _
theorem zap6:RR (v.withFollow row false) p b 26 (pyHash (.ref 61)) (TD es1 (v.withFollow row false) os 276) dp (reduceHash (i2 (v.withFollow row false).params)) (TD es1 (v.withFollow row false) os 279) dp:=by
  unfold pyHash pyHashByItsType
  refine R.mono (N1:=1 + (1 + (1 + (22 + 1)))) (by decide) (R.bind (R.leaf (sT':=(TD es1 (v.withFollow row false) os 276)) (a:=()) (pos':=dp) 1 fun K H gd lv=>by rw [Fast.te10295753902157049106,Fast.te14364793385576792824]; kernel_rfl) ?_)
  refine R.bind (R.leaf (sT':=(TD es1 (v.withFollow row false) os 276)) (a:=some (.builtin "tuple.__hash__")) (pos':=dp) 1 fun K H gd lv=>by rw [Fast.te10295753902157049106,Fast.te14364793385576792824]; kernel_rfl) ?_
  rw [if_neg (by decide)]
  refine R.bind (R.leaf (sT':=(TD es1 (v.withFollow row false) os 276)) (a:=some (.builtin "tuple.__hash__")) (pos':=dp) 1 fun K H gd lv=>by rw [Fast.te10295753902157049106,Fast.te14364793385576792824]; kernel_rfl) ?_
  rw [if_neg (by decide)]
  refine R.bind (R.leaf (sT':=(TD es1 (v.withFollow row false) os 279)) (a:=some (.int (i2 (v.withFollow row false).params) 278)) (pos':=dp) 22 fun K H gd lv=>by rw [Fast.te10295753902157049106,Fast.te14364793385576792824]; kernel_rfl) ?_
  exact zS6 p b _ _ _ _
theorem zax9:RR (v.withFollow row true) p b 26 (pyHash (.ref 61)) (TD es1 (v.withFollow row true) os 276) dp (reduceHash (i2 (v.withFollow row true).params)) (TD es1 (v.withFollow row true) os 279) dp:=by
  unfold pyHash pyHashByItsType
  refine R.mono (N1:=1 + (1 + (1 + (22 + 1)))) (by decide) (R.bind (R.leaf (sT':=(TD es1 (v.withFollow row true) os 276)) (a:=()) (pos':=dp) 1 fun K H gd lv=>by rw [Fast.te10295753902157049106,Fast.te14364793385576792824]; kernel_rfl) ?_)
  refine R.bind (R.leaf (sT':=(TD es1 (v.withFollow row true) os 276)) (a:=some (.builtin "tuple.__hash__")) (pos':=dp) 1 fun K H gd lv=>by rw [Fast.te10295753902157049106,Fast.te14364793385576792824]; kernel_rfl) ?_
  rw [if_neg (by decide)]
  refine R.bind (R.leaf (sT':=(TD es1 (v.withFollow row true) os 276)) (a:=some (.builtin "tuple.__hash__")) (pos':=dp) 1 fun K H gd lv=>by rw [Fast.te10295753902157049106,Fast.te14364793385576792824]; kernel_rfl) ?_
  rw [if_neg (by decide)]
  refine R.bind (R.leaf (sT':=(TD es1 (v.withFollow row true) os 279)) (a:=some (.int (i2 (v.withFollow row true).params) 278)) (pos':=dp) 22 fun K H gd lv=>by rw [Fast.te10295753902157049106,Fast.te14364793385576792824]; kernel_rfl) ?_
  exact zS6 p b _ _ _ _
theorem zaq5:RR (v.withFollow row false) p b 26 (pyHash (.ref 63)) (TD es2 (v.withFollow row false) os 279) dp (reduceHash (i3 (v.withFollow row false).params)) (TD es2 (v.withFollow row false) os 282) dp:=by
  unfold pyHash pyHashByItsType
  refine R.mono (N1:=1 + (1 + (1 + (22 + 1)))) (by decide) (R.bind (R.leaf (sT':=(TD es2 (v.withFollow row false) os 279)) (a:=()) (pos':=dp) 1 fun K H gd lv=>by rw [Fast.te10295753902157049106,Fast.te14364793385576792824]; kernel_rfl) ?_)
  refine R.bind (R.leaf (sT':=(TD es2 (v.withFollow row false) os 279)) (a:=some (.builtin "tuple.__hash__")) (pos':=dp) 1 fun K H gd lv=>by rw [Fast.te10295753902157049106,Fast.te14364793385576792824]; kernel_rfl) ?_
  rw [if_neg (by decide)]
  refine R.bind (R.leaf (sT':=(TD es2 (v.withFollow row false) os 279)) (a:=some (.builtin "tuple.__hash__")) (pos':=dp) 1 fun K H gd lv=>by rw [Fast.te10295753902157049106,Fast.te14364793385576792824]; kernel_rfl) ?_
  rw [if_neg (by decide)]
  refine R.bind (R.leaf (sT':=(TD es2 (v.withFollow row false) os 282)) (a:=some (.int (i3 (v.withFollow row false).params) 281)) (pos':=dp) 22 fun K H gd lv=>by rw [Fast.te10295753902157049106,Fast.te14364793385576792824]; kernel_rfl) ?_
  exact zS6 p b _ _ _ _
theorem zaA2:RR (v.withFollow row true) p b 26 (pyHash (.ref 63)) (TD es2 (v.withFollow row true) os 279) dp (reduceHash (i3 (v.withFollow row true).params)) (TD es2 (v.withFollow row true) os 282) dp:=by
  unfold pyHash pyHashByItsType
  refine R.mono (N1:=1 + (1 + (1 + (22 + 1)))) (by decide) (R.bind (R.leaf (sT':=(TD es2 (v.withFollow row true) os 279)) (a:=()) (pos':=dp) 1 fun K H gd lv=>by rw [Fast.te10295753902157049106,Fast.te14364793385576792824]; kernel_rfl) ?_)
  refine R.bind (R.leaf (sT':=(TD es2 (v.withFollow row true) os 279)) (a:=some (.builtin "tuple.__hash__")) (pos':=dp) 1 fun K H gd lv=>by rw [Fast.te10295753902157049106,Fast.te14364793385576792824]; kernel_rfl) ?_
  rw [if_neg (by decide)]
  refine R.bind (R.leaf (sT':=(TD es2 (v.withFollow row true) os 279)) (a:=some (.builtin "tuple.__hash__")) (pos':=dp) 1 fun K H gd lv=>by rw [Fast.te10295753902157049106,Fast.te14364793385576792824]; kernel_rfl) ?_
  rw [if_neg (by decide)]
  refine R.bind (R.leaf (sT':=(TD es2 (v.withFollow row true) os 282)) (a:=some (.int (i3 (v.withFollow row true).params) 281)) (pos':=dp) 22 fun K H gd lv=>by rw [Fast.te10295753902157049106,Fast.te14364793385576792824]; kernel_rfl) ?_
  exact zS6 p b _ _ _ _
end
section
variable (v:World) (bb:Bool) (os:OsState) (p:Program) (b:List Stmt)
noncomputable abbrev TX (es:List DictEntry) (w:World) (os:OsState) (k:Nat):SharedT:=⟨(trP w.params).ins 58 (dO es),65,{},⟨[]⟩,{},k,os⟩
theorem set1 (w:World) (x:Int):RR w p b 5 (dictSetHashed 58 (.ref 59) x (.ref 60)) (TX [] w os 276) dp () (TX [⟨x,.ref 59,.ref 60⟩] w os 276) dp :=
  R.leaf 5 fun K H gd lv=>by rw [Fast.te10295753902157049106,Fast.te14364793385576792824,Fast.te4359058424727691002]; kernel_rfl
theorem zaT4 (x y:Int) (k v:Value):placesWithHash (#[⟨x,k,v⟩]:Array DictEntry).size (fun i=>(#[⟨x,k,v⟩]:Array DictEntry)[i]?.map (·.hash)) y=if x=y then [0] else []:=by
  by_cases h:x=y <;> simp [placesWithHash,List.range_succ,h]
theorem zaZ0 (x x' y:Int) (k v k' v':Value):placesWithHash (#[⟨x,k,v⟩,⟨x',k',v'⟩]:Array DictEntry).size (fun i=>(#[⟨x,k,v⟩,⟨x',k',v'⟩]:Array DictEntry)[i]?.map (·.hash)) y=(if x=y then [0] else [])++(if x'=y then [1] else []):=by
  by_cases h:x=y <;> by_cases h':x'=y <;> simp [placesWithHash,List.range_succ,h,h']
theorem zbq0 (x y:Int):RR (v.withFollow row bb) p b 31 (dictFind 58 (.ref 61) y) (TX [⟨x,.ref 59,.ref 60⟩] (v.withFollow row bb) os 279) dp none (TX [⟨x,.ref 59,.ref 60⟩] (v.withFollow row bb) os 279) dp:=by
  unfold dictFind
  refine R.hold (R.bind (N1:=1) (N2:=30) (R.leaf (sT':=TX [⟨x,.ref 59,.ref 60⟩] (v.withFollow row bb) os 279) (a:=#[⟨x,.ref 59,.ref 60⟩]) (pos':=dp) 1 fun K H gd lv=>by rw [Fast.te10295753902157049106,Fast.te14364793385576792824]; kernel_rfl) ?_)
  have e:=zaT4 x y (.ref 59) (.ref 60)
  by_cases h:x=y
  · subst h
    rw [if_pos rfl] at e
    rw [e]
    simp [carriedByValue,-bind_pure_comp,-map_pure]
    refine R.mono (N1:=6 + (1 + (20 + (1 + (1 + 0))))) (by decide) (R.bind (R.leaf (sT':=TX [⟨x,.ref 59,.ref 60⟩] (v.withFollow row bb) os 279) (a:=false) (pos':=dp) 6 fun K H gd lv=>by rw [Fast.te10295753902157049106,Fast.te14364793385576792824,Fast.te11445937954039399578]; cases bb <;> kernel_rfl) ?_)
    refine R.bind (R.leaf (sT':=TX [⟨x,.ref 59,.ref 60⟩] (v.withFollow row bb) os 279) (a:=1) (pos':=dp) 1 fun K H gd lv=>by rw [Fast.te10295753902157049106,Fast.te14364793385576792824]; kernel_rfl) ?_
    refine R.bind (R.leaf (sT':=TX [⟨x,.ref 59,.ref 60⟩] (v.withFollow row bb) os 279) (a:=false) (pos':=dp) 20 fun K H gd lv=>by rw [Fast.te10295753902157049106,Fast.te14364793385576792824,Fast.te13926502685295537346]; cases bb <;> kernel_rfl) ?_
    refine R.bind (R.leaf (sT':=TX [⟨x,.ref 59,.ref 60⟩] (v.withFollow row bb) os 279) (a:=1) (pos':=dp) 1 fun K H gd lv=>by rw [Fast.te10295753902157049106,Fast.te14364793385576792824]; kernel_rfl) ?_
    simp [-bind_pure_comp,-map_pure]
    exact R.mono (N1:=1 + 0) (by decide) (R.bind (zJ0 p b _ _ _ _) R.pure)
  · rw [if_neg h] at e
    rw [e]
    exact R.mono (by decide) (R.leaf 0 fun K H gd lv=>by kernel_rfl)
end
section
variable (v:World) (bb:Bool) (os:OsState) (p:Program) (b:List Stmt) (x x':Int)
noncomputable abbrev TY (x x':Int) (w:World) (os:OsState):SharedT:=TX [⟨x,.ref 59,.ref 60⟩,⟨x',.ref 61,.ref 62⟩] w os 282
theorem ep3 (w:World):RR w p b 1 (dictEpoch 58 (keyPart (.ref 63))) (TY x x' w os) dp 2 (TY x x' w os) dp:=R.leaf 1 fun K H gd lv=>by rw [Fast.te10295753902157049106,Fast.te14364793385576792824]; kernel_rfl
theorem eq13:RR (v.withFollow row bb) p b 16 (eqBool (.ref 59) (.ref 63)) (TY x x' (v.withFollow row bb) os) dp false (TY x x' (v.withFollow row bb) os) dp:=R.leaf 16 fun K H gd lv=>by rw [Fast.te10295753902157049106,Fast.te14364793385576792824,Fast.te13926502685295537346]; cases bb <;> kernel_rfl
theorem eq23:RR (v.withFollow row bb) p b 16 (eqBool (.ref 61) (.ref 63)) (TY x x' (v.withFollow row bb) os) dp false (TY x x' (v.withFollow row bb) os) dp:=R.leaf 16 fun K H gd lv=>by rw [Fast.te10295753902157049106,Fast.te14364793385576792824,Fast.te13926502685295537346]; cases bb <;> kernel_rfl
theorem tl12:RR (v.withFollow row bb) p b 9 (tableMayTell (.ref 63) [.ref 59,.ref 61]) (TY x x' (v.withFollow row bb) os) dp false (TY x x' (v.withFollow row bb) os) dp:=R.leaf 9 fun K H gd lv=>by rw [Fast.te10295753902157049106,Fast.te14364793385576792824,Fast.te11445937954039399578]; cases bb <;> kernel_rfl
theorem tl1:RR (v.withFollow row bb) p b 6 (tableMayTell (.ref 63) [.ref 59]) (TY x x' (v.withFollow row bb) os) dp false (TY x x' (v.withFollow row bb) os) dp:=R.leaf 6 fun K H gd lv=>by rw [Fast.te10295753902157049106,Fast.te14364793385576792824,Fast.te11445937954039399578]; cases bb <;> kernel_rfl
theorem tl2:RR (v.withFollow row bb) p b 6 (tableMayTell (.ref 63) [.ref 61]) (TY x x' (v.withFollow row bb) os) dp false (TY x x' (v.withFollow row bb) os) dp:=R.leaf 6 fun K H gd lv=>by rw [Fast.te10295753902157049106,Fast.te14364793385576792824,Fast.te11445937954039399578]; cases bb <;> kernel_rfl
theorem zbn1 (y:Int):RR (v.withFollow row bb) p b 101 (dictFind 58 (.ref 63) y) (TY x x' (v.withFollow row bb) os) dp none (TY x x' (v.withFollow row bb) os) dp:=by
  unfold dictFind
  refine R.hold (R.bind (N1:=1) (N2:=100) (R.leaf (sT':=TY x x' (v.withFollow row bb) os) (a:=#[⟨x,.ref 59,.ref 60⟩,⟨x',.ref 61,.ref 62⟩]) (pos':=dp) 1 fun K H gd lv=>by rw [Fast.te10295753902157049106,Fast.te14364793385576792824]; kernel_rfl) ?_)
  have e:=zaZ0 x x' y (.ref 59) (.ref 60) (.ref 61) (.ref 62)
  by_cases h:x=y <;> by_cases h':x'=y
  · subst h
    rw [if_pos rfl,if_pos h'] at e
    rw [e]
    simp [carriedByValue,-bind_pure_comp,-map_pure,h']
    refine R.mono (N1:=9 + (1 + (16 + (1 + (1 + (1 + (16 + (1 + (1 + 0))))))))) (by decide) (R.bind (tl12 v bb os p b x x) ?_)
    rw [if_neg (by decide)]
    refine R.bind (ep3 os p b x x _) (R.bind (eq13 v bb os p b x x) (R.bind (ep3 os p b x x _) ?_))
    simp [-bind_pure_comp,-map_pure]
    refine R.mono (N1:=1 + (1 + (16 + (1 + (1 + 0))))) (by decide) (R.bind (zJ0 p b _ _ _ _) ?_)
    refine R.bind (ep3 os p b x x _) (R.bind (eq23 v bb os p b x x) (R.bind (ep3 os p b x x _) ?_))
    simp [-bind_pure_comp,-map_pure]
    exact R.mono (N1:=1 + 0) (by decide) (R.bind (zJ0 p b _ _ _ _) R.pure)
  · subst h
    rw [if_pos rfl,if_neg h'] at e
    rw [e]
    simp [carriedByValue,-bind_pure_comp,-map_pure]
    refine R.mono (N1:=6 + (1 + (16 + (1 + (1 + 0))))) (by decide) (R.bind (tl1 v bb os p b x x') ?_)
    refine R.bind (ep3 os p b x x' _) (R.bind (eq13 v bb os p b x x') (R.bind (ep3 os p b x x' _) ?_))
    simp [-bind_pure_comp,-map_pure]
    exact R.mono (N1:=1 + 0) (by decide) (R.bind (zJ0 p b _ _ _ _) R.pure)
  · subst h'
    rw [if_neg h,if_pos rfl] at e
    rw [e]
    simp [carriedByValue,-bind_pure_comp,-map_pure]
    refine R.mono (N1:=6 + (1 + (16 + (1 + (1 + 0))))) (by decide) (R.bind (tl2 v bb os p b x x') ?_)
    refine R.bind (ep3 os p b x x' _) (R.bind (eq23 v bb os p b x x') (R.bind (ep3 os p b x x' _) ?_))
    simp [-bind_pure_comp,-map_pure]
    exact R.mono (N1:=1 + 0) (by decide) (R.bind (zJ0 p b _ _ _ _) R.pure)
  · rw [if_neg h,if_neg h'] at e
    rw [e]
    exact R.mono (by decide) (R.leaf 0 fun K H gd lv=>by kernel_rfl)
theorem put2 (y:Int):RR (v.withFollow row bb) p b 35 (dictSetHashed 58 (.ref 61) y (.ref 62)) (TX [⟨x,.ref 59,.ref 60⟩] (v.withFollow row bb) os 279) dp () (TX [⟨x,.ref 59,.ref 60⟩,⟨y,.ref 61,.ref 62⟩] (v.withFollow row bb) os 279) dp:=by
  unfold dictSetHashed
  refine R.hold (R.bind (N1:=31) (N2:=4) (zbq0 v bb os p b x y) ?_)
  exact R.leaf 4 fun K H gd lv=>by rw [Fast.te10295753902157049106,Fast.te14364793385576792824]; kernel_rfl
theorem put3 (y:Int):RR (v.withFollow row bb) p b 105 (dictSetHashed 58 (.ref 63) y (.ref 64)) (TY x x' (v.withFollow row bb) os) dp () (TX [⟨x,.ref 59,.ref 60⟩,⟨x',.ref 61,.ref 62⟩,⟨y,.ref 63,.ref 64⟩] (v.withFollow row bb) os 282) dp:=by
  unfold dictSetHashed
  refine R.hold (R.bind (N1:=101) (N2:=4) (zbn1 v bb os p b x x' y) ?_)
  exact R.leaf 4 fun K H gd lv=>by rw [Fast.te10295753902157049106,Fast.te14364793385576792824]; kernel_rfl
end
section
variable (v:World) (bb:Bool) (os:OsState) (p:Program) (b:List Stmt)
abbrev p5:Pos:=⟨20,0,20,5⟩
abbrev sp:Pos:=⟨21,0,21,204⟩
abbrev px:Pos:=⟨21,0,21,11⟩
abbrev dE (P:Params):List DictEntry:=[⟨reduceHash (i1 P),.ref 59,.ref 60⟩,⟨reduceHash (i2 P),.ref 61,.ref 62⟩,⟨reduceHash (i3 P),.ref 63,.ref 64⟩]
noncomputable def trQ (P:Params) (es:List DictEntry):BT:=((trP P).ins 58 (dO es)).set 3 (Obj.putName "POINT_WORDS" (kh P "POINT_WORDS") (.str "POINT_WORDS" 282) (.ref 58))
noncomputable abbrev T6 (es:List DictEntry) (w:World) (os:OsState):SharedT:=⟨trQ w.params es,65,{},⟨[]⟩,{},283,os⟩
theorem zaB8 (w:World) (sT:SharedT) (q q':Pos):RR w p b 1 (standAt q') sT q () sT q':=R.leaf 1 fun K H gd lv=>by
  obtain ⟨T,n,l,g,d,k,o⟩:=sT
  rfl
theorem zbl6:RR (v.withFollow row bb) p b 26 (pyHash (.ref 59)) (TX [] (v.withFollow row bb) os 273) dp (reduceHash (i1 (v.withFollow row bb).params)) (TX [] (v.withFollow row bb) os 276) dp:=by
  cases bb
  · exact zap9 v os p b
  · exact zay2 v os p b
theorem zbk7:RR (v.withFollow row bb) p b 26 (pyHash (.ref 61)) (TX [e1 (v.withFollow row bb).params] (v.withFollow row bb) os 276) dp (reduceHash (i2 (v.withFollow row bb).params)) (TX [e1 (v.withFollow row bb).params] (v.withFollow row bb) os 279) dp:=by
  cases bb
  · exact zap6 v os p b
  · exact zax9 v os p b
theorem zbp5:RR (v.withFollow row bb) p b 26 (pyHash (.ref 63)) (TX [e1 (v.withFollow row bb).params,e2 (v.withFollow row bb).params] (v.withFollow row bb) os 279) dp (reduceHash (i3 (v.withFollow row bb).params)) (TX [e1 (v.withFollow row bb).params,e2 (v.withFollow row bb).params] (v.withFollow row bb) os 282) dp:=by
  cases bb
  · exact zaq5 v os p b
  · exact zaA2 v os p b
theorem zaO9 (w:World) (es:List DictEntry):RR w p b 6 (bindName pre.env_1 "POINT_WORDS" (.ref 58)) (TX es w os 282) px () (T6 es w os) px:=R.leaf 6 fun K H gd lv=>by rw [Fast.te10295753902157049106,Fast.te14364793385576792824,Fast.te7536695828754713326]; kernel_rfl
theorem zaG3 (w:World):RR w p b 1 (alloc D0) (T0 w os) dp 58 (T1 w os) dp:=R.leaf 1 fun K H gd lv=>by kernel_rfl
theorem zbc7:dpOf st=dp:=by kernel_rfl
theorem zbq1:pxOf st=px:=by kernel_rfl
theorem zbo7:spOf st=sp:=by kernel_rfl
theorem zaj9:RR (v.withFollow row bb) p b 300 (exec st pre.env_1) (T0 (v.withFollow row bb) os) p5 .next (T6 (dE (v.withFollow row bb).params) (v.withFollow row bb) os) px:=by
  rw [zbl3,exec_Assign_Name (env:=pre.env_1) "POINT_WORDS" (pxOf st) (.Dict (zaw6 st) (zas6 st) (dpOf st)) (spOf st) (by rfl),zbo7,zbq1]
  refine R.mono (N1:=1 + (292 + (1 + (6 + 0)))) (by decide) (R.bind (zaB8 p b _ _ _ _) (R.bind (a:=.ref 58) (pos1:=dp) ?_ (R.bind (zaB8 p b _ _ _ _) (R.bind (zaO9 os p b _ _) R.pure))))
  rw [arm_eval_Dict,zip_pairTrees (zaw6 st) (zas6 st) pre.env_1 (dpOf st) (by kernel_rfl) (by kernel_rfl),dictDisplay_pairs _ (fun h=>by have:=congrArg List.length h; rw [pairTrees_length _ _ _ _ (by kernel_rfl) (by kernel_rfl)] at this; exact absurd this (by decide)) (by rw [pairTrees_length _ _ _ _ (by kernel_rfl) (by kernel_rfl)]; decide)]
  rw [zbc7]
  refine R.bind (N1:=1) (N2:=291) (zaB8 p b _ _ _ _) (R.bind (N1:=291) (N2:=0) (a:=58) (pos1:=dp) ?_ R.pure)
  unfold subDict
  refine R.bind (N1:=1) (N2:=290) (zaG3 os p b _) (R.bind (N1:=290) (N2:=0) (a:=()) (pos1:=dp) (R.hold ?_) R.pure)
  rw [if_pos (by rw [pairTrees_length _ _ _ _ (by kernel_rfl) (by kernel_rfl)]; decide)]
  have pr:=zaB1 (v.withFollow row bb) os p b
  rw [zbc7] at pr
  refine R.bind (N1:=34) (N2:=256) pr (R.hold ?_)
  simp only [List.forIn_cons,List.forIn_nil,bind_assoc,pure_bind]
  refine R.mono (N1:=26 + 5 + (26 + 35 + (26 + 105 + 0))) (by decide) (R.bind (R.hold (R.bind (zbl6 v bb os p b) (set1 os p b _ _))) ?_)
  refine R.bind (R.hold (R.bind (zbk7 v bb os p b) (put2 v bb os p b _ _))) ?_
  refine R.bind (R.hold (R.bind (zbp5 v bb os p b) (put3 v bb os p b _ _ _))) ?_
  exact R.pure
end
end H14
set_option maxRecDepth 100000
set_option maxHeartbeats 0
set_option Elab.async false
namespace H14
open PySem PySem.W HD
noncomputable def ov (es:List DictEntry) (t:BT):BT:=((((((t.ins 58 (dO es)).ins 59 (tp [.str "point" 254,.str "point" 255])).ins 60 (tp [.str "ahead" 256,.str "same" 257,.str "behind" 258])).ins 61 (tp [.str "point" 259,.str "stretch" 260])).ins 62 (tp [.str "ahead" 261,.str "begins" 262,.str "within" 263,.str "ends" 264,.str "behind" 265])).ins 63 (tp [.str "stretch" 266,.str "point" 267])).ins 64 (tp [.str "ahead" 268,.str "ended" 269,.str "holds" 270,.str "begun" 271,.str "behind" 272])
noncomputable abbrev TV (es:List DictEntry) (t:BT) (n k:Nat) (os:OsState):SharedT:=⟨ov es t,n,{},⟨[]⟩,{},k,os⟩
section
variable (w:World) (p:Program) (b:List Stmt) (os:OsState) (es:List DictEntry)
noncomputable abbrev cB (b:List Stmt):Code:=Code.body b pre.env_1
theorem run1:segRunT treeTable p w 11 (some (.ref 6)) 1 1555 (T6 es w os) (piecesOf (stsR 10 42) pre.env_1 (cB b) ⟨21,0,21,11⟩ [topFrame q0])=some (.next,TV es (tF w.params) 317 726 os,cB b,⟨244,0,265,15⟩):=by
  refine byRow2 "special-get-raises" (P:=fun w=>segRunT treeTable p w 11 (some (.ref 6)) 1 1555 (T6 es w os) (piecesOf (stsR 10 42) pre.env_1 (cB b) ⟨21,0,21,11⟩ [topFrame q0])=some (.next,TV es (tF w.params) 317 726 os,cB b,⟨244,0,265,15⟩)) (fun w=>?_) (fun w=>?_) w
  · rw [Fast.te10110043849684766642,Fast.te14364793385576792824]; kernel_rfl
  · rw [Fast.te10110043849684766642,Fast.te14364793385576792824]; kernel_rfl
end
noncomputable abbrev bE:List Stmt:=behindTheImports prog
theorem zaS8:bE=pre.sts_4++(st :: (stsR 10 42++[])):=by kernel_rfl
noncomputable abbrev SB (w:World) (os:OsState):SharedT:=⟨pre.tree_4 w.params,15,{},⟨[]⟩,{},187,os⟩
section
variable (w:World) (os:OsState)
theorem zaX8:topGo treeTable prog w 11 (some (.ref 6)) 12 ⟨boot_heap w.params,⟨[]⟩,boot_drawn,boot_toks,os⟩ (topStub prog)=some ((SB w os).abs,⟨denote treeTable (.body bE pre.env_1),.body bE pre.env_1,q0,[topFrame q0]⟩):=by
  rw [Fast.te15667345088766844465,Fast.te11892475500146522536,Fast.te14364793385576792824]; kernel_rfl
theorem zaC2:segRun treeTable prog w 11 (some (.ref 6)) 1 1 (SB w os).abs (blockOf bE pre.env_1 (.body bE pre.env_1) q0 [topFrame q0])=some (.next,(SB w os).abs,.body bE pre.env_1,q0):=by
  kernel_rfl
theorem zaW7 (b:List Stmt) (es:List DictEntry):topRun treeTable prog w 11 (some (.ref 6)) 2 (TV es (tF w.params) 317 726 os).abs ⟨doneF .next,cB b,⟨244,0,265,15⟩,[topFrame q0]⟩=some (TV es (tF w.params) 317 726 os).abs:=by
  kernel_rfl
theorem zaC7 {rest:List Stmt} {N:Nat} {r:Shared} (b:List Stmt) (h:topRun treeTable prog w 11 (some (.ref 6)) N (T6 (dE w.params) w os).abs (restOf rest pre.env_1 (.body b pre.env_1) ⟨21,0,21,11⟩ [topFrame q0])=some r) :
    topRun treeTable prog w 11 (some (.ref 6)) (301 + N) (T0 w os).abs (restOf (st :: rest) pre.env_1 (.body b pre.env_1) ⟨20,0,20,5⟩ [topFrame q0])=some r:=by
  revert h
  refine byRow2 "special-get-raises" (P:=fun w=>topRun treeTable prog w 11 (some (.ref 6)) N (T6 (dE w.params) w os).abs (restOf rest pre.env_1 (.body b pre.env_1) ⟨21,0,21,11⟩ [topFrame q0])=some r→topRun treeTable prog w 11 (some (.ref 6)) (301 + N) (T0 w os).abs (restOf (st :: rest) pre.env_1 (.body b pre.env_1) ⟨20,0,20,5⟩ [topFrame q0])=some r) (fun w h=>?_) (fun w h=>?_) w
  · obtain ⟨n,l,e⟩:=R.piece (zaj9 w false os prog b)
    have:=topRun_mono (301 - n) _ _ _ _ (piece_cons e h)
    rw [show n + N + (301 - n)=301 + N by omega] at this
    exact this
  · obtain ⟨n,l,e⟩:=R.piece (zaj9 w true os prog b)
    have:=topRun_mono (301 - n) _ _ _ _ (piece_cons e h)
    rw [show n + N + (301 - n)=301 + N by omega] at this
    exact this
theorem zaN0 (b:List Stmt) (es:List DictEntry):topRun treeTable prog w 11 (some (.ref 6)) (1555 + 2) (T6 es w os).abs (restOf (stsR 10 42++[]) pre.env_1 (.body b pre.env_1) ⟨21,0,21,11⟩ [topFrame q0])=some (TV es (tF w.params) 317 726 os).abs:=by
  exact piece_app (segRun_of (run1 w prog b os es)) (piece_nil (zaW7 w os b es))
noncomputable def H1 (P:Params):Heap:=absHeap (ov (dE P) (tF P)) 317 {}
theorem zaZ2:topRun treeTable prog w 11 (some (.ref 6)) (12 + (1 + (223 + (301 + (1555 + 2))))) ⟨boot_heap w.params,⟨[]⟩,boot_drawn,boot_toks,os⟩ (topStub prog)=some ⟨H1 w.params,⟨[]⟩,{},726,os⟩:=by
  refine go_top (zaX8 w os) (piece_block (zaC2 w os) ?_)
  rw [zaS8]
  exact pre.chain prog _ w os _ _ _ (zaC7 w os _ (zaN0 w os _ _))
end
def qv:Program:=view prog [1,2,3,4,5,6,8,9,10,11,12,13,14,15,17,18,19,20,21,22,23,24,26,27,29,30,31,32,33,34,35,36,37,38,39,40,41,42,43,44,45,46,47,48,49,50,51]
def lo:List Str:=[Str.ofString "POINT_WORDS",Str.ofString "WAYS"]
abbrev lw:OpenLaw:=PySem.Challenge.rw_whens_k14_whole_moved
abbrev XT:Shared→Bool:=fun s=>xlAt qv [] s && recOk (RowW.records lw.row.toRowW) s
theorem zaF0 (N:Nat) (h:Nat.ble 600 N=true):∀ w:World,(fencedOpening treeTable prog w N).map (fun s=>(s.heap,s.gens,s.drawn,s.toks))=some (boot_heap w.params,⟨[]⟩,boot_drawn,boot_toks):=boot_open (by kernel_rfl) h (fun _=>rfl)
theorem zaK2 (w:World):((boot_heap w.params).isNs mainGlobals && (⟨[]⟩:Array GenState).size == 0,(boot_heap w.params).objs.size,(boot_heap w.params).nsMap mainGlobals "__annotations__")=(true,11,some (.ref 6)):=by kernel_rfl
theorem zbm7 (w:World) (os:OsState):(staticsOk (importedModules prog.main.body) (boot_heap w.params) (H1 w.params) && namesBound prog (H1 w.params) && gensDone ⟨H1 w.params,⟨[]⟩,{},726,os⟩ && laidKept (boot_heap w.params) (H1 w.params))=true:=by kernel_rfl
theorem zbp1 (w:World) (os:OsState):openSeen qv lo (importedModules prog.main.body) XT true ⟨H1 w.params,⟨[]⟩,{},726,os⟩=openGood qv lo:=by
  rw [Fast.te4187177175401517315]; kernel_rfl
theorem left (H:Hook) (hH:∀ (w:World) (os:OsState),H.obs ⟨H1 w.params,⟨[]⟩,{},726,os⟩=H.val w):LeftO prog qv lo XT H.obs H.val 4840 :=
  LeftO.of_pieces (H₀:=boot_heap) (H₁:=H1) (gs₀:=⟨[]⟩) (gs₁:=⟨[]⟩) (d₀:=boot_drawn) (d₁:={}) (k₀:=boot_toks) (k₁:=726) (m₀:=11) (ann:=some (.ref 6)) (M:=2094) (zaF0 4840 (by decide)) zaK2 zaZ2 (by decide) fun w=>funext fun os=>by rw [zbm7 w os,zbp1 w os,hH w os]
theorem head {H:Hook} {d:DefRec} {kwd:List (Str×Expr)} (hH:∀ (w:World) (os:OsState),H.obs ⟨H1 w.params,⟨[]⟩,{},726,os⟩=H.val w) (k1:lw.row.wellSaid=true) (hdef:defOf qv lw.row.name=some (d,kwd)) (hp:lw.row.prog.theDef lw.row.name=some (d.params,d.body,d.scope)) (hk:kwWritten? d.params.kwonlyargs d.params.kw_defaults=some kwd)
    (hw:lw.row.toRowW.promised) (call:WalkO qv lo (XL qv []) H.says lw.row.toRowW d kwd fun f vs=>PySem.call f vs):lw.row.Holds :=
  holds_open (q:=qv) (loose:=lo) (Xt:=XT) (XP:=XL qv []) (Yf:=H.obs) (Ya:=H.val) (YP:=H.says) (N:=4840) (left H hH) (Hook.of H) (Hook.keeps H) (fun s e=>xl_of s (Bool.and_eq_true_iff.mp e).1) XL.keeps hdef hp hk (fun s e=>recFacts_of (Bool.and_eq_true_iff.mp e).2) (by rfl) k1 (by decide +kernel) ⟨rfl,rfl,rfl,rfl,rfl,by decide +kernel⟩ hw call
end H14
namespace K14
open PySem PySem.Spec PyProof.Rows L2 DL
theorem us_n {P:List Value→Prop} (h:P []):∀ us:List Value,us.length=0→P us
  | [],_=>h
  | _ :: _,e=>nomatch e
theorem us_c {P:List Value→Prop} {n:Nat} (h:∀ a us,us.length=n→P (a :: us)):∀ us:List Value,us.length=n + 1→P us
  | [],e=>nomatch e
  | a :: us,e=>h a us (Nat.succ.inj e)
theorem us_1 {fd:FuncData} {ps:List Str} (h:∀ a0,bindArgs fd { pos:=[a0] }=pure (ps.zip [a0])) (us:List Value) (hl:us.length=1):bindArgs fd { pos:=us }=pure (ps.zip us) :=
  (us_c (P:=fun us=>bindArgs fd { pos:=us }=pure (ps.zip (us))) (fun a0=>us_n (P:=fun us=>bindArgs fd { pos:=a0 :: us }=pure (ps.zip (a0 :: us))) (h a0))) us hl
theorem us_2 {fd:FuncData} {ps:List Str} (h:∀ a0 a1,bindArgs fd { pos:=[a0,a1] }=pure (ps.zip [a0,a1])) (us:List Value) (hl:us.length=2):bindArgs fd { pos:=us }=pure (ps.zip us) :=
  (us_c (P:=fun us=>bindArgs fd { pos:=us }=pure (ps.zip (us))) (fun a0=>us_c (P:=fun us=>bindArgs fd { pos:=a0 :: us }=pure (ps.zip (a0 :: us))) (fun a1=>us_n (P:=fun us=>bindArgs fd { pos:=a0 :: a1 :: us }=pure (ps.zip (a0 :: a1 :: us))) (h a0 a1)))) us hl
theorem us_3 {fd:FuncData} {ps:List Str} (h:∀ a0 a1 a2,bindArgs fd { pos:=[a0,a1,a2] }=pure (ps.zip [a0,a1,a2])) (us:List Value) (hl:us.length=3):bindArgs fd { pos:=us }=pure (ps.zip us) :=
  (us_c (P:=fun us=>bindArgs fd { pos:=us }=pure (ps.zip (us))) (fun a0=>us_c (P:=fun us=>bindArgs fd { pos:=a0 :: us }=pure (ps.zip (a0 :: us))) (fun a1=>us_c (P:=fun us=>bindArgs fd { pos:=a0 :: a1 :: us }=pure (ps.zip (a0 :: a1 :: us))) (fun a2=>us_n (P:=fun us=>bindArgs fd { pos:=a0 :: a1 :: a2 :: us }=pure (ps.zip (a0 :: a1 :: a2 :: us))) (h a0 a1 a2))))) us hl
theorem us_4 {fd:FuncData} {ps:List Str} (h:∀ a0 a1 a2 a3,bindArgs fd { pos:=[a0,a1,a2,a3] }=pure (ps.zip [a0,a1,a2,a3])) (us:List Value) (hl:us.length=4):bindArgs fd { pos:=us }=pure (ps.zip us) :=
  (us_c (P:=fun us=>bindArgs fd { pos:=us }=pure (ps.zip (us))) (fun a0=>us_c (P:=fun us=>bindArgs fd { pos:=a0 :: us }=pure (ps.zip (a0 :: us))) (fun a1=>us_c (P:=fun us=>bindArgs fd { pos:=a0 :: a1 :: us }=pure (ps.zip (a0 :: a1 :: us))) (fun a2=>us_c (P:=fun us=>bindArgs fd { pos:=a0 :: a1 :: a2 :: us }=pure (ps.zip (a0 :: a1 :: a2 :: us))) (fun a3=>us_n (P:=fun us=>bindArgs fd { pos:=a0 :: a1 :: a2 :: a3 :: us }=pure (ps.zip (a0 :: a1 :: a2 :: a3 :: us))) (h a0 a1 a2 a3)))))) us hl
theorem us_5 {fd:FuncData} {ps:List Str} (h:∀ a0 a1 a2 a3 a4,bindArgs fd { pos:=[a0,a1,a2,a3,a4] }=pure (ps.zip [a0,a1,a2,a3,a4])) (us:List Value) (hl:us.length=5):bindArgs fd { pos:=us }=pure (ps.zip us) :=
  (us_c (P:=fun us=>bindArgs fd { pos:=us }=pure (ps.zip (us))) (fun a0=>us_c (P:=fun us=>bindArgs fd { pos:=a0 :: us }=pure (ps.zip (a0 :: us))) (fun a1=>us_c (P:=fun us=>bindArgs fd { pos:=a0 :: a1 :: us }=pure (ps.zip (a0 :: a1 :: us))) (fun a2=>us_c (P:=fun us=>bindArgs fd { pos:=a0 :: a1 :: a2 :: us }=pure (ps.zip (a0 :: a1 :: a2 :: us))) (fun a3=>us_c (P:=fun us=>bindArgs fd { pos:=a0 :: a1 :: a2 :: a3 :: us }=pure (ps.zip (a0 :: a1 :: a2 :: a3 :: us))) (fun a4=>us_n (P:=fun us=>bindArgs fd { pos:=a0 :: a1 :: a2 :: a3 :: a4 :: us }=pure (ps.zip (a0 :: a1 :: a2 :: a3 :: a4 :: us))) (h a0 a1 a2 a3 a4))))))) us hl
theorem all_mk {l:PySem.W.OpenLaw} {w:World} {K:PySem.W.Frag} {h:Heap} {mg:Str→Option Value} {fa:Addr} (X:K.In h) (G:h.Ns mainGlobals mg) (hfa:mg "law"=some (.ref fa))
    {f_common:Addr} {od_0 an_0:Option Addr} {sl_0:Array (Option Value)} {oc_0 kV_0 dc_0 pm_0 cd_0 ct_0:Value} (a0:PySem.W.nsIn K mainGlobals "common"=some (some (.ref f_common))) (l0:K.lookup f_common=some ⟨oc_0,od_0,.func (PySem.W.fnOf "common" "common" (zc4 zE5) (zc1 zE5) (za8 zE5) .none kV_0 dc_0 pm_0 an_0 cd_0 ct_0),sl_0⟩) (c0:PySem.W.codeIn K cd_0 "common"=true) (k0:PySem.W.keepIn K (.ref f_common)=true)
    {f_fraction:Addr} {od_1 an_1:Option Addr} {sl_1:Array (Option Value)} {oc_1 kV_1 dc_1 pm_1 cd_1 ct_1:Value} (a1:PySem.W.nsIn K mainGlobals "fraction"=some (some (.ref f_fraction))) (l1:K.lookup f_fraction=some ⟨oc_1,od_1,.func (PySem.W.fnOf "fraction" "fraction" (zc4 zl1) (zc1 zl1) (za8 zl1) .none kV_1 dc_1 pm_1 an_1 cd_1 ct_1),sl_1⟩) (c1:PySem.W.codeIn K cd_1 "fraction"=true) (k1:PySem.W.keepIn K (.ref f_fraction)=true)
    {f_plus:Addr} {od_2 an_2:Option Addr} {sl_2:Array (Option Value)} {oc_2 kV_2 dc_2 pm_2 cd_2 ct_2:Value} (a2:PySem.W.nsIn K mainGlobals "plus"=some (some (.ref f_plus))) (l2:K.lookup f_plus=some ⟨oc_2,od_2,.func (PySem.W.fnOf "plus" "plus" (zc4 zab8) (zc1 zab8) (za8 zab8) .none kV_2 dc_2 pm_2 an_2 cd_2 ct_2),sl_2⟩) (c2:PySem.W.codeIn K cd_2 "plus"=true) (k2:PySem.W.keepIn K (.ref f_plus)=true)
    {f_less:Addr} {od_3 an_3:Option Addr} {sl_3:Array (Option Value)} {oc_3 kV_3 dc_3 pm_3 cd_3 ct_3:Value} (a3:PySem.W.nsIn K mainGlobals "less"=some (some (.ref f_less))) (l3:K.lookup f_less=some ⟨oc_3,od_3,.func (PySem.W.fnOf "less" "less" (zc4 zZ8) (zc1 zZ8) (za8 zZ8) .none kV_3 dc_3 pm_3 an_3 cd_3 ct_3),sl_3⟩) (c3:PySem.W.codeIn K cd_3 "less"=true) (k3:PySem.W.keepIn K (.ref f_less)=true)
    {f_product:Addr} {od_4 an_4:Option Addr} {sl_4:Array (Option Value)} {oc_4 kV_4 dc_4 pm_4 cd_4 ct_4:Value} (a4:PySem.W.nsIn K mainGlobals "product"=some (some (.ref f_product))) (l4:K.lookup f_product=some ⟨oc_4,od_4,.func (PySem.W.fnOf "product" "product" (zc4 zu7) (zc1 zu7) (za8 zu7) .none kV_4 dc_4 pm_4 an_4 cd_4 ct_4),sl_4⟩) (c4:PySem.W.codeIn K cd_4 "product"=true) (k4:PySem.W.keepIn K (.ref f_product)=true)
    {f_is_below:Addr} {od_5 an_5:Option Addr} {sl_5:Array (Option Value)} {oc_5 kV_5 dc_5 pm_5 cd_5 ct_5:Value} (a5:PySem.W.nsIn K mainGlobals "is_below"=some (some (.ref f_is_below))) (l5:K.lookup f_is_below=some ⟨oc_5,od_5,.func (PySem.W.fnOf "is_below" "is_below" (zc4 zn9) (zc1 zn9) (za8 zn9) .none kV_5 dc_5 pm_5 an_5 cd_5 ct_5),sl_5⟩) (c5:PySem.W.codeIn K cd_5 "is_below"=true) (k5:PySem.W.keepIn K (.ref f_is_below)=true)
    {f_words_of:Addr} {od_6 an_6:Option Addr} {sl_6:Array (Option Value)} {oc_6 kV_6 dc_6 pm_6 cd_6 ct_6:Value} (a6:PySem.W.nsIn K mainGlobals "words_of"=some (some (.ref f_words_of))) (l6:K.lookup f_words_of=some ⟨oc_6,od_6,.func (PySem.W.fnOf "words_of" "words_of" (zc4 zr5) (zc1 zr5) (za8 zr5) .none kV_6 dc_6 pm_6 an_6 cd_6 ct_6),sl_6⟩) (c6:PySem.W.codeIn K cd_6 "words_of"=true) (k6:PySem.W.keepIn K (.ref f_words_of)=true)
    {f_ways_by:Addr} {od_7 an_7:Option Addr} {sl_7:Array (Option Value)} {oc_7 kV_7 dc_7 pm_7 cd_7 ct_7:Value} (a7:PySem.W.nsIn K mainGlobals "ways_by"=some (some (.ref f_ways_by))) (l7:K.lookup f_ways_by=some ⟨oc_7,od_7,.func (PySem.W.fnOf "ways_by" "ways_by" (zc4 zx4) (zc1 zx4) (za8 zx4) .none kV_7 dc_7 pm_7 an_7 cd_7 ct_7),sl_7⟩) (c7:PySem.W.codeIn K cd_7 "ways_by"=true) (k7:PySem.W.keepIn K (.ref f_ways_by)=true)
    {f_is_point:Addr} {od_8 an_8:Option Addr} {sl_8:Array (Option Value)} {oc_8 kV_8 dc_8 pm_8 cd_8 ct_8:Value} (a8:PySem.W.nsIn K mainGlobals "is_point"=some (some (.ref f_is_point))) (l8:K.lookup f_is_point=some ⟨oc_8,od_8,.func (PySem.W.fnOf "is_point" "is_point" (zc4 zq7) (zc1 zq7) (za8 zq7) .none kV_8 dc_8 pm_8 an_8 cd_8 ct_8),sl_8⟩) (c8:PySem.W.codeIn K cd_8 "is_point"=true) (k8:PySem.W.keepIn K (.ref f_is_point)=true)
    {f_way_of:Addr} {od_9 an_9:Option Addr} {sl_9:Array (Option Value)} {oc_9 kV_9 dc_9 pm_9 cd_9 ct_9:Value} (a9:PySem.W.nsIn K mainGlobals "way_of"=some (some (.ref f_way_of))) (l9:K.lookup f_way_of=some ⟨oc_9,od_9,.func (PySem.W.fnOf "way_of" "way_of" (zc4 zE7) (zc1 zE7) (za8 zE7) .none kV_9 dc_9 pm_9 an_9 cd_9 ct_9),sl_9⟩) (c9:PySem.W.codeIn K cd_9 "way_of"=true) (k9:PySem.W.keepIn K (.ref f_way_of)=true)
    {f_word_of:Addr} {od_10 an_10:Option Addr} {sl_10:Array (Option Value)} {oc_10 kV_10 dc_10 pm_10 cd_10 ct_10:Value} (a10:PySem.W.nsIn K mainGlobals "word_of"=some (some (.ref f_word_of))) (l10:K.lookup f_word_of=some ⟨oc_10,od_10,.func (PySem.W.fnOf "word_of" "word_of" (zc4 zu9) (zc1 zu9) (za8 zu9) .none kV_10 dc_10 pm_10 an_10 cd_10 ct_10),sl_10⟩) (c10:PySem.W.codeIn K cd_10 "word_of"=true) (k10:PySem.W.keepIn K (.ref f_word_of)=true)
    {f_names_of:Addr} {od_11 an_11:Option Addr} {sl_11:Array (Option Value)} {oc_11 kV_11 dc_11 pm_11 cd_11 ct_11:Value} (a11:PySem.W.nsIn K mainGlobals "names_of"=some (some (.ref f_names_of))) (l11:K.lookup f_names_of=some ⟨oc_11,od_11,.func (PySem.W.fnOf "names_of" "names_of" (zc4 zo2) (zc1 zo2) (za8 zo2) .none kV_11 dc_11 pm_11 an_11 cd_11 ct_11),sl_11⟩) (c11:PySem.W.codeIn K cd_11 "names_of"=true) (k11:PySem.W.keepIn K (.ref f_names_of)=true)
    {f_pairs_of:Addr} {od_12 an_12:Option Addr} {sl_12:Array (Option Value)} {oc_12 kV_12 dc_12 pm_12 cd_12 ct_12:Value} (a12:PySem.W.nsIn K mainGlobals "pairs_of"=some (some (.ref f_pairs_of))) (l12:K.lookup f_pairs_of=some ⟨oc_12,od_12,.func (PySem.W.fnOf "pairs_of" "pairs_of" (zc4 zp9) (zc1 zp9) (za8 zp9) .none kV_12 dc_12 pm_12 an_12 cd_12 ct_12),sl_12⟩) (c12:PySem.W.codeIn K cd_12 "pairs_of"=true) (k12:PySem.W.keepIn K (.ref f_pairs_of)=true)
    {f_times_of:Addr} {od_13 an_13:Option Addr} {sl_13:Array (Option Value)} {oc_13 kV_13 dc_13 pm_13 cd_13 ct_13:Value} (a13:PySem.W.nsIn K mainGlobals "times_of"=some (some (.ref f_times_of))) (l13:K.lookup f_times_of=some ⟨oc_13,od_13,.func (PySem.W.fnOf "times_of" "times_of" (zc4 zo0) (zc1 zo0) (za8 zo0) .none kV_13 dc_13 pm_13 an_13 cd_13 ct_13),sl_13⟩) (c13:PySem.W.codeIn K cd_13 "times_of"=true) (k13:PySem.W.keepIn K (.ref f_times_of)=true)
    {f_time_of:Addr} {od_14 an_14:Option Addr} {sl_14:Array (Option Value)} {oc_14 kV_14 dc_14 pm_14 cd_14 ct_14:Value} (a14:PySem.W.nsIn K mainGlobals "time_of"=some (some (.ref f_time_of))) (l14:K.lookup f_time_of=some ⟨oc_14,od_14,.func (PySem.W.fnOf "time_of" "time_of" (zc4 zv0) (zc1 zv0) (za8 zv0) .none kV_14 dc_14 pm_14 an_14 cd_14 ct_14),sl_14⟩) (c14:PySem.W.codeIn K cd_14 "time_of"=true) (k14:PySem.W.keepIn K (.ref f_time_of)=true)
    {f_word_between:Addr} {od_15 an_15:Option Addr} {sl_15:Array (Option Value)} {oc_15 kV_15 dc_15 pm_15 cd_15 ct_15:Value} (a15:PySem.W.nsIn K mainGlobals "word_between"=some (some (.ref f_word_between))) (l15:K.lookup f_word_between=some ⟨oc_15,od_15,.func (PySem.W.fnOf "word_between" "word_between" (zc4 zg3) (zc1 zg3) (za8 zg3) .none kV_15 dc_15 pm_15 an_15 cd_15 ct_15),sl_15⟩) (c15:PySem.W.codeIn K cd_15 "word_between"=true) (k15:PySem.W.keepIn K (.ref f_word_between)=true)
    {f_is_gap_met:Addr} {od_16 an_16:Option Addr} {sl_16:Array (Option Value)} {oc_16 kV_16 dc_16 pm_16 cd_16 ct_16:Value} (a16:PySem.W.nsIn K mainGlobals "is_gap_met"=some (some (.ref f_is_gap_met))) (l16:K.lookup f_is_gap_met=some ⟨oc_16,od_16,.func (PySem.W.fnOf "is_gap_met" "is_gap_met" (zc4 zk5) (zc1 zk5) (za8 zk5) .none kV_16 dc_16 pm_16 an_16 cd_16 ct_16),sl_16⟩) (c16:PySem.W.codeIn K cd_16 "is_gap_met"=true) (k16:PySem.W.keepIn K (.ref f_is_gap_met)=true)
    {f_table_of:Addr} {od_17 an_17:Option Addr} {sl_17:Array (Option Value)} {oc_17 kV_17 dc_17 pm_17 cd_17 ct_17:Value} (a17:PySem.W.nsIn K mainGlobals "table_of"=some (some (.ref f_table_of))) (l17:K.lookup f_table_of=some ⟨oc_17,od_17,.func (PySem.W.fnOf "table_of" "table_of" (zc4 zn8) (zc1 zn8) (za8 zn8) .none kV_17 dc_17 pm_17 an_17 cd_17 ct_17),sl_17⟩) (c17:PySem.W.codeIn K cd_17 "table_of"=true) (k17:PySem.W.keepIn K (.ref f_table_of)=true)
    {f_moved:Addr} {od_18 an_18:Option Addr} {sl_18:Array (Option Value)} {oc_18 kV_18 dc_18 pm_18 cd_18 ct_18:Value} (a18:PySem.W.nsIn K mainGlobals "moved"=some (some (.ref f_moved))) (l18:K.lookup f_moved=some ⟨oc_18,od_18,.func (PySem.W.fnOf "moved" "moved" (zc4 zF9) (zc1 zF9) (za8 zF9) .none kV_18 dc_18 pm_18 an_18 cd_18 ct_18),sl_18⟩) (c18:PySem.W.codeIn K cd_18 "moved"=true) (k18:PySem.W.keepIn K (.ref f_moved)=true)
    {f_is_so:Addr} {od_19 an_19:Option Addr} {sl_19:Array (Option Value)} {oc_19 kV_19 dc_19 pm_19 cd_19 ct_19:Value} (a19:PySem.W.nsIn K mainGlobals "is_so"=some (some (.ref f_is_so))) (l19:K.lookup f_is_so=some ⟨oc_19,od_19,.func (PySem.W.fnOf "is_so" "is_so" (zc4 zM3) (zc1 zM3) (za8 zM3) .none kV_19 dc_19 pm_19 an_19 cd_19 ct_19),sl_19⟩) (c19:PySem.W.codeIn K cd_19 "is_so"=true) (k19:PySem.W.keepIn K (.ref f_is_so)=true)
    {f_broken:Addr} {od_20 an_20:Option Addr} {sl_20:Array (Option Value)} {oc_20 kV_20 dc_20 pm_20 cd_20 ct_20:Value} (a20:PySem.W.nsIn K mainGlobals "broken"=some (some (.ref f_broken))) (l20:K.lookup f_broken=some ⟨oc_20,od_20,.func (PySem.W.fnOf "broken" "broken" (zc4 zD6) (zc1 zD6) (za8 zD6) .none kV_20 dc_20 pm_20 an_20 cd_20 ct_20),sl_20⟩) (c20:PySem.W.codeIn K cd_20 "broken"=true) (k20:PySem.W.keepIn K (.ref f_broken)=true)
    {f__law_feed:Addr} {od_21 an_21:Option Addr} {sl_21:Array (Option Value)} {oc_21 kV_21 dc_21 pm_21 cd_21 ct_21:Value} (a21:PySem.W.nsIn K mainGlobals "_law_feed"=some (some (.ref f__law_feed))) (l21:K.lookup f__law_feed=some ⟨oc_21,od_21,.func (PySem.W.fnOf "_law_feed" "_law_feed" (zc4 zm8) (zc1 zm8) (za8 zm8) .none kV_21 dc_21 pm_21 an_21 cd_21 ct_21),sl_21⟩) (c21:PySem.W.codeIn K cd_21 "_law_feed"=true) (k21:PySem.W.keepIn K (.ref f__law_feed)=true)
    {f__law_draw:Addr} {od_22 an_22:Option Addr} {sl_22:Array (Option Value)} {oc_22 kV_22 dc_22 pm_22 cd_22 ct_22:Value} (a22:PySem.W.nsIn K mainGlobals "_law_draw"=some (some (.ref f__law_draw))) (l22:K.lookup f__law_draw=some ⟨oc_22,od_22,.func (PySem.W.fnOf "_law_draw" "_law_draw" (zc4 zd2) (zc1 zd2) (za8 zd2) .none kV_22 dc_22 pm_22 an_22 cd_22 ct_22),sl_22⟩) (c22:PySem.W.codeIn K cd_22 "_law_draw"=true) (k22:PySem.W.keepIn K (.ref f__law_draw)=true)
    {f__law_fraction:Addr} {od_23 an_23:Option Addr} {sl_23:Array (Option Value)} {oc_23 kV_23 dc_23 pm_23 cd_23 ct_23:Value} (a23:PySem.W.nsIn K mainGlobals "_law_fraction"=some (some (.ref f__law_fraction))) (l23:K.lookup f__law_fraction=some ⟨oc_23,od_23,.func (PySem.W.fnOf "_law_fraction" "_law_fraction" (zc4 zd4) (zc1 zd4) (za8 zd4) .none kV_23 dc_23 pm_23 an_23 cd_23 ct_23),sl_23⟩) (c23:PySem.W.codeIn K cd_23 "_law_fraction"=true) (k23:PySem.W.keepIn K (.ref f__law_fraction)=true)
    {f__law_stand:Addr} {od_24 an_24:Option Addr} {sl_24:Array (Option Value)} {oc_24 kV_24 dc_24 pm_24 cd_24 ct_24:Value} (a24:PySem.W.nsIn K mainGlobals "_law_stand"=some (some (.ref f__law_stand))) (l24:K.lookup f__law_stand=some ⟨oc_24,od_24,.func (PySem.W.fnOf "_law_stand" "_law_stand" (zc4 zj9) (zc1 zj9) (za8 zj9) .none kV_24 dc_24 pm_24 an_24 cd_24 ct_24),sl_24⟩) (c24:PySem.W.codeIn K cd_24 "_law_stand"=true) (k24:PySem.W.keepIn K (.ref f__law_stand)=true)
    {f__law_word:Addr} {od_25 an_25:Option Addr} {sl_25:Array (Option Value)} {oc_25 kV_25 dc_25 pm_25 cd_25 ct_25:Value} (a25:PySem.W.nsIn K mainGlobals "_law_word"=some (some (.ref f__law_word))) (l25:K.lookup f__law_word=some ⟨oc_25,od_25,.func (PySem.W.fnOf "_law_word" "_law_word" (zc4 zk2) (zc1 zk2) (za8 zk2) .none kV_25 dc_25 pm_25 an_25 cd_25 ct_25),sl_25⟩) (c25:PySem.W.codeIn K cd_25 "_law_word"=true) (k25:PySem.W.keepIn K (.ref f__law_word)=true)
    {f__law_words:Addr} {od_26 an_26:Option Addr} {sl_26:Array (Option Value)} {oc_26 kV_26 dc_26 pm_26 cd_26 ct_26:Value} (a26:PySem.W.nsIn K mainGlobals "_law_words"=some (some (.ref f__law_words))) (l26:K.lookup f__law_words=some ⟨oc_26,od_26,.func (PySem.W.fnOf "_law_words" "_law_words" (zc4 zi0) (zc1 zi0) (za8 zi0) .none kV_26 dc_26 pm_26 an_26 cd_26 ct_26),sl_26⟩) (c26:PySem.W.codeIn K cd_26 "_law_words"=true) (k26:PySem.W.keepIn K (.ref f__law_words)=true)
    {f__law_names:Addr} {od_27 an_27:Option Addr} {sl_27:Array (Option Value)} {oc_27 kV_27 dc_27 pm_27 cd_27 ct_27:Value} (a27:PySem.W.nsIn K mainGlobals "_law_names"=some (some (.ref f__law_names))) (l27:K.lookup f__law_names=some ⟨oc_27,od_27,.func (PySem.W.fnOf "_law_names" "_law_names" (zc4 zk0) (zc1 zk0) (za8 zk0) .none kV_27 dc_27 pm_27 an_27 cd_27 ct_27),sl_27⟩) (c27:PySem.W.codeIn K cd_27 "_law_names"=true) (k27:PySem.W.keepIn K (.ref f__law_names)=true)
    {f__law_kinds:Addr} {od_28 an_28:Option Addr} {sl_28:Array (Option Value)} {oc_28 kV_28 dc_28 pm_28 cd_28 ct_28:Value} (a28:PySem.W.nsIn K mainGlobals "_law_kinds"=some (some (.ref f__law_kinds))) (l28:K.lookup f__law_kinds=some ⟨oc_28,od_28,.func (PySem.W.fnOf "_law_kinds" "_law_kinds" (zc4 zk3) (zc1 zk3) (za8 zk3) .none kV_28 dc_28 pm_28 an_28 cd_28 ct_28),sl_28⟩) (c28:PySem.W.codeIn K cd_28 "_law_kinds"=true) (k28:PySem.W.keepIn K (.ref f__law_kinds)=true)
    {f__law_things:Addr} {od_29 an_29:Option Addr} {sl_29:Array (Option Value)} {oc_29 kV_29 dc_29 pm_29 cd_29 ct_29:Value} (a29:PySem.W.nsIn K mainGlobals "_law_things"=some (some (.ref f__law_things))) (l29:K.lookup f__law_things=some ⟨oc_29,od_29,.func (PySem.W.fnOf "_law_things" "_law_things" (zc4 zi3) (zc1 zi3) (za8 zi3) .none kV_29 dc_29 pm_29 an_29 cd_29 ct_29),sl_29⟩) (c29:PySem.W.codeIn K cd_29 "_law_things"=true) (k29:PySem.W.keepIn K (.ref f__law_things)=true)
    {f__law_may:Addr} {od_30 an_30:Option Addr} {sl_30:Array (Option Value)} {oc_30 kV_30 dc_30 pm_30 cd_30 ct_30:Value} (a30:PySem.W.nsIn K mainGlobals "_law_may"=some (some (.ref f__law_may))) (l30:K.lookup f__law_may=some ⟨oc_30,od_30,.func (PySem.W.fnOf "_law_may" "_law_may" (zc4 zr2) (zc1 zr2) (za8 zr2) .none kV_30 dc_30 pm_30 an_30 cd_30 ct_30),sl_30⟩) (c30:PySem.W.codeIn K cd_30 "_law_may"=true) (k30:PySem.W.keepIn K (.ref f__law_may)=true)
    {f__law_times:Addr} {od_31 an_31:Option Addr} {sl_31:Array (Option Value)} {oc_31 kV_31 dc_31 pm_31 cd_31 ct_31:Value} (a31:PySem.W.nsIn K mainGlobals "_law_times"=some (some (.ref f__law_times))) (l31:K.lookup f__law_times=some ⟨oc_31,od_31,.func (PySem.W.fnOf "_law_times" "_law_times" (zc4 zj5) (zc1 zj5) (za8 zj5) .none kV_31 dc_31 pm_31 an_31 cd_31 ct_31),sl_31⟩) (c31:PySem.W.codeIn K cd_31 "_law_times"=true) (k31:PySem.W.keepIn K (.ref f__law_times)=true)
    {f__law_telling:Addr} {od_32 an_32:Option Addr} {sl_32:Array (Option Value)} {oc_32 kV_32 dc_32 pm_32 cd_32 ct_32:Value} (a32:PySem.W.nsIn K mainGlobals "_law_telling"=some (some (.ref f__law_telling))) (l32:K.lookup f__law_telling=some ⟨oc_32,od_32,.func (PySem.W.fnOf "_law_telling" "_law_telling" (zc4 zh6) (zc1 zh6) (za8 zh6) .none kV_32 dc_32 pm_32 an_32 cd_32 ct_32),sl_32⟩) (c32:PySem.W.codeIn K cd_32 "_law_telling"=true) (k32:PySem.W.keepIn K (.ref f__law_telling)=true)
    {f__law_all_ends:Addr} {od_33 an_33:Option Addr} {sl_33:Array (Option Value)} {oc_33 kV_33 dc_33 pm_33 cd_33 ct_33:Value} (a33:PySem.W.nsIn K mainGlobals "_law_all_ends"=some (some (.ref f__law_all_ends))) (l33:K.lookup f__law_all_ends=some ⟨oc_33,od_33,.func (PySem.W.fnOf "_law_all_ends" "_law_all_ends" (zc4 zf7) (zc1 zf7) (za8 zf7) .none kV_33 dc_33 pm_33 an_33 cd_33 ct_33),sl_33⟩) (c33:PySem.W.codeIn K cd_33 "_law_all_ends"=true) (k33:PySem.W.keepIn K (.ref f__law_all_ends)=true)
    {f__law_time:Addr} {od_34 an_34:Option Addr} {sl_34:Array (Option Value)} {oc_34 kV_34 dc_34 pm_34 cd_34 ct_34:Value} (a34:PySem.W.nsIn K mainGlobals "_law_time"=some (some (.ref f__law_time))) (l34:K.lookup f__law_time=some ⟨oc_34,od_34,.func (PySem.W.fnOf "_law_time" "_law_time" (zc4 zn7) (zc1 zn7) (za8 zn7) .none kV_34 dc_34 pm_34 an_34 cd_34 ct_34),sl_34⟩) (c34:PySem.W.codeIn K cd_34 "_law_time"=true) (k34:PySem.W.keepIn K (.ref f__law_time)=true)
    {f__law_may_saying:Addr} {od_35 an_35:Option Addr} {sl_35:Array (Option Value)} {oc_35 kV_35 dc_35 pm_35 cd_35 ct_35:Value} (a35:PySem.W.nsIn K mainGlobals "_law_may_saying"=some (some (.ref f__law_may_saying))) (l35:K.lookup f__law_may_saying=some ⟨oc_35,od_35,.func (PySem.W.fnOf "_law_may_saying" "_law_may_saying" (zc4 ze9) (zc1 ze9) (za8 ze9) .none kV_35 dc_35 pm_35 an_35 cd_35 ct_35),sl_35⟩) (c35:PySem.W.codeIn K cd_35 "_law_may_saying"=true) (k35:PySem.W.keepIn K (.ref f__law_may_saying)=true)
    {f__law_gap_saying:Addr} {od_36 an_36:Option Addr} {sl_36:Array (Option Value)} {oc_36 kV_36 dc_36 pm_36 cd_36 ct_36:Value} (a36:PySem.W.nsIn K mainGlobals "_law_gap_saying"=some (some (.ref f__law_gap_saying))) (l36:K.lookup f__law_gap_saying=some ⟨oc_36,od_36,.func (PySem.W.fnOf "_law_gap_saying" "_law_gap_saying" (zc4 zf1) (zc1 zf1) (za8 zf1) .none kV_36 dc_36 pm_36 an_36 cd_36 ct_36),sl_36⟩) (c36:PySem.W.codeIn K cd_36 "_law_gap_saying"=true) (k36:PySem.W.keepIn K (.ref f__law_gap_saying)=true)
    {f__law_talk:Addr} {od_37 an_37:Option Addr} {sl_37:Array (Option Value)} {oc_37 kV_37 dc_37 pm_37 cd_37 ct_37:Value} (a37:PySem.W.nsIn K mainGlobals "_law_talk"=some (some (.ref f__law_talk))) (l37:K.lookup f__law_talk=some ⟨oc_37,od_37,.func (PySem.W.fnOf "_law_talk" "_law_talk" (zc4 zn2) (zc1 zn2) (za8 zn2) .none kV_37 dc_37 pm_37 an_37 cd_37 ct_37),sl_37⟩) (c37:PySem.W.codeIn K cd_37 "_law_talk"=true) (k37:PySem.W.keepIn K (.ref f__law_talk)=true)
    {f__law_row:Addr} {od_38 an_38:Option Addr} {sl_38:Array (Option Value)} {oc_38 kV_38 dc_38 pm_38 cd_38 ct_38:Value} (a38:PySem.W.nsIn K mainGlobals "_law_row"=some (some (.ref f__law_row))) (l38:K.lookup f__law_row=some ⟨oc_38,od_38,.func (PySem.W.fnOf "_law_row" "_law_row" (zc4 zr8) (zc1 zr8) (za8 zr8) .none kV_38 dc_38 pm_38 an_38 cd_38 ct_38),sl_38⟩) (c38:PySem.W.codeIn K cd_38 "_law_row"=true) (k38:PySem.W.keepIn K (.ref f__law_row)=true)
    {f__law_table:Addr} {od_39 an_39:Option Addr} {sl_39:Array (Option Value)} {oc_39 kV_39 dc_39 pm_39 cd_39 ct_39:Value} (a39:PySem.W.nsIn K mainGlobals "_law_table"=some (some (.ref f__law_table))) (l39:K.lookup f__law_table=some ⟨oc_39,od_39,.func (PySem.W.fnOf "_law_table" "_law_table" (zc4 zi1) (zc1 zi1) (za8 zi1) .none kV_39 dc_39 pm_39 an_39 cd_39 ct_39),sl_39⟩) (c39:PySem.W.codeIn K cd_39 "_law_table"=true) (k39:PySem.W.keepIn K (.ref f__law_table)=true)
    {f__law_moved_time:Addr} {od_40 an_40:Option Addr} {sl_40:Array (Option Value)} {oc_40 kV_40 dc_40 pm_40 cd_40 ct_40:Value} (a40:PySem.W.nsIn K mainGlobals "_law_moved_time"=some (some (.ref f__law_moved_time))) (l40:K.lookup f__law_moved_time=some ⟨oc_40,od_40,.func (PySem.W.fnOf "_law_moved_time" "_law_moved_time" (zc4 ze8) (zc1 ze8) (za8 ze8) .none kV_40 dc_40 pm_40 an_40 cd_40 ct_40),sl_40⟩) (c40:PySem.W.codeIn K cd_40 "_law_moved_time"=true) (k40:PySem.W.keepIn K (.ref f__law_moved_time)=true)
    {f__law_all_moved:Addr} {od_41 an_41:Option Addr} {sl_41:Array (Option Value)} {oc_41 kV_41 dc_41 pm_41 cd_41 ct_41:Value} (a41:PySem.W.nsIn K mainGlobals "_law_all_moved"=some (some (.ref f__law_all_moved))) (l41:K.lookup f__law_all_moved=some ⟨oc_41,od_41,.func (PySem.W.fnOf "_law_all_moved" "_law_all_moved" (zc4 ze3) (zc1 ze3) (za8 ze3) .none kV_41 dc_41 pm_41 an_41 cd_41 ct_41),sl_41⟩) (c41:PySem.W.codeIn K cd_41 "_law_all_moved"=true) (k41:PySem.W.keepIn K (.ref f__law_all_moved)=true)
    {f__law_often_right:Addr} {od_42 an_42:Option Addr} {sl_42:Array (Option Value)} {oc_42 kV_42 dc_42 pm_42 cd_42 ct_42:Value} (a42:PySem.W.nsIn K mainGlobals "_law_often_right"=some (some (.ref f__law_often_right))) (l42:K.lookup f__law_often_right=some ⟨oc_42,od_42,.func (PySem.W.fnOf "_law_often_right" "_law_often_right" (zc4 ze1) (zc1 ze1) (za8 ze1) .none kV_42 dc_42 pm_42 an_42 cd_42 ct_42),sl_42⟩) (c42:PySem.W.codeIn K cd_42 "_law_often_right"=true) (k42:PySem.W.keepIn K (.ref f__law_often_right)=true)
    {f_law:Addr} {od_43 an_43:Option Addr} {sl_43:Array (Option Value)} {oc_43 kV_43 dc_43 pm_43 cd_43 ct_43:Value} (a43:PySem.W.nsIn K mainGlobals "law"=some (some (.ref f_law))) (l43:K.lookup f_law=some ⟨oc_43,od_43,.func (PySem.W.fnOf "law" "law" (zc4 zaf1) (zc1 zaf1) (za8 zaf1) .none kV_43 dc_43 pm_43 an_43 cd_43 ct_43),sl_43⟩) (c43:PySem.W.codeIn K cd_43 "law"=true) (k43:PySem.W.keepIn K (.ref f_law)=true)
    {c_WAYS r_WAYS_0 r_WAYS_1 r_WAYS_2 r_WAYS_3 r_WAYS_4 r_WAYS_5 r_WAYS_6 r_WAYS_7 r_WAYS_8 r_WAYS_9 r_WAYS_10 r_WAYS_11 r_WAYS_12:Addr} {n_WAYS:Nat} {t_WAYS_0 u_WAYS_0_0 u_WAYS_0_1 u_WAYS_0_2 u_WAYS_0_3 t_WAYS_1 u_WAYS_1_0 u_WAYS_1_1 u_WAYS_1_2 u_WAYS_1_3 t_WAYS_2 u_WAYS_2_0 u_WAYS_2_1 u_WAYS_2_2 u_WAYS_2_3 t_WAYS_3 u_WAYS_3_0 u_WAYS_3_1 u_WAYS_3_2 u_WAYS_3_3 t_WAYS_4 u_WAYS_4_0 u_WAYS_4_1 u_WAYS_4_2 u_WAYS_4_3 t_WAYS_5 u_WAYS_5_0 u_WAYS_5_1 u_WAYS_5_2 u_WAYS_5_3 t_WAYS_6 u_WAYS_6_0 u_WAYS_6_1 u_WAYS_6_2 u_WAYS_6_3 t_WAYS_7 u_WAYS_7_0 u_WAYS_7_1 u_WAYS_7_2 u_WAYS_7_3 t_WAYS_8 u_WAYS_8_0 u_WAYS_8_1 u_WAYS_8_2 u_WAYS_8_3 t_WAYS_9 u_WAYS_9_0 u_WAYS_9_1 u_WAYS_9_2 u_WAYS_9_3 t_WAYS_10 u_WAYS_10_0 u_WAYS_10_1 u_WAYS_10_2 u_WAYS_10_3 t_WAYS_11 u_WAYS_11_0 u_WAYS_11_1 u_WAYS_11_2 u_WAYS_11_3 t_WAYS_12 u_WAYS_12_0 u_WAYS_12_1 u_WAYS_12_2 u_WAYS_12_3:Tok} (a_WAYS:PySem.W.nsIn K mainGlobals "WAYS"=some (some (.ref c_WAYS))) (l_WAYS:K.lookup c_WAYS=some ⟨.type "dict",none,.dict #[⟨PyData.keyHash w.params "ahead",.str "ahead" t_WAYS_0,.ref r_WAYS_0⟩,⟨PyData.keyHash w.params "meets",.str "meets" t_WAYS_1,.ref r_WAYS_1⟩,⟨PyData.keyHash w.params "overlaps",.str "overlaps" t_WAYS_2,.ref r_WAYS_2⟩,⟨PyData.keyHash w.params "begins",.str "begins" t_WAYS_3,.ref r_WAYS_3⟩,⟨PyData.keyHash w.params "within",.str "within" t_WAYS_4,.ref r_WAYS_4⟩,⟨PyData.keyHash w.params "ends",.str "ends" t_WAYS_5,.ref r_WAYS_5⟩,⟨PyData.keyHash w.params "same",.str "same" t_WAYS_6,.ref r_WAYS_6⟩,⟨PyData.keyHash w.params "ended",.str "ended" t_WAYS_7,.ref r_WAYS_7⟩,⟨PyData.keyHash w.params "holds",.str "holds" t_WAYS_8,.ref r_WAYS_8⟩,⟨PyData.keyHash w.params "begun",.str "begun" t_WAYS_9,.ref r_WAYS_9⟩,⟨PyData.keyHash w.params "lapped",.str "lapped" t_WAYS_10,.ref r_WAYS_10⟩,⟨PyData.keyHash w.params "met",.str "met" t_WAYS_11,.ref r_WAYS_11⟩,⟨PyData.keyHash w.params "behind",.str "behind" t_WAYS_12,.ref r_WAYS_12⟩] n_WAYS,#[]⟩) {n_WAYS_0:Nat} {sl_WAYS_0:Array (Option Value)} (l_WAYS_0:K.lookup r_WAYS_0=some ⟨.type "tuple",none,.seq #[.int (-1) u_WAYS_0_0,.int (-1) u_WAYS_0_1,.int (-1) u_WAYS_0_2,.int (-1) u_WAYS_0_3] n_WAYS_0,sl_WAYS_0⟩) {n_WAYS_1:Nat} {sl_WAYS_1:Array (Option Value)} (l_WAYS_1:K.lookup r_WAYS_1=some ⟨.type "tuple",none,.seq #[.int (-1) u_WAYS_1_0,.int (-1) u_WAYS_1_1,.int (0) u_WAYS_1_2,.int (-1) u_WAYS_1_3] n_WAYS_1,sl_WAYS_1⟩) {n_WAYS_2:Nat} {sl_WAYS_2:Array (Option Value)} (l_WAYS_2:K.lookup r_WAYS_2=some ⟨.type "tuple",none,.seq #[.int (-1) u_WAYS_2_0,.int (-1) u_WAYS_2_1,.int (1) u_WAYS_2_2,.int (-1) u_WAYS_2_3] n_WAYS_2,sl_WAYS_2⟩) {n_WAYS_3:Nat} {sl_WAYS_3:Array (Option Value)} (l_WAYS_3:K.lookup r_WAYS_3=some ⟨.type "tuple",none,.seq #[.int (0) u_WAYS_3_0,.int (-1) u_WAYS_3_1,.int (1) u_WAYS_3_2,.int (-1) u_WAYS_3_3] n_WAYS_3,sl_WAYS_3⟩) {n_WAYS_4:Nat} {sl_WAYS_4:Array (Option Value)} (l_WAYS_4:K.lookup r_WAYS_4=some ⟨.type "tuple",none,.seq #[.int (1) u_WAYS_4_0,.int (-1) u_WAYS_4_1,.int (1) u_WAYS_4_2,.int (-1) u_WAYS_4_3] n_WAYS_4,sl_WAYS_4⟩) {n_WAYS_5:Nat} {sl_WAYS_5:Array (Option Value)} (l_WAYS_5:K.lookup r_WAYS_5=some ⟨.type "tuple",none,.seq #[.int (1) u_WAYS_5_0,.int (-1) u_WAYS_5_1,.int (1) u_WAYS_5_2,.int (0) u_WAYS_5_3] n_WAYS_5,sl_WAYS_5⟩) {n_WAYS_6:Nat} {sl_WAYS_6:Array (Option Value)} (l_WAYS_6:K.lookup r_WAYS_6=some ⟨.type "tuple",none,.seq #[.int (0) u_WAYS_6_0,.int (-1) u_WAYS_6_1,.int (1) u_WAYS_6_2,.int (0) u_WAYS_6_3] n_WAYS_6,sl_WAYS_6⟩) {n_WAYS_7:Nat} {sl_WAYS_7:Array (Option Value)} (l_WAYS_7:K.lookup r_WAYS_7=some ⟨.type "tuple",none,.seq #[.int (-1) u_WAYS_7_0,.int (-1) u_WAYS_7_1,.int (1) u_WAYS_7_2,.int (0) u_WAYS_7_3] n_WAYS_7,sl_WAYS_7⟩) {n_WAYS_8:Nat} {sl_WAYS_8:Array (Option Value)} (l_WAYS_8:K.lookup r_WAYS_8=some ⟨.type "tuple",none,.seq #[.int (-1) u_WAYS_8_0,.int (-1) u_WAYS_8_1,.int (1) u_WAYS_8_2,.int (1) u_WAYS_8_3] n_WAYS_8,sl_WAYS_8⟩) {n_WAYS_9:Nat} {sl_WAYS_9:Array (Option Value)} (l_WAYS_9:K.lookup r_WAYS_9=some ⟨.type "tuple",none,.seq #[.int (0) u_WAYS_9_0,.int (-1) u_WAYS_9_1,.int (1) u_WAYS_9_2,.int (1) u_WAYS_9_3] n_WAYS_9,sl_WAYS_9⟩) {n_WAYS_10:Nat} {sl_WAYS_10:Array (Option Value)} (l_WAYS_10:K.lookup r_WAYS_10=some ⟨.type "tuple",none,.seq #[.int (1) u_WAYS_10_0,.int (-1) u_WAYS_10_1,.int (1) u_WAYS_10_2,.int (1) u_WAYS_10_3] n_WAYS_10,sl_WAYS_10⟩) {n_WAYS_11:Nat} {sl_WAYS_11:Array (Option Value)} (l_WAYS_11:K.lookup r_WAYS_11=some ⟨.type "tuple",none,.seq #[.int (1) u_WAYS_11_0,.int (0) u_WAYS_11_1,.int (1) u_WAYS_11_2,.int (1) u_WAYS_11_3] n_WAYS_11,sl_WAYS_11⟩) {n_WAYS_12:Nat} {sl_WAYS_12:Array (Option Value)} (l_WAYS_12:K.lookup r_WAYS_12=some ⟨.type "tuple",none,.seq #[.int (1) u_WAYS_12_0,.int (1) u_WAYS_12_1,.int (1) u_WAYS_12_2,.int (1) u_WAYS_12_3] n_WAYS_12,sl_WAYS_12⟩) (y_WAYS:(c_WAYS == sysModules)=false)
    {c_POINT_WORDS k_POINT_WORDS_0 r_POINT_WORDS_0 k_POINT_WORDS_1 r_POINT_WORDS_1 k_POINT_WORDS_2 r_POINT_WORDS_2:Addr} {n_POINT_WORDS:Nat} {tk_POINT_WORDS_0_0 tk_POINT_WORDS_0_1 tr_POINT_WORDS_0_0 tr_POINT_WORDS_0_1 tr_POINT_WORDS_0_2 tk_POINT_WORDS_1_0 tk_POINT_WORDS_1_1 tr_POINT_WORDS_1_0 tr_POINT_WORDS_1_1 tr_POINT_WORDS_1_2 tr_POINT_WORDS_1_3 tr_POINT_WORDS_1_4 tk_POINT_WORDS_2_0 tk_POINT_WORDS_2_1 tr_POINT_WORDS_2_0 tr_POINT_WORDS_2_1 tr_POINT_WORDS_2_2 tr_POINT_WORDS_2_3 tr_POINT_WORDS_2_4:Tok} (a_POINT_WORDS:PySem.W.nsIn K mainGlobals "POINT_WORDS"=some (some (.ref c_POINT_WORDS))) (l_POINT_WORDS:K.lookup c_POINT_WORDS=some ⟨.type "dict",none,.dict #[⟨reduceHash (Builtin.Tuple.tupleHashOf [PyData.keyHash w.params "point",PyData.keyHash w.params "point"]),.ref k_POINT_WORDS_0,.ref r_POINT_WORDS_0⟩,⟨reduceHash (Builtin.Tuple.tupleHashOf [PyData.keyHash w.params "point",PyData.keyHash w.params "stretch"]),.ref k_POINT_WORDS_1,.ref r_POINT_WORDS_1⟩,⟨reduceHash (Builtin.Tuple.tupleHashOf [PyData.keyHash w.params "stretch",PyData.keyHash w.params "point"]),.ref k_POINT_WORDS_2,.ref r_POINT_WORDS_2⟩] n_POINT_WORDS,#[]⟩) {nk_POINT_WORDS_0:Nat} {slk_POINT_WORDS_0:Array (Option Value)} (lk_POINT_WORDS_0:K.lookup k_POINT_WORDS_0=some ⟨.type "tuple",none,.seq #[.str "point" tk_POINT_WORDS_0_0,.str "point" tk_POINT_WORDS_0_1] nk_POINT_WORDS_0,slk_POINT_WORDS_0⟩) {nr_POINT_WORDS_0:Nat} {slr_POINT_WORDS_0:Array (Option Value)} (lr_POINT_WORDS_0:K.lookup r_POINT_WORDS_0=some ⟨.type "tuple",none,.seq #[.str "ahead" tr_POINT_WORDS_0_0,.str "same" tr_POINT_WORDS_0_1,.str "behind" tr_POINT_WORDS_0_2] nr_POINT_WORDS_0,slr_POINT_WORDS_0⟩) {nk_POINT_WORDS_1:Nat} {slk_POINT_WORDS_1:Array (Option Value)} (lk_POINT_WORDS_1:K.lookup k_POINT_WORDS_1=some ⟨.type "tuple",none,.seq #[.str "point" tk_POINT_WORDS_1_0,.str "stretch" tk_POINT_WORDS_1_1] nk_POINT_WORDS_1,slk_POINT_WORDS_1⟩) {nr_POINT_WORDS_1:Nat} {slr_POINT_WORDS_1:Array (Option Value)} (lr_POINT_WORDS_1:K.lookup r_POINT_WORDS_1=some ⟨.type "tuple",none,.seq #[.str "ahead" tr_POINT_WORDS_1_0,.str "begins" tr_POINT_WORDS_1_1,.str "within" tr_POINT_WORDS_1_2,.str "ends" tr_POINT_WORDS_1_3,.str "behind" tr_POINT_WORDS_1_4] nr_POINT_WORDS_1,slr_POINT_WORDS_1⟩) {nk_POINT_WORDS_2:Nat} {slk_POINT_WORDS_2:Array (Option Value)} (lk_POINT_WORDS_2:K.lookup k_POINT_WORDS_2=some ⟨.type "tuple",none,.seq #[.str "stretch" tk_POINT_WORDS_2_0,.str "point" tk_POINT_WORDS_2_1] nk_POINT_WORDS_2,slk_POINT_WORDS_2⟩) {nr_POINT_WORDS_2:Nat} {slr_POINT_WORDS_2:Array (Option Value)} (lr_POINT_WORDS_2:K.lookup r_POINT_WORDS_2=some ⟨.type "tuple",none,.seq #[.str "ahead" tr_POINT_WORDS_2_0,.str "ended" tr_POINT_WORDS_2_1,.str "holds" tr_POINT_WORDS_2_2,.str "begun" tr_POINT_WORDS_2_3,.str "behind" tr_POINT_WORDS_2_4] nr_POINT_WORDS_2,slr_POINT_WORDS_2⟩) (y_POINT_WORDS:(c_POINT_WORDS == sysModules)=false)
    {c_ORDER:Addr} {n_ORDER:Nat} {sl_ORDER:Array (Option Value)} {t_ORDER_0 t_ORDER_1 t_ORDER_2 t_ORDER_3 t_ORDER_4 t_ORDER_5 t_ORDER_6 t_ORDER_7 t_ORDER_8 t_ORDER_9 t_ORDER_10 t_ORDER_11 t_ORDER_12:Tok} (a_ORDER:PySem.W.nsIn K mainGlobals "ORDER"=some (some (.ref c_ORDER))) (l_ORDER:K.lookup c_ORDER=some ⟨.type "tuple",none,.seq #[.str "ahead" t_ORDER_0,.str "meets" t_ORDER_1,.str "overlaps" t_ORDER_2,.str "begins" t_ORDER_3,.str "within" t_ORDER_4,.str "ends" t_ORDER_5,.str "same" t_ORDER_6,.str "ended" t_ORDER_7,.str "holds" t_ORDER_8,.str "begun" t_ORDER_9,.str "lapped" t_ORDER_10,.str "met" t_ORDER_11,.str "behind" t_ORDER_12] n_ORDER,sl_ORDER⟩)
    (z_abs:PySem.W.nsIn K mainGlobals "abs"=some none)
    (z_isinstance:PySem.W.nsIn K mainGlobals "isinstance"=some none)
    (z_tuple:PySem.W.nsIn K mainGlobals "tuple"=some none)
    (z_enumerate:PySem.W.nsIn K mainGlobals "enumerate"=some none)
    (z_dict:PySem.W.nsIn K mainGlobals "dict"=some none)
    (z_zip:PySem.W.nsIn K mainGlobals "zip"=some none)
    (z_len:PySem.W.nsIn K mainGlobals "len"=some none)
    (z_max:PySem.W.nsIn K mainGlobals "max"=some none)
    (z_int:PySem.W.nsIn K mainGlobals "int"=some none)
    (z_range:PySem.W.nsIn K mainGlobals "range"=some none)
    (z_sorted:PySem.W.nsIn K mainGlobals "sorted"=some none)
    (z_repr:PySem.W.nsIn K mainGlobals "repr"=some none)
    : ∃ fd:FuncData,(∀ (s:Shared) (v:Value),BindsTo s fd ⟨[v],[]⟩ [("_law_script",v)])∧∀ base:Heap,K.In base→base.Ns mainGlobals mg→FnOk l.prog w K mg base CX0 7 fa fd ["_law_script"] (LSp K 1 zac5):=by
  have e:=hfa.symm.trans (PySem.W.mg_of X G a43)
  cases e
  have F_common:=zd3 (st:=zE5) l0 c0 k0
  have B_common:=(F_common).binds (ps:=zD0) fun _ _ _ _ _ _ us hl=>us_2 (by intros; rfl) us hl
  have M_common:=PySem.W.mg_of X G a0
  have F_fraction:=zd3 (st:=zl1) l1 c1 k1
  have B_fraction:=(F_fraction).binds (ps:=zh9) fun _ _ _ _ _ _ us hl=>us_2 (by intros; rfl) us hl
  have M_fraction:=PySem.W.mg_of X G a1
  have F_plus:=zd3 (st:=zab8) l2 c2 k2
  have B_plus:=(F_plus).binds (ps:=zY5) fun _ _ _ _ _ _ us hl=>us_2 (by intros; rfl) us hl
  have M_plus:=PySem.W.mg_of X G a2
  have F_less:=zd3 (st:=zZ8) l3 c3 k3
  have B_less:=(F_less).binds (ps:=zZ4) fun _ _ _ _ _ _ us hl=>us_2 (by intros; rfl) us hl
  have M_less:=PySem.W.mg_of X G a3
  have F_product:=zd3 (st:=zu7) l4 c4 k4
  have B_product:=(F_product).binds (ps:=zx5) fun _ _ _ _ _ _ us hl=>us_2 (by intros; rfl) us hl
  have M_product:=PySem.W.mg_of X G a4
  have F_is_below:=zd3 (st:=zn9) l5 c5 k5
  have B_is_below:=(F_is_below).binds (ps:=zl3) fun _ _ _ _ _ _ us hl=>us_2 (by intros; rfl) us hl
  have M_is_below:=PySem.W.mg_of X G a5
  have F_words_of:=zd3 (st:=zr5) l6 c6 k6
  have B_words_of:=(F_words_of).binds (ps:=zp7) fun _ _ _ _ _ _ us hl=>us_1 (by intros; rfl) us hl
  have M_words_of:=PySem.W.mg_of X G a6
  have F_ways_by:=zd3 (st:=zx4) l7 c7 k7
  have B_ways_by:=(F_ways_by).binds (ps:=zv7) fun _ _ _ _ _ _ us hl=>us_2 (by intros; rfl) us hl
  have M_ways_by:=PySem.W.mg_of X G a7
  have F_is_point:=zd3 (st:=zq7) l8 c8 k8
  have B_is_point:=(F_is_point).binds (ps:=zs0) fun _ _ _ _ _ _ us hl=>us_1 (by intros; rfl) us hl
  have M_is_point:=PySem.W.mg_of X G a8
  have F_way_of:=zd3 (st:=zE7) l9 c9 k9
  have B_way_of:=(F_way_of).binds (ps:=zC8) fun _ _ _ _ _ _ us hl=>us_2 (by intros; rfl) us hl
  have M_way_of:=PySem.W.mg_of X G a9
  have F_word_of:=zd3 (st:=zu9) l10 c10 k10
  have B_word_of:=(F_word_of).binds (ps:=zy1) fun _ _ _ _ _ _ us hl=>us_2 (by intros; rfl) us hl
  have M_word_of:=PySem.W.mg_of X G a10
  have F_names_of:=zd3 (st:=zo2) l11 c11 k11
  have B_names_of:=(F_names_of).binds (ps:=zl4) fun _ _ _ _ _ _ us hl=>us_1 (by intros; rfl) us hl
  have M_names_of:=PySem.W.mg_of X G a11
  have F_pairs_of:=zd3 (st:=zp9) l12 c12 k12
  have B_pairs_of:=(F_pairs_of).binds (ps:=zr9) fun _ _ _ _ _ _ us hl=>us_1 (by intros; rfl) us hl
  have M_pairs_of:=PySem.W.mg_of X G a12
  have F_times_of:=zd3 (st:=zo0) l13 c13 k13
  have B_times_of:=(F_times_of).binds (ps:=zl2) fun _ _ _ _ _ _ us hl=>us_3 (by intros; rfl) us hl
  have M_times_of:=PySem.W.mg_of X G a13
  have F_time_of:=zd3 (st:=zv0) l14 c14 k14
  have B_time_of:=(F_time_of).binds (ps:=zw1) fun _ _ _ _ _ _ us hl=>us_3 (by intros; rfl) us hl
  have M_time_of:=PySem.W.mg_of X G a14
  have F_word_between:=zd3 (st:=zg3) l15 c15 k15
  have B_word_between:=(F_word_between).binds (ps:=zf3) fun _ _ _ _ _ _ us hl=>us_4 (by intros; rfl) us hl
  have M_word_between:=PySem.W.mg_of X G a15
  have F_is_gap_met:=zd3 (st:=zk5) l16 c16 k16
  have B_is_gap_met:=(F_is_gap_met).binds (ps:=zk8) fun _ _ _ _ _ _ us hl=>us_3 (by intros; rfl) us hl
  have M_is_gap_met:=PySem.W.mg_of X G a16
  have F_table_of:=zd3 (st:=zn8) l17 c17 k17
  have B_table_of:=(F_table_of).binds (ps:=zl6) fun _ _ _ _ _ _ us hl=>us_2 (by intros; rfl) us hl
  have M_table_of:=PySem.W.mg_of X G a17
  have F_moved:=zd3 (st:=zF9) l18 c18 k18
  have B_moved:=(F_moved).binds (ps:=zE6) fun _ _ _ _ _ _ us hl=>us_4 (by intros; rfl) us hl
  have M_moved:=PySem.W.mg_of X G a18
  have F_is_so:=zd3 (st:=zM3) l19 c19 k19
  have B_is_so:=(F_is_so).binds (ps:=zL9) fun _ _ _ _ _ _ us hl=>us_3 (by intros; rfl) us hl
  have M_is_so:=PySem.W.mg_of X G a19
  have F_broken:=zd3 (st:=zD6) l20 c20 k20
  have B_broken:=(F_broken).binds (ps:=zD8) fun _ _ _ _ _ _ us hl=>us_2 (by intros; rfl) us hl
  have M_broken:=PySem.W.mg_of X G a20
  have F__law_feed:=zd3 (st:=zm8) l21 c21 k21
  have B__law_feed:=(F__law_feed).binds (ps:=zn4) fun _ _ _ _ _ _ us hl=>us_2 (by intros; rfl) us hl
  have M__law_feed:=PySem.W.mg_of X G a21
  have F__law_draw:=zd3 (st:=zd2) l22 c22 k22
  have B__law_draw:=(F__law_draw).binds (ps:=zc2) fun _ _ _ _ _ _ us hl=>us_2 (by intros; rfl) us hl
  have M__law_draw:=PySem.W.mg_of X G a22
  have F__law_fraction:=zd3 (st:=zd4) l23 c23 k23
  have B__law_fraction:=(F__law_fraction).binds (ps:=zc7) fun _ _ _ _ _ _ us hl=>us_2 (by intros; rfl) us hl
  have M__law_fraction:=PySem.W.mg_of X G a23
  have F__law_stand:=zd3 (st:=zj9) l24 c24 k24
  have B__law_stand:=(F__law_stand).binds (ps:=zk6) fun _ _ _ _ _ _ us hl=>us_2 (by intros; rfl) us hl
  have M__law_stand:=PySem.W.mg_of X G a24
  have F__law_word:=zd3 (st:=zk2) l25 c25 k25
  have B__law_word:=(F__law_word).binds (ps:=zi4) fun _ _ _ _ _ _ us hl=>us_2 (by intros; rfl) us hl
  have M__law_word:=PySem.W.mg_of X G a25
  have F__law_words:=zd3 (st:=zi0) l26 c26 k26
  have B__law_words:=(F__law_words).binds (ps:=zh2) fun _ _ _ _ _ _ us hl=>us_1 (by intros; rfl) us hl
  have M__law_words:=PySem.W.mg_of X G a26
  have F__law_names:=zd3 (st:=zk0) l27 c27 k27
  have B__law_names:=(F__law_names).binds (ps:=zk7) fun _ _ _ _ _ _ us hl=>us_2 (by intros; rfl) us hl
  have M__law_names:=PySem.W.mg_of X G a27
  have F__law_kinds:=zd3 (st:=zk3) l28 c28 k28
  have B__law_kinds:=(F__law_kinds).binds (ps:=zk1) fun _ _ _ _ _ _ us hl=>us_2 (by intros; rfl) us hl
  have M__law_kinds:=PySem.W.mg_of X G a28
  have F__law_things:=zd3 (st:=zi3) l29 c29 k29
  have B__law_things:=(F__law_things).binds (ps:=zi2) fun _ _ _ _ _ _ us hl=>us_2 (by intros; rfl) us hl
  have M__law_things:=PySem.W.mg_of X G a29
  have F__law_may:=zd3 (st:=zr2) l30 c30 k30
  have B__law_may:=(F__law_may).binds (ps:=zr3) fun _ _ _ _ _ _ us hl=>us_2 (by intros; rfl) us hl
  have M__law_may:=PySem.W.mg_of X G a30
  have F__law_times:=zd3 (st:=zj5) l31 c31 k31
  have B__law_times:=(F__law_times).binds (ps:=zk4) fun _ _ _ _ _ _ us hl=>us_5 (by intros; rfl) us hl
  have M__law_times:=PySem.W.mg_of X G a31
  have F__law_telling:=zd3 (st:=zh6) l32 c32 k32
  have B__law_telling:=(F__law_telling).binds (ps:=zh7) fun _ _ _ _ _ _ us hl=>us_2 (by intros; rfl) us hl
  have M__law_telling:=PySem.W.mg_of X G a32
  have F__law_all_ends:=zd3 (st:=zf7) l33 c33 k33
  have B__law_all_ends:=(F__law_all_ends).binds (ps:=zd8) fun _ _ _ _ _ _ us hl=>us_1 (by intros; rfl) us hl
  have M__law_all_ends:=PySem.W.mg_of X G a33
  have F__law_time:=zd3 (st:=zn7) l34 c34 k34
  have B__law_time:=(F__law_time).binds (ps:=zn1) fun _ _ _ _ _ _ us hl=>us_3 (by intros; rfl) us hl
  have M__law_time:=PySem.W.mg_of X G a34
  have F__law_may_saying:=zd3 (st:=ze9) l35 c35 k35
  have B__law_may_saying:=(F__law_may_saying).binds (ps:=ze6) fun _ _ _ _ _ _ us hl=>us_3 (by intros; rfl) us hl
  have M__law_may_saying:=PySem.W.mg_of X G a35
  have F__law_gap_saying:=zd3 (st:=zf1) l36 c36 k36
  have B__law_gap_saying:=(F__law_gap_saying).binds (ps:=zf0) fun _ _ _ _ _ _ us hl=>us_3 (by intros; rfl) us hl
  have M__law_gap_saying:=PySem.W.mg_of X G a36
  have F__law_talk:=zd3 (st:=zn2) l37 c37 k37
  have B__law_talk:=(F__law_talk).binds (ps:=zn3) fun _ _ _ _ _ _ us hl=>us_4 (by intros; rfl) us hl
  have M__law_talk:=PySem.W.mg_of X G a37
  have F__law_row:=zd3 (st:=zr8) l38 c38 k38
  have B__law_row:=(F__law_row).binds (ps:=zr1) fun _ _ _ _ _ _ us hl=>us_4 (by intros; rfl) us hl
  have M__law_row:=PySem.W.mg_of X G a38
  have F__law_table:=zd3 (st:=zi1) l39 c39 k39
  have B__law_table:=(F__law_table).binds (ps:=zh1) fun _ _ _ _ _ _ us hl=>us_2 (by intros; rfl) us hl
  have M__law_table:=PySem.W.mg_of X G a39
  have F__law_moved_time:=zd3 (st:=ze8) l40 c40 k40
  have B__law_moved_time:=(F__law_moved_time).binds (ps:=ze7) fun _ _ _ _ _ _ us hl=>us_3 (by intros; rfl) us hl
  have M__law_moved_time:=PySem.W.mg_of X G a40
  have F__law_all_moved:=zd3 (st:=ze3) l41 c41 k41
  have B__law_all_moved:=(F__law_all_moved).binds (ps:=zd5) fun _ _ _ _ _ _ us hl=>us_4 (by intros; rfl) us hl
  have M__law_all_moved:=PySem.W.mg_of X G a41
  have F__law_often_right:=zd3 (st:=ze1) l42 c42 k42
  have B__law_often_right:=(F__law_often_right).binds (ps:=zd9) fun _ _ _ _ _ _ us hl=>us_4 (by intros; rfl) us hl
  have M__law_often_right:=PySem.W.mg_of X G a42
  have F_law:=zd3 (st:=zaf1) l43 c43 k43
  have M_POINT_WORDS:=PySem.W.mg_of X G a_POINT_WORDS
  have Kk_POINT_WORDS_0:KT K k_POINT_WORDS_0 ["point","point"]:=⟨_,_,_,lk_POINT_WORDS_0,rfl,rfl,rfl,by show 2≤sizeLine; rw [sizeLine_eq]; decide,.cons ⟨_,rfl⟩ (.cons ⟨_,rfl⟩ (.nil))⟩
  have Kr_POINT_WORDS_0:KT K r_POINT_WORDS_0 ["ahead","same","behind"]:=⟨_,_,_,lr_POINT_WORDS_0,rfl,rfl,rfl,by show 3≤sizeLine; rw [sizeLine_eq]; decide,.cons ⟨_,rfl⟩ (.cons ⟨_,rfl⟩ (.cons ⟨_,rfl⟩ (.nil)))⟩
  have Kk_POINT_WORDS_1:KT K k_POINT_WORDS_1 ["point","stretch"]:=⟨_,_,_,lk_POINT_WORDS_1,rfl,rfl,rfl,by show 2≤sizeLine; rw [sizeLine_eq]; decide,.cons ⟨_,rfl⟩ (.cons ⟨_,rfl⟩ (.nil))⟩
  have Kr_POINT_WORDS_1:KT K r_POINT_WORDS_1 ["ahead","begins","within","ends","behind"]:=⟨_,_,_,lr_POINT_WORDS_1,rfl,rfl,rfl,by show 5≤sizeLine; rw [sizeLine_eq]; decide,.cons ⟨_,rfl⟩ (.cons ⟨_,rfl⟩ (.cons ⟨_,rfl⟩ (.cons ⟨_,rfl⟩ (.cons ⟨_,rfl⟩ (.nil)))))⟩
  have Kk_POINT_WORDS_2:KT K k_POINT_WORDS_2 ["stretch","point"]:=⟨_,_,_,lk_POINT_WORDS_2,rfl,rfl,rfl,by show 2≤sizeLine; rw [sizeLine_eq]; decide,.cons ⟨_,rfl⟩ (.cons ⟨_,rfl⟩ (.nil))⟩
  have Kr_POINT_WORDS_2:KT K r_POINT_WORDS_2 ["ahead","ended","holds","begun","behind"]:=⟨_,_,_,lr_POINT_WORDS_2,rfl,rfl,rfl,by show 5≤sizeLine; rw [sizeLine_eq]; decide,.cons ⟨_,rfl⟩ (.cons ⟨_,rfl⟩ (.cons ⟨_,rfl⟩ (.cons ⟨_,rfl⟩ (.cons ⟨_,rfl⟩ (.nil)))))⟩
  have K_POINT_WORDS:KTD K w c_POINT_WORDS zz5:=⟨[(["point","point"],k_POINT_WORDS_0,.ref r_POINT_WORDS_0),(["point","stretch"],k_POINT_WORDS_1,.ref r_POINT_WORDS_1),(["stretch","point"],k_POINT_WORDS_2,.ref r_POINT_WORDS_2)],⟨_,_,_,l_POINT_WORDS,rfl,rfl,rfl,rfl,⟨rfl,rfl,rfl,Kk_POINT_WORDS_0,⟨rfl,rfl,rfl,Kk_POINT_WORDS_1,⟨rfl,rfl,rfl,Kk_POINT_WORDS_2,True.intro⟩⟩⟩,by show List.Nodup ([["point","point"],["point","stretch"],["stretch","point"]]:List (List Str)); decide +kernel,y_POINT_WORDS⟩,fun Z m H=>⟨_,_,rfl,KT.rp Kr_POINT_WORDS_0,⟨_,_,rfl,KT.rp Kr_POINT_WORDS_1,⟨_,_,rfl,KT.rp Kr_POINT_WORDS_2,rfl⟩⟩⟩⟩
  have M_ORDER:=PySem.W.mg_of X G a_ORDER
  have K_ORDER:KT K c_ORDER ["ahead","meets","overlaps","begins","within","ends","same","ended","holds","begun","lapped","met","behind"]:=⟨_,_,_,l_ORDER,rfl,rfl,rfl,by show 13≤sizeLine; rw [sizeLine_eq]; decide,.cons ⟨_,rfl⟩ (.cons ⟨_,rfl⟩ (.cons ⟨_,rfl⟩ (.cons ⟨_,rfl⟩ (.cons ⟨_,rfl⟩ (.cons ⟨_,rfl⟩ (.cons ⟨_,rfl⟩ (.cons ⟨_,rfl⟩ (.cons ⟨_,rfl⟩ (.cons ⟨_,rfl⟩ (.cons ⟨_,rfl⟩ (.cons ⟨_,rfl⟩ (.cons ⟨_,rfl⟩ (.nil)))))))))))))⟩
  have M_WAYS:=PySem.W.mg_of X G a_WAYS
  have K_WAYS:KD K w c_WAYS zah5:=⟨[("ahead",.ref r_WAYS_0),("meets",.ref r_WAYS_1),("overlaps",.ref r_WAYS_2),("begins",.ref r_WAYS_3),("within",.ref r_WAYS_4),("ends",.ref r_WAYS_5),("same",.ref r_WAYS_6),("ended",.ref r_WAYS_7),("holds",.ref r_WAYS_8),("begun",.ref r_WAYS_9),("lapped",.ref r_WAYS_10),("met",.ref r_WAYS_11),("behind",.ref r_WAYS_12)],⟨_,_,_,l_WAYS,rfl,rfl,rfl,rfl,⟨rfl,⟨_,rfl⟩,rfl,⟨rfl,⟨_,rfl⟩,rfl,⟨rfl,⟨_,rfl⟩,rfl,⟨rfl,⟨_,rfl⟩,rfl,⟨rfl,⟨_,rfl⟩,rfl,⟨rfl,⟨_,rfl⟩,rfl,⟨rfl,⟨_,rfl⟩,rfl,⟨rfl,⟨_,rfl⟩,rfl,⟨rfl,⟨_,rfl⟩,rfl,⟨rfl,⟨_,rfl⟩,rfl,⟨rfl,⟨_,rfl⟩,rfl,⟨rfl,⟨_,rfl⟩,rfl,⟨rfl,⟨_,rfl⟩,rfl,True.intro⟩⟩⟩⟩⟩⟩⟩⟩⟩⟩⟩⟩⟩,by show List.Nodup (["ahead","meets","overlaps","begins","within","ends","same","ended","holds","begun","lapped","met","behind"]:List Str); decide +kernel,y_WAYS⟩,fun Z m H=>⟨_,_,rfl,zr6 (is:=[-1,-1,-1,-1]) (.inr ⟨_,_,_,l_WAYS_0,⟨rfl,rfl⟩,rfl,by show 4≤sizeLine; rw [sizeLine_eq]; decide,.cons ⟨_,rfl⟩ (.cons ⟨_,rfl⟩ (.cons ⟨_,rfl⟩ (.cons ⟨_,rfl⟩ (.nil))))⟩),⟨_,_,rfl,zr6 (is:=[-1,-1,0,-1]) (.inr ⟨_,_,_,l_WAYS_1,⟨rfl,rfl⟩,rfl,by show 4≤sizeLine; rw [sizeLine_eq]; decide,.cons ⟨_,rfl⟩ (.cons ⟨_,rfl⟩ (.cons ⟨_,rfl⟩ (.cons ⟨_,rfl⟩ (.nil))))⟩),⟨_,_,rfl,zr6 (is:=[-1,-1,1,-1]) (.inr ⟨_,_,_,l_WAYS_2,⟨rfl,rfl⟩,rfl,by show 4≤sizeLine; rw [sizeLine_eq]; decide,.cons ⟨_,rfl⟩ (.cons ⟨_,rfl⟩ (.cons ⟨_,rfl⟩ (.cons ⟨_,rfl⟩ (.nil))))⟩),⟨_,_,rfl,zr6 (is:=[0,-1,1,-1]) (.inr ⟨_,_,_,l_WAYS_3,⟨rfl,rfl⟩,rfl,by show 4≤sizeLine; rw [sizeLine_eq]; decide,.cons ⟨_,rfl⟩ (.cons ⟨_,rfl⟩ (.cons ⟨_,rfl⟩ (.cons ⟨_,rfl⟩ (.nil))))⟩),⟨_,_,rfl,zr6 (is:=[1,-1,1,-1]) (.inr ⟨_,_,_,l_WAYS_4,⟨rfl,rfl⟩,rfl,by show 4≤sizeLine; rw [sizeLine_eq]; decide,.cons ⟨_,rfl⟩ (.cons ⟨_,rfl⟩ (.cons ⟨_,rfl⟩ (.cons ⟨_,rfl⟩ (.nil))))⟩),⟨_,_,rfl,zr6 (is:=[1,-1,1,0]) (.inr ⟨_,_,_,l_WAYS_5,⟨rfl,rfl⟩,rfl,by show 4≤sizeLine; rw [sizeLine_eq]; decide,.cons ⟨_,rfl⟩ (.cons ⟨_,rfl⟩ (.cons ⟨_,rfl⟩ (.cons ⟨_,rfl⟩ (.nil))))⟩),⟨_,_,rfl,zr6 (is:=[0,-1,1,0]) (.inr ⟨_,_,_,l_WAYS_6,⟨rfl,rfl⟩,rfl,by show 4≤sizeLine; rw [sizeLine_eq]; decide,.cons ⟨_,rfl⟩ (.cons ⟨_,rfl⟩ (.cons ⟨_,rfl⟩ (.cons ⟨_,rfl⟩ (.nil))))⟩),⟨_,_,rfl,zr6 (is:=[-1,-1,1,0]) (.inr ⟨_,_,_,l_WAYS_7,⟨rfl,rfl⟩,rfl,by show 4≤sizeLine; rw [sizeLine_eq]; decide,.cons ⟨_,rfl⟩ (.cons ⟨_,rfl⟩ (.cons ⟨_,rfl⟩ (.cons ⟨_,rfl⟩ (.nil))))⟩),⟨_,_,rfl,zr6 (is:=[-1,-1,1,1]) (.inr ⟨_,_,_,l_WAYS_8,⟨rfl,rfl⟩,rfl,by show 4≤sizeLine; rw [sizeLine_eq]; decide,.cons ⟨_,rfl⟩ (.cons ⟨_,rfl⟩ (.cons ⟨_,rfl⟩ (.cons ⟨_,rfl⟩ (.nil))))⟩),⟨_,_,rfl,zr6 (is:=[0,-1,1,1]) (.inr ⟨_,_,_,l_WAYS_9,⟨rfl,rfl⟩,rfl,by show 4≤sizeLine; rw [sizeLine_eq]; decide,.cons ⟨_,rfl⟩ (.cons ⟨_,rfl⟩ (.cons ⟨_,rfl⟩ (.cons ⟨_,rfl⟩ (.nil))))⟩),⟨_,_,rfl,zr6 (is:=[1,-1,1,1]) (.inr ⟨_,_,_,l_WAYS_10,⟨rfl,rfl⟩,rfl,by show 4≤sizeLine; rw [sizeLine_eq]; decide,.cons ⟨_,rfl⟩ (.cons ⟨_,rfl⟩ (.cons ⟨_,rfl⟩ (.cons ⟨_,rfl⟩ (.nil))))⟩),⟨_,_,rfl,zr6 (is:=[1,0,1,1]) (.inr ⟨_,_,_,l_WAYS_11,⟨rfl,rfl⟩,rfl,by show 4≤sizeLine; rw [sizeLine_eq]; decide,.cons ⟨_,rfl⟩ (.cons ⟨_,rfl⟩ (.cons ⟨_,rfl⟩ (.cons ⟨_,rfl⟩ (.nil))))⟩),⟨_,_,rfl,zr6 (is:=[1,1,1,1]) (.inr ⟨_,_,_,l_WAYS_12,⟨rfl,rfl⟩,rfl,by show 4≤sizeLine; rw [sizeLine_eq]; decide,.cons ⟨_,rfl⟩ (.cons ⟨_,rfl⟩ (.cons ⟨_,rfl⟩ (.cons ⟨_,rfl⟩ (.nil))))⟩),rfl⟩⟩⟩⟩⟩⟩⟩⟩⟩⟩⟩⟩⟩⟩
  have m_abs:=PySem.W.mg_none_of X G z_abs
  have m_isinstance:=PySem.W.mg_none_of X G z_isinstance
  have m_tuple:=PySem.W.mg_none_of X G z_tuple
  have m_enumerate:=PySem.W.mg_none_of X G z_enumerate
  have m_dict:=PySem.W.mg_none_of X G z_dict
  have m_zip:=PySem.W.mg_none_of X G z_zip
  have m_len:=PySem.W.mg_none_of X G z_len
  have m_max:=PySem.W.mg_none_of X G z_max
  have m_int:=PySem.W.mg_none_of X G z_int
  have m_range:=PySem.W.mg_none_of X G z_range
  have m_sorted:=PySem.W.mg_none_of X G z_sorted
  have m_repr:=PySem.W.mg_none_of X G z_repr
  refine ⟨PySem.W.fnOf "law" "law" (zc4 zaf1) (zc1 zaf1) (za8 zaf1) .none kV_43 dc_43 pm_43 an_43 cd_43 ct_43,fun s v=>.of_eq rfl,fun base _ _=>?_⟩
  have C__law_feed:=zan1 (P:=l.prog) (w:=w) (mg:=mg) (base:=base) F__law_feed m_len m_max zak0
  have C__law_draw:=zak2 (P:=l.prog) (w:=w) (mg:=mg) (base:=base) F__law_draw zam3
  have C__law_names:=zah8 (P:=l.prog) (w:=w) (mg:=mg) (base:=base) F__law_names F__law_draw B__law_draw M__law_draw C__law_draw m_range m_len m_sorted zai7
  have C__law_kinds:=zai8 (P:=l.prog) (w:=w) (mg:=mg) (base:=base) F__law_kinds F__law_draw B__law_draw M__law_draw C__law_draw m_range m_tuple zai9
  have C__law_things:=zab9 (P:=l.prog) (w:=w) (mg:=mg) (base:=base) F__law_things F__law_names B__law_names M__law_names C__law_names F__law_draw B__law_draw M__law_draw C__law_draw F__law_kinds B__law_kinds M__law_kinds C__law_kinds m_len m_tuple m_range zac1
  have C__law_fraction:=zU4 (P:=l.prog) (w:=w) (mg:=mg) (base:=base) F__law_fraction m_abs zU9
  have C__law_times:=zae9 (P:=l.prog) (w:=w) (mg:=mg) (base:=base) F__law_times F__law_fraction B__law_fraction M__law_fraction C__law_fraction F__law_draw B__law_draw M__law_draw C__law_draw zag6
  have C__law_telling:=zW1 (P:=l.prog) (w:=w) (mg:=mg) (base:=base) F__law_telling F__law_draw B__law_draw M__law_draw C__law_draw F__law_times B__law_times M__law_times C__law_times m_tuple zW2
  have C__law_moved_time:=zQ5 (P:=l.prog) (w:=w) (mg:=mg) (base:=base) F__law_moved_time F__law_fraction B__law_fraction M__law_fraction C__law_fraction zO5
  have C__law_all_moved:=zS5 (P:=l.prog) (w:=w) (mg:=mg) (base:=base) F__law_all_moved F__law_moved_time B__law_moved_time M__law_moved_time C__law_moved_time m_tuple m_range m_len zR1
  have C_common:=zaD6 (P:=l.prog) (w:=w) (mg:=mg) (base:=base) F_common m_abs zaJ9
  have C_fraction:=zar8 (P:=l.prog) (w:=w) (mg:=mg) (base:=base) F_fraction F_common B_common M_common C_common zap8
  have C_plus:=zaY5 (P:=l.prog) (w:=w) (mg:=mg) (base:=base) F_plus F_fraction B_fraction M_fraction C_fraction zaU4
  have C_product:=zaz7 (P:=l.prog) (w:=w) (mg:=mg) (base:=base) F_product F_fraction B_fraction M_fraction C_fraction zaA0
  have C_moved:=zaN5 (P:=l.prog) (w:=w) (mg:=mg) (base:=base) F_moved F_plus B_plus M_plus C_plus F_product B_product M_product C_product m_tuple m_zip zaN1
  have C_names_of:=zao8 (P:=l.prog) (w:=w) (mg:=mg) (base:=base) F_names_of zao6
  have C_pairs_of:=zar5 (P:=l.prog) (w:=w) (mg:=mg) (base:=base) F_pairs_of F_names_of B_names_of M_names_of C_names_of m_enumerate zaq4
  have C_is_point:=zao7 (P:=l.prog) (w:=w) (mg:=mg) (base:=base) F_is_point m_isinstance m_tuple zap5
  have C_is_below:=zao2 (P:=l.prog) (w:=w) (mg:=mg) (base:=base) F_is_below zaq3
  have C_way_of:=zaJ4 (P:=l.prog) (w:=w) (mg:=mg) (base:=base) F_way_of F_is_below B_is_below M_is_below C_is_below zaJ1
  have C_words_of:=zap1 (P:=l.prog) (w:=w) (mg:=mg) (base:=base) F_words_of M_POINT_WORDS K_POINT_WORDS M_ORDER K_ORDER zar9
  have C_ways_by:=zay0 (P:=l.prog) (w:=w) (mg:=mg) (base:=base) F_ways_by M_WAYS K_WAYS zax5
  have C_word_of:=zaz8 (P:=l.prog) (w:=w) (mg:=mg) (base:=base) F_word_of F_is_point B_is_point M_is_point C_is_point F_way_of B_way_of M_way_of C_way_of F_words_of B_words_of M_words_of C_words_of F_ways_by B_ways_by M_ways_by C_ways_by m_tuple zaz0
  have C_times_of:=zas1 (P:=l.prog) (w:=w) (mg:=mg) (base:=base) F_times_of F_names_of B_names_of M_names_of C_names_of zas5
  have C_word_between:=zaa0 (P:=l.prog) (w:=w) (mg:=mg) (base:=base) F_word_between F_word_of B_word_of M_word_of C_word_of F_times_of B_times_of M_times_of C_times_of zW8
  have C_table_of:=zao5 (P:=l.prog) (w:=w) (mg:=mg) (base:=base) F_table_of F_pairs_of B_pairs_of M_pairs_of C_pairs_of F_word_between B_word_between M_word_between C_word_between m_tuple zar4
  have C__law_stand:=zaf4 (P:=l.prog) (w:=w) (mg:=mg) (base:=base) F__law_stand m_int zai2
  have C__law_word:=zan0 (P:=l.prog) (w:=w) (mg:=mg) (base:=base) F__law_word F__law_stand B__law_stand M__law_stand C__law_stand m_isinstance m_tuple zaj3
  have C__law_row:=zar3 (P:=l.prog) (w:=w) (mg:=mg) (base:=base) F__law_row F__law_word B__law_word M__law_word C__law_word zas4
  have C__law_table:=zae8 (P:=l.prog) (w:=w) (mg:=mg) (base:=base) F__law_table F__law_row B__law_row M__law_row C__law_row m_range m_len m_tuple zah9
  have C__law_all_ends:=zU3 (P:=l.prog) (w:=w) (mg:=mg) (base:=base) F__law_all_ends zV0
  have C__law_words:=zaf8 (P:=l.prog) (w:=w) (mg:=mg) (base:=base) F__law_words zag2
  have C__law_may:=zas2 (P:=l.prog) (w:=w) (mg:=mg) (base:=base) F__law_may F__law_words B__law_words M__law_words C__law_words F__law_draw B__law_draw M__law_draw C__law_draw m_len m_tuple zao3
  have C__law_may_saying:=zO4 (P:=l.prog) (w:=w) (mg:=mg) (base:=base) F__law_may_saying F__law_draw B__law_draw M__law_draw C__law_draw F__law_word B__law_word M__law_word C__law_word F__law_may B__law_may M__law_may C__law_may F__law_words B__law_words M__law_words C__law_words m_len m_tuple zP0
  have C__law_time:=zan2 (P:=l.prog) (w:=w) (mg:=mg) (base:=base) F__law_time m_range m_len zal1
  have C__law_gap_saying:=zN7 (P:=l.prog) (w:=w) (mg:=mg) (base:=base) F__law_gap_saying F__law_all_ends B__law_all_ends M__law_all_ends C__law_all_ends F__law_draw B__law_draw M__law_draw C__law_draw F__law_time B__law_time M__law_time C__law_time F__law_fraction B__law_fraction M__law_fraction C__law_fraction m_len m_abs zN4
  have C__law_talk:=zak8 (P:=l.prog) (w:=w) (mg:=mg) (base:=base) F__law_talk F__law_all_ends B__law_all_ends M__law_all_ends C__law_all_ends F__law_draw B__law_draw M__law_draw C__law_draw F__law_may_saying B__law_may_saying M__law_may_saying C__law_may_saying F__law_gap_saying B__law_gap_saying M__law_gap_saying C__law_gap_saying m_len m_range m_tuple zan7
  have C_less:=zaX2 (P:=l.prog) (w:=w) (mg:=mg) (base:=base) F_less F_fraction B_fraction M_fraction C_fraction zaY6
  have C_time_of:=zax3 (P:=l.prog) (w:=w) (mg:=mg) (base:=base) F_time_of F_times_of B_times_of M_times_of C_times_of m_dict zaz1
  have C_is_gap_met:=zai5 (P:=l.prog) (w:=w) (mg:=mg) (base:=base) F_is_gap_met F_less B_less M_less C_less F_time_of B_time_of M_time_of C_time_of F_is_below B_is_below M_is_below C_is_below zag5
  have C_is_so:=zaP7 (P:=l.prog) (w:=w) (mg:=mg) (base:=base) F_is_so F_word_between B_word_between M_word_between C_word_between F_is_gap_met B_is_gap_met M_is_gap_met C_is_gap_met zaL7
  have C_broken:=zaB2 (P:=l.prog) (w:=w) (mg:=mg) (base:=base) F_broken F_is_so B_is_so M_is_so C_is_so m_enumerate zaD5
  have C__law_often_right:=zM6 (P:=l.prog) (w:=w) (mg:=mg) (base:=base) F__law_often_right F__law_all_moved B__law_all_moved M__law_all_moved C__law_all_moved F_moved B_moved M_moved C_moved F_table_of B_table_of M_table_of C_table_of F__law_table B__law_table M__law_table C__law_table m_range m_repr zN3
  exact zbe9 F_law F__law_feed B__law_feed M__law_feed C__law_feed F__law_things B__law_things M__law_things C__law_things F__law_telling B__law_telling M__law_telling C__law_telling F__law_draw B__law_draw M__law_draw C__law_draw F__law_fraction B__law_fraction M__law_fraction C__law_fraction F__law_all_moved B__law_all_moved M__law_all_moved C__law_all_moved F_moved B_moved M_moved C_moved F_table_of B_table_of M_table_of C_table_of F__law_table B__law_table M__law_table C__law_table F__law_talk B__law_talk M__law_talk C__law_talk F_broken B_broken M_broken C_broken F__law_often_right B__law_often_right M__law_often_right C__law_often_right m_repr m_tuple m_range zbi7
theorem walk {l:PySem.W.OpenLaw} {q:Program} {loose:List Str} {XP:(Str→Option Value)→Heap→Prop} {YP:World→Heap→Prop} {d:DefRec} {K:Params→PySem.W.Frag} (hn:l.most=some 63) (hdf:d.params.defaults=[])
    (hY:∀ (w:World) (h:Heap),YP w h→(K w.params).In h)
    (F:∀ (w:World) (mg:Str→Option Value) (fa:Addr) (h:Heap),(K w.params).In h→h.Ns mainGlobals mg→mg d.name=some (.ref fa) →
      ∃ fd:FuncData,(∀ (s:Shared) (u:Value),BindsTo s fd ⟨[u],[]⟩ [("_law_script",u)])∧∀ base:Heap,(K w.params).In base→base.Ns mainGlobals mg→FnOk l.prog w (K w.params) mg base CX0 7 fa fd ["_law_script"] (LSp (K w.params) 1 zac5)) :
    PySem.W.WalkO q loose XP YP l.row.toRowW d [] (fun f vs=>PySem.call f vs) :=
  L2.walk_of (n:=63) (k:=7) (x:="_law_script") (CX:=fun _=>CX0) (sp:=fun w=>LSp (K w.params) 1 zac5) hn (by decide) hdf ⟨rfl,rfl,by decide,by decide⟩ hY F (fun _ _ a ns hl _ hS=>zaX1 hS ⟨ns,rfl,hl,fun _=>rfl⟩) fun _ _ _ _ _ z=>z
def zbo8 (P:Params):Obj:=⟨Value.type "dict",none,Data.dict #[{ hash:=reduceHash (Builtin.Tuple.tupleHashOf [PyData.keyHash P (Str.ofString "point"),PyData.keyHash P (Str.ofString "point")]),key:=Value.ref 59,val:=Value.ref 60 },{ hash:=reduceHash (Builtin.Tuple.tupleHashOf [PyData.keyHash P (Str.ofString "point"),PyData.keyHash P (Str.ofString "stretch")]),key:=Value.ref 61,val:=Value.ref 62 },{ hash:=reduceHash (Builtin.Tuple.tupleHashOf [PyData.keyHash P (Str.ofString "stretch"),PyData.keyHash P (Str.ofString "point")]),key:=Value.ref 63,val:=Value.ref 64 }] 3,#[]⟩
def zbm1 (P:Params):Obj:=⟨Value.type "tuple",none,Data.seq #[Value.str (Str.ofString "point") 254,Value.str (Str.ofString "point") 255],#[]⟩
def zbm3 (P:Params):Obj:=⟨Value.type "tuple",none,Data.seq #[Value.str (Str.ofString "ahead") 256,Value.str (Str.ofString "same") 257,Value.str (Str.ofString "behind") 258],#[]⟩
def zbl9 (P:Params):Obj:=⟨Value.type "tuple",none,Data.seq #[Value.str (Str.ofString "point") 259,Value.str (Str.ofString "stretch") 260],#[]⟩
def zbm2 (P:Params):Obj:=⟨Value.type "tuple",none,Data.seq #[Value.str (Str.ofString "ahead") 261,Value.str (Str.ofString "begins") 262,Value.str (Str.ofString "within") 263,Value.str (Str.ofString "ends") 264,Value.str (Str.ofString "behind") 265],#[]⟩
def zbm5 (P:Params):Obj:=⟨Value.type "tuple",none,Data.seq #[Value.str (Str.ofString "stretch") 266,Value.str (Str.ofString "point") 267],#[]⟩
def zbo3 (P:Params):Obj:=⟨Value.type "tuple",none,Data.seq #[Value.str (Str.ofString "ahead") 268,Value.str (Str.ofString "ended") 269,Value.str (Str.ofString "holds") 270,Value.str (Str.ofString "begun") 271,Value.str (Str.ofString "behind") 272],#[]⟩
noncomputable def kk (P:Params):PySem.W.Frag:=[(3,H14.o3 P),(20,H14.o20 P),(21,H14.o21 P),(27,H14.o27 P),(28,H14.o28 P),(34,H14.o34 P),(35,H14.o35 P),(41,H14.o41 P),(42,H14.o42 P),(48,H14.o48 P),(49,H14.o49 P),(55,H14.o55 P),(56,H14.o56 P),(57,H14.o57 P),(58,zbo8 P),(59,zbm1 P),(60,zbm3 P),(61,zbl9 P),(62,zbm2 P),(63,zbm5 P),(64,zbo3 P),(65,H14.o65 P),(66,H14.o66 P),(67,H14.o67 P),(68,H14.o68 P),(69,H14.o69 P),(70,H14.o70 P),(71,H14.o71 P),(72,H14.o72 P),(73,H14.o73 P),(74,H14.o74 P),(75,H14.o75 P),(76,H14.o76 P),(77,H14.o77 P),(78,H14.o78 P),(84,H14.o84 P),(85,H14.o85 P),(91,H14.o91 P),(92,H14.o92 P),(98,H14.o98 P),(99,H14.o99 P),(105,H14.o105 P),(106,H14.o106 P),(110,H14.o110 P),(111,H14.o111 P),(115,H14.o115 P),(116,H14.o116 P),(120,H14.o120 P),(121,H14.o121 P),(127,H14.o127 P),(128,H14.o128 P),(134,H14.o134 P),(135,H14.o135 P),(141,H14.o141 P),(142,H14.o142 P),(148,H14.o148 P),(149,H14.o149 P),(153,H14.o153 P),(154,H14.o154 P),(158,H14.o158 P),(159,H14.o159 P),(165,H14.o165 P),(166,H14.o166 P),(170,H14.o170 P),(171,H14.o171 P),(177,H14.o177 P),(178,H14.o178 P),(184,H14.o184 P),(185,H14.o185 P),(191,H14.o191 P),(192,H14.o192 P),(198,H14.o198 P),(199,H14.o199 P),(205,H14.o205 P),(206,H14.o206 P),(212,H14.o212 P),(213,H14.o213 P),(217,H14.o217 P),(218,H14.o218 P),(222,H14.o222 P),(223,H14.o223 P),(227,H14.o227 P),(228,H14.o228 P),(232,H14.o232 P),(233,H14.o233 P),(239,H14.o239 P),(240,H14.o240 P),(244,H14.o244 P),(245,H14.o245 P),(251,H14.o251 P),(252,H14.o252 P),(258,H14.o258 P),(259,H14.o259 P),(263,H14.o263 P),(264,H14.o264 P),(270,H14.o270 P),(271,H14.o271 P),(277,H14.o277 P),(278,H14.o278 P),(284,H14.o284 P),(285,H14.o285 P),(291,H14.o291 P),(292,H14.o292 P),(298,H14.o298 P),(299,H14.o299 P),(303,H14.o303 P),(304,H14.o304 P),(310,H14.o310 P),(311,H14.o311 P),(315,H14.o315 P),(316,H14.o316 P)]
end K14
open PySem PySem.W PyProof.Rows
set_option maxRecDepth 100000 in
set_option maxHeartbeats 0 in
theorem PySem.Challenge.cw_whens_k14_whole_moved_holds : PySem.Challenge.rw_whens_k14_whole_moved.Holds := by
  w_on; o_law; refine H14.head (H:=kHook K14.kk [3,20,21,27,28,34,35,41,42,48,49,55,56,57,58,59,60,61,62,63,64,65,66,67,68,69,70,71,72,73,74,75,76,77,78,84,85,91,92,98,99,105,106,110,111,115,116,120,121,127,128,134,135,141,142,148,149,153,154,158,159,165,166,170,171,177,178,184,185,191,192,198,199,205,206,212,213,217,218,222,223,227,228,232,233,239,240,244,245,251,252,258,259,263,264,270,271,277,278,284,285,291,292,298,299,303,304,310,311,315,316] (fun _=>by kernel_rfl)) (fun w os=>by kernel_rfl) (by assumption) (by rfl) (by rfl) (by rfl) ?hw ?hc; (case hw=>w_witness2)
  k_fill
  refine K14.walk (l:=PySem.Challenge.rw_whens_k14_whole_moved) rfl rfl (fun w h Y=>PySem.W.kIn_of Y) ?F
  case F =>
    intro w mg fa h KX G hmg
    refine' K14.all_mk (f_common:=21) (f_fraction:=28) (f_plus:=35) (f_less:=42) (f_product:=49) (f_is_below:=56) (f_words_of:=85) (f_ways_by:=92) (f_is_point:=99) (f_way_of:=106) (f_word_of:=111) (f_names_of:=116) (f_pairs_of:=121) (f_times_of:=128) (f_time_of:=135) (f_word_between:=142) (f_is_gap_met:=149) (f_table_of:=154) (f_moved:=159) (f_is_so:=166) (f_broken:=171) (f__law_feed:=178) (f__law_draw:=185) (f__law_fraction:=192) (f__law_stand:=199) (f__law_word:=206) (f__law_words:=213) (f__law_names:=218) (f__law_kinds:=223) (f__law_things:=228) (f__law_may:=233) (f__law_times:=240) (f__law_telling:=245) (f__law_all_ends:=252) (f__law_time:=259) (f__law_may_saying:=264) (f__law_gap_saying:=271) (f__law_talk:=278) (f__law_row:=285) (f__law_table:=292) (f__law_moved_time:=299) (f__law_all_moved:=304) (f__law_often_right:=311) (f_law:=316) (c_POINT_WORDS:=58) (c_ORDER:=57) (c_WAYS:=65) KX G hmg ?a0 ?l0 ?c0 ?k0 ?a1 ?l1 ?c1 ?k1 ?a2 ?l2 ?c2 ?k2 ?a3 ?l3 ?c3 ?k3 ?a4 ?l4 ?c4 ?k4 ?a5 ?l5 ?c5 ?k5 ?a6 ?l6 ?c6 ?k6 ?a7 ?l7 ?c7 ?k7 ?a8 ?l8 ?c8 ?k8 ?a9 ?l9 ?c9 ?k9 ?a10 ?l10 ?c10 ?k10 ?a11 ?l11 ?c11 ?k11 ?a12 ?l12 ?c12 ?k12 ?a13 ?l13 ?c13 ?k13 ?a14 ?l14 ?c14 ?k14 ?a15 ?l15 ?c15 ?k15 ?a16 ?l16 ?c16 ?k16 ?a17 ?l17 ?c17 ?k17 ?a18 ?l18 ?c18 ?k18 ?a19 ?l19 ?c19 ?k19 ?a20 ?l20 ?c20 ?k20 ?a21 ?l21 ?c21 ?k21 ?a22 ?l22 ?c22 ?k22 ?a23 ?l23 ?c23 ?k23 ?a24 ?l24 ?c24 ?k24 ?a25 ?l25 ?c25 ?k25 ?a26 ?l26 ?c26 ?k26 ?a27 ?l27 ?c27 ?k27 ?a28 ?l28 ?c28 ?k28 ?a29 ?l29 ?c29 ?k29 ?a30 ?l30 ?c30 ?k30 ?a31 ?l31 ?c31 ?k31 ?a32 ?l32 ?c32 ?k32 ?a33 ?l33 ?c33 ?k33 ?a34 ?l34 ?c34 ?k34 ?a35 ?l35 ?c35 ?k35 ?a36 ?l36 ?c36 ?k36 ?a37 ?l37 ?c37 ?k37 ?a38 ?l38 ?c38 ?k38 ?a39 ?l39 ?c39 ?k39 ?a40 ?l40 ?c40 ?k40 ?a41 ?l41 ?c41 ?k41 ?a42 ?l42 ?c42 ?k42 ?a43 ?l43 ?c43 ?k43 ?a_WAYS ?l_WAYS ?l_WAYS_0 ?l_WAYS_1 ?l_WAYS_2 ?l_WAYS_3 ?l_WAYS_4 ?l_WAYS_5 ?l_WAYS_6 ?l_WAYS_7 ?l_WAYS_8 ?l_WAYS_9 ?l_WAYS_10 ?l_WAYS_11 ?l_WAYS_12 ?y_WAYS ?a_POINT_WORDS ?l_POINT_WORDS ?lk_POINT_WORDS_0 ?lr_POINT_WORDS_0 ?lk_POINT_WORDS_1 ?lr_POINT_WORDS_1 ?lk_POINT_WORDS_2 ?lr_POINT_WORDS_2 ?y_POINT_WORDS ?a_ORDER ?l_ORDER ?z_abs ?z_isinstance ?z_tuple ?z_enumerate ?z_dict ?z_zip ?z_len ?z_max ?z_int ?z_range ?z_sorted ?z_repr
    (case a0=>kernel_rfl)
    (case l0=>exact rfl)
    (case c0=>kernel_rfl)
    (case k0=>kernel_rfl)
    (case a1=>kernel_rfl)
    (case l1=>exact rfl)
    (case c1=>kernel_rfl)
    (case k1=>kernel_rfl)
    (case a2=>kernel_rfl)
    (case l2=>exact rfl)
    (case c2=>kernel_rfl)
    (case k2=>kernel_rfl)
    (case a3=>kernel_rfl)
    (case l3=>exact rfl)
    (case c3=>kernel_rfl)
    (case k3=>kernel_rfl)
    (case a4=>kernel_rfl)
    (case l4=>exact rfl)
    (case c4=>kernel_rfl)
    (case k4=>kernel_rfl)
    (case a5=>kernel_rfl)
    (case l5=>exact rfl)
    (case c5=>kernel_rfl)
    (case k5=>kernel_rfl)
    (case a6=>kernel_rfl)
    (case l6=>exact rfl)
    (case c6=>kernel_rfl)
    (case k6=>kernel_rfl)
    (case a7=>kernel_rfl)
    (case l7=>exact rfl)
    (case c7=>kernel_rfl)
    (case k7=>kernel_rfl)
    (case a8=>kernel_rfl)
    (case l8=>exact rfl)
    (case c8=>kernel_rfl)
    (case k8=>kernel_rfl)
    (case a9=>kernel_rfl)
    (case l9=>exact rfl)
    (case c9=>kernel_rfl)
    (case k9=>kernel_rfl)
    (case a10=>kernel_rfl)
    (case l10=>exact rfl)
    (case c10=>kernel_rfl)
    (case k10=>kernel_rfl)
    (case a11=>kernel_rfl)
    (case l11=>exact rfl)
    (case c11=>kernel_rfl)
    (case k11=>kernel_rfl)
    (case a12=>kernel_rfl)
    (case l12=>exact rfl)
    (case c12=>kernel_rfl)
    (case k12=>kernel_rfl)
    (case a13=>kernel_rfl)
    (case l13=>exact rfl)
    (case c13=>kernel_rfl)
    (case k13=>kernel_rfl)
    (case a14=>kernel_rfl)
    (case l14=>exact rfl)
    (case c14=>kernel_rfl)
    (case k14=>kernel_rfl)
    (case a15=>kernel_rfl)
    (case l15=>exact rfl)
    (case c15=>kernel_rfl)
    (case k15=>kernel_rfl)
    (case a16=>kernel_rfl)
    (case l16=>exact rfl)
    (case c16=>kernel_rfl)
    (case k16=>kernel_rfl)
    (case a17=>kernel_rfl)
    (case l17=>exact rfl)
    (case c17=>kernel_rfl)
    (case k17=>kernel_rfl)
    (case a18=>kernel_rfl)
    (case l18=>exact rfl)
    (case c18=>kernel_rfl)
    (case k18=>kernel_rfl)
    (case a19=>kernel_rfl)
    (case l19=>exact rfl)
    (case c19=>kernel_rfl)
    (case k19=>kernel_rfl)
    (case a20=>kernel_rfl)
    (case l20=>exact rfl)
    (case c20=>kernel_rfl)
    (case k20=>kernel_rfl)
    (case a21=>kernel_rfl)
    (case l21=>exact rfl)
    (case c21=>kernel_rfl)
    (case k21=>kernel_rfl)
    (case a22=>kernel_rfl)
    (case l22=>exact rfl)
    (case c22=>kernel_rfl)
    (case k22=>kernel_rfl)
    (case a23=>kernel_rfl)
    (case l23=>exact rfl)
    (case c23=>kernel_rfl)
    (case k23=>kernel_rfl)
    (case a24=>kernel_rfl)
    (case l24=>exact rfl)
    (case c24=>kernel_rfl)
    (case k24=>kernel_rfl)
    (case a25=>kernel_rfl)
    (case l25=>exact rfl)
    (case c25=>kernel_rfl)
    (case k25=>kernel_rfl)
    (case a26=>kernel_rfl)
    (case l26=>exact rfl)
    (case c26=>kernel_rfl)
    (case k26=>kernel_rfl)
    (case a27=>kernel_rfl)
    (case l27=>exact rfl)
    (case c27=>kernel_rfl)
    (case k27=>kernel_rfl)
    (case a28=>kernel_rfl)
    (case l28=>exact rfl)
    (case c28=>kernel_rfl)
    (case k28=>kernel_rfl)
    (case a29=>kernel_rfl)
    (case l29=>exact rfl)
    (case c29=>kernel_rfl)
    (case k29=>kernel_rfl)
    (case a30=>kernel_rfl)
    (case l30=>exact rfl)
    (case c30=>kernel_rfl)
    (case k30=>kernel_rfl)
    (case a31=>kernel_rfl)
    (case l31=>exact rfl)
    (case c31=>kernel_rfl)
    (case k31=>kernel_rfl)
    (case a32=>kernel_rfl)
    (case l32=>exact rfl)
    (case c32=>kernel_rfl)
    (case k32=>kernel_rfl)
    (case a33=>kernel_rfl)
    (case l33=>exact rfl)
    (case c33=>kernel_rfl)
    (case k33=>kernel_rfl)
    (case a34=>kernel_rfl)
    (case l34=>exact rfl)
    (case c34=>kernel_rfl)
    (case k34=>kernel_rfl)
    (case a35=>kernel_rfl)
    (case l35=>exact rfl)
    (case c35=>kernel_rfl)
    (case k35=>kernel_rfl)
    (case a36=>kernel_rfl)
    (case l36=>exact rfl)
    (case c36=>kernel_rfl)
    (case k36=>kernel_rfl)
    (case a37=>kernel_rfl)
    (case l37=>exact rfl)
    (case c37=>kernel_rfl)
    (case k37=>kernel_rfl)
    (case a38=>kernel_rfl)
    (case l38=>exact rfl)
    (case c38=>kernel_rfl)
    (case k38=>kernel_rfl)
    (case a39=>kernel_rfl)
    (case l39=>exact rfl)
    (case c39=>kernel_rfl)
    (case k39=>kernel_rfl)
    (case a40=>kernel_rfl)
    (case l40=>exact rfl)
    (case c40=>kernel_rfl)
    (case k40=>kernel_rfl)
    (case a41=>kernel_rfl)
    (case l41=>exact rfl)
    (case c41=>kernel_rfl)
    (case k41=>kernel_rfl)
    (case a42=>kernel_rfl)
    (case l42=>exact rfl)
    (case c42=>kernel_rfl)
    (case k42=>kernel_rfl)
    (case a43=>kernel_rfl)
    (case l43=>exact rfl)
    (case c43=>kernel_rfl)
    (case k43=>kernel_rfl)
    (case a_WAYS=>kernel_rfl)
    (case l_WAYS=>exact rfl)
    (case l_WAYS_0=>exact rfl)
    (case l_WAYS_1=>exact rfl)
    (case l_WAYS_2=>exact rfl)
    (case l_WAYS_3=>exact rfl)
    (case l_WAYS_4=>exact rfl)
    (case l_WAYS_5=>exact rfl)
    (case l_WAYS_6=>exact rfl)
    (case l_WAYS_7=>exact rfl)
    (case l_WAYS_8=>exact rfl)
    (case l_WAYS_9=>exact rfl)
    (case l_WAYS_10=>exact rfl)
    (case l_WAYS_11=>exact rfl)
    (case l_WAYS_12=>exact rfl)
    (case y_WAYS=>rfl)
    (case a_POINT_WORDS=>kernel_rfl)
    (case l_POINT_WORDS=>exact rfl)
    (case lk_POINT_WORDS_0=>exact rfl)
    (case lr_POINT_WORDS_0=>exact rfl)
    (case lk_POINT_WORDS_1=>exact rfl)
    (case lr_POINT_WORDS_1=>exact rfl)
    (case lk_POINT_WORDS_2=>exact rfl)
    (case lr_POINT_WORDS_2=>exact rfl)
    (case y_POINT_WORDS=>rfl)
    (case a_ORDER=>kernel_rfl)
    (case l_ORDER=>exact rfl)
    (case z_abs=>kernel_rfl)
    (case z_isinstance=>kernel_rfl)
    (case z_tuple=>kernel_rfl)
    (case z_enumerate=>kernel_rfl)
    (case z_dict=>kernel_rfl)
    (case z_zip=>kernel_rfl)
    (case z_len=>kernel_rfl)
    (case z_max=>kernel_rfl)
    (case z_int=>kernel_rfl)
    (case z_range=>kernel_rfl)
    (case z_sorted=>kernel_rfl)
    (case z_repr=>kernel_rfl)
#print axioms PySem.Challenge.cw_whens_k14_whole_moved_holds
