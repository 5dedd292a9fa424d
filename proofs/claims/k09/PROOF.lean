import PyProof.Rows.All
import Wide.All
import OpenK.AllK
import Wide.FinOn
import Lean
import PyProof.EqAt
import PyProof.EqKinds
import PyProof.TupleCall
import PyProof.ListMulRoad
import KE.KRevIter
import PyProof.ZipIter
import PyProof.TupleIter
import PyProof.Rows.SortWalk
import PyProof.Rows.SortStr
import PyProof.Rows.StrWeight2
import PyProof.ConsumeWalk
import PyProof.SliceStr2
import PyProof.ListRange
import PyProof.TupleOfSeq
import PyProof.P3In
import PyProof.AttrMissHeap
import KE.KDictOf
import PyProof.StrBlockI
import PyProof.WalksEnum
import PyProof.EnumMake
import PyProof.DictWalks
import PyProof.SetRoads
import PyProof.SetNew
import PyProof.Rows.SetFrom
import PyProof.CollectWalk
import PyProof.StrWalks
import PyProof.FString5
import PySem.Challenge.RW_whens_k09_things_by_kind
set_option Elab.async false
set_option linter.all false
set_option maxRecDepth 100000
set_option maxHeartbeats 4000000
set_option Elab.async false
set_option linter.all false
set_option maxRecDepth 100000
namespace L2
open PySem PySem.Spec PyProof.Rows
abbrev Key := Sum Int Str
def keyIs : Key → Value → Bool
  | .inl k, v => Value.isInt k v
  | .inr x, v => Value.isStrOf x v
def keyH (w : World) : Key → Int
  | .inl k => hashInt k
  | .inr x => hashStr w x
theorem keyIs_shape : ∀ {k : Key} {v : Value}, keyIs k v = true → (∃ i t, k = Sum.inl i ∧ v = Value.int i t) ∨ (∃ x t, k = Sum.inr x ∧ v = Value.str x t)
  | .inl i, v, h => by
    obtain ⟨t, e⟩ := Value.isInt_shape (k := i) (v := v) h
    exact .inl ⟨i, t, rfl, e⟩
  | .inr x, v, h => by
    obtain ⟨t, e⟩ := Value.isStrOf_shape (x := x) (v := v) h
    exact .inr ⟨x, t, rfl, e⟩
theorem keyIs_int (i : Int) (t : Tok) : keyIs (.inl i) (.int i t) = true := by simp [keyIs, Value.isInt]
theorem keyIs_str (x : Str) (t : Tok) : keyIs (.inr x) (.str x t) = true := by simp [keyIs, Value.isStrOf]
theorem key_ll (a b : Int) : decide ((Sum.inl a : Key) = Sum.inl b) = (a == b) := by
  by_cases e : a = b
  · subst e; simp
  · have h : ¬ (Sum.inl a : Key) = Sum.inl b := fun q => e (Sum.inl.inj q)
    rw [decide_eq_false h]
    exact (beq_eq_false_iff_ne.mpr e).symm
theorem key_rr (a b : Str) : decide ((Sum.inr a : Key) = Sum.inr b) = decide (a = b) := by
  by_cases e : a = b
  · subst e; simp
  · have h : ¬ (Sum.inr a : Key) = Sum.inr b := fun q => e (Sum.inr.inj q)
    rw [decide_eq_false h, decide_eq_false e]
theorem key_lr (a : Int) (b : Str) : decide ((Sum.inl a : Key) = Sum.inr b) = false := decide_eq_false (fun q => nomatch q)
theorem key_rl (a : Str) (b : Int) : decide ((Sum.inr a : Key) = Sum.inl b) = false := decide_eq_false (fun q => nomatch q)
def mixKind (prog : Program) (w : World) : PySem.KeyKind prog w Key where
  is := keyIs
  hash := keyH w
  inj := fun v a b ha hb => by
    rcases keyIs_shape ha with ⟨i, t, rfl, rfl⟩ | ⟨x, t, rfl, rfl⟩
    · rcases keyIs_shape hb with ⟨j, u, rfl, e⟩ | ⟨y, u, rfl, e⟩
      · injection e with e1 _; rw [e1]
      · exact nomatch e
    · rcases keyIs_shape hb with ⟨j, u, rfl, e⟩ | ⟨y, u, rfl, e⟩
      · exact nomatch e
      · injection e with e1 _; rw [e1]
  byValue := fun k v h => by
    rcases keyIs_shape h with ⟨i, t, rfl, rfl⟩ | ⟨x, t, rfl, rfl⟩ <;> rfl
  pyHash := fun hv h => by
    rcases keyIs_shape hv with ⟨i, t, rfl, rfl⟩ | ⟨x, t, rfl, rfl⟩
    · exact wpAny_pyHash_int h
    · exact wpAny_pyHash_str h
  eqBool := fun hu hv h => by
    rcases keyIs_shape hu with ⟨i, t, rfl, rfl⟩ | ⟨x, t, rfl, rfl⟩
    · rcases keyIs_shape hv with ⟨j, u, rfl, rfl⟩ | ⟨y, u, rfl, rfl⟩
      · rw [key_ll] at h; exact wpAny_eqBool_int h
      · rw [key_lr] at h; exact SeqAt.EqAt.int_str i t y u _ _ _ _ h
    · rcases keyIs_shape hv with ⟨j, u, rfl, rfl⟩ | ⟨y, u, rfl, rfl⟩
      · rw [key_rl] at h; exact SeqAt.EqAt.str_int x t j u _ _ _ _ h
      · rw [key_rr] at h; exact wpAny_eqBool_str h
  «strs» := fun k x t v h => by
    rcases keyIs_shape h with ⟨i, u, rfl, e⟩ | ⟨y, u, rfl, e⟩
    · exact nomatch e
    · injection e with e1 _
      subst e1
      cases v <;> rfl
theorem mixKind_int (prog : Program) (w : World) (i : Int) (t : Tok) : (mixKind prog w).is (.inl i) (.int i t) = true := keyIs_int i t
theorem mixKind_str (prog : Program) (w : World) (x : Str) (t : Tok) : (mixKind prog w).is (.inr x) (.str x t) = true := keyIs_str x t
end L2
namespace L2
open PySem PySem.Spec PyProof.Rows
inductive V where
  | non | bl (b : Bool) | int (i : Int) | str (x : Str) | byt (b : Array UInt8) | flt (b : UInt64) | ref (a : Addr) | ty (n : String)
  deriving DecidableEq
def RelV : V → Value → Prop
  | .non, u => u = Value.none
  | .bl b, u => u = Value.bool b
  | .int i, u => ∃ t, u = Value.int i t
  | .str x, u => ∃ t, u = Value.str x t
  | .byt b, u => ∃ t, u = Value.bytes b t
  | .flt b, u => ∃ t, u = Value.float b t
  | .ref a, u => u = Value.ref a
  | .ty n, u => u = Value.type n
abbrev Vals : List V → List Value → Prop := Paired RelV
theorem Vals.length {xs : List V} {us : List Value} (r : Vals xs us) : xs.length = us.length := Paired.length r
theorem Vals.get : ∀ {xs : List V} {us : List Value} {i : Nat} {x : V}, Vals xs us → xs[i]? = some x → ∃ u, us[i]? = some u ∧ RelV x u
  | _, _, _, _, .nil, e => by simp at e
  | _, _, 0, _, .cons r _, e => by simp at e; subst e; exact ⟨_, rfl, r⟩
  | _, _, i + 1, x, .cons _ t, e => by
    obtain ⟨u, h1, h2⟩ := Vals.get (i := i) (x := x) t (by simpa using e)
    exact ⟨u, by simpa using h1, h2⟩
theorem Vals.set {x : V} {u : Value} (r : RelV x u) : ∀ {xs : List V} {us : List Value} (i : Nat), Vals xs us → Vals (xs.set i x) (us.set i u)
  | _, _, _, .nil => .nil
  | _, _, 0, .cons _ t => .cons r t
  | _, _, i + 1, .cons q t => .cons q (Vals.set r i t)
theorem Vals.append : ∀ {xs ys : List V} {us ws : List Value}, Vals xs us → Vals ys ws → Vals (xs ++ ys) (us ++ ws)
  | _, _, _, _, .nil, s => s
  | _, _, _, _, .cons r t, s => .cons r (Vals.append t s)
theorem Vals.take : ∀ {xs : List V} {us : List Value} (n : Nat), Vals xs us → Vals (xs.take n) (us.take n)
  | _, _, 0, _ => .nil
  | _, _, _ + 1, .nil => .nil
  | _, _, n + 1, .cons r t => .cons r (Vals.take n t)
theorem Vals.drop : ∀ {xs : List V} {us : List Value} (n : Nat), Vals xs us → Vals (xs.drop n) (us.drop n)
  | _, _, 0, r => r
  | _, _, _ + 1, .nil => .nil
  | _, _, n + 1, .cons _ t => Vals.drop n t
def RelO : Option V → Option Value → Prop
  | some v, some u => RelV v u
  | none, none => True
  | _, _ => False
def KV {κ : Type} : List (κ × V) → List (κ × Value) → Prop := Paired fun (p : κ × V) (q : κ × Value) => p.1 = q.1 ∧ RelV p.2 q.2
def kV : Key → V
  | .inl i => .int i
  | .inr x => .str x
inductive HO where
  /-- a list -/
  | lst (xs : List V)
  /-- a tuple (never changes) -/
  | tup (xs : List V)
  /-- a dict whose keys are ints and texts; one whose keys are tuples of ints and texts (the empty one is both) -/
  | dK (kvs : List (Key × V)) | dT (kvs : List (List Key × V))
  /-- a set of ints: its members, its size -/
  | set (S : Int → Bool) (n : Nat)
  /-- an instance of the class at C, its dict at dx, its attributes -/
  | ins (C dx : Addr) (fs : List (Str × V))
  /-- the dict of the instance at x -/
  | own (x : Addr)
  /-- the dict of an exception -/
  | xd (fs : List (Str × V))
  /-- a bound method, f of x -/
  | met (f x : Addr)
  /-- a range object lo, lo + 1, .. below hi -/
  | rng (lo hi : Int)
  /-- a thing that is known to the object (the script; a dict while a loop walks it): read, never written while it is so -/
  | frz (o : Obj) (u : HO)
  /-- a code object's table -/
  | tbl (ps : Array Value)
  /-- any other thing, by what is true of its one object (a def of one's own: SetO a S n := HO.ext fun h => ..) -/
  | ext (φ : Heap → Prop)
abbrev Hp := Addr → Option HO
def upd (H : Hp) (a : Addr) (o : HO) : Hp := fun b => if b = a then some o else H b
theorem upd_same {H : Hp} {a : Addr} {o : HO} : upd H a o a = some o := by unfold upd; rw [if_pos rfl]
theorem upd_ne {H : Hp} {a b : Addr} {o : HO} (h : b ≠ a) : upd H a o b = H b := by unfold upd; rw [if_neg h]
theorem ne_of_none {H : Hp} {a b : Addr} {o : HO} (h : H a = some o) (h' : H b = none) : a ≠ b := by
  intro e; subst e; rw [h] at h'; cases h'
def NoD (h : Heap) (a : Addr) : Prop := ∃ o, h.get? a = some o ∧ o.dict = none
theorem NoD.new (h : Heap) (c : Value) (d : Data) (hf : Obj.isFreed { cls := c, data := d } = false := by rfl) : NoD (h.push { cls := c, data := d }) h.objs.size := ⟨_, Heap.get?_push_size _ hf, rfl⟩
theorem NoD.keep {h h' : Heap} {a : Addr} (x : NoD h a) (k : ∀ o, h.get? a = some o → h'.get? a = some o) : NoD h' a := let ⟨o, e, d⟩ := x; ⟨o, k _ e, d⟩
section
variable (P : Program) (w : World)
def ObjOk (H : Hp) (h : Heap) (a : Addr) : HO → Prop
  | .lst xs => xs.length ≤ sizeLine ∧ ∃ (its : List Value) (n : Nat), Vals xs its ∧ h.get? a = some { cls := .type "list", data := .seq its.toArray n }
  | .tup xs => (xs.length ≤ sizeLine ∧ NoD h a) ∧ ∃ its : List Value, Vals xs its ∧ IsTup h a its.toArray
  | .dK kvs => kvs.length ≤ sizeLine ∧ (a == sysModules) = false ∧ ∃ vs, KV kvs vs ∧ h.DictOf (mixKind P w) a vs
  | .dT kvs => kvs.length ≤ sizeLine ∧ (a == sysModules) = false ∧ ∃ xs : List (List Key × Addr × Value),
      Paired (fun (p : List Key × V) (q : List Key × Addr × Value) => p.1 = q.1 ∧ H q.2.1 = some (.tup (p.1.map kV)) ∧ RelV p.2 q.2.2) kvs xs ∧
      ∃ o es ep, h.get? a = some o ∧ o.ExactDict ∧ o.data = .dict es ep ∧ es.toList = xs.map (entryOfKey (tupleKind (mixKind P w))) ∧ (xs.map (·.1)).Nodup
  | .set S n => h.SetOf (intKind P w) a S n
  | .ins C dx fs => H dx = some (.own a) ∧ fs.length ≤ 1000 ∧ dx ≠ a ∧ h.get? a = some (PySem.W.instObj C dx) ∧
      ∃ mA, h.Ns1 dx mA ∧ (∀ f, RelO (fs.lookup f) (mA f)) ∧ PySem.Within mA (fs.map (·.1))
  | .own _ => ∃ o, h.get? a = some o
  | .xd fs => ∃ mA, h.Ns1 a mA ∧ ∀ f, RelO (fs.lookup f) (mA f)
  | .rng lo hi => ∃ t u v, h.get? a = some { cls := .type "range", data := .fields #[.int lo t, .int hi u, .int 1 v] }
  | .frz o u => h.get? a = some o ∧ ObjOk H h a u
  | .tbl ps => h.get? a = some { cls := .none, data := .fields ps }
  | .met f x => h.get? a = some (PySem.W.methodObj (.ref f) (.ref x))
  | .ext φ => φ h ∧ (∃ o, h.get? a = some o) ∧ ∀ h1 h2 : Heap, φ h1 → (∀ o, h1.get? a = some o → h2.get? a = some o) → φ h2
def HOk (H : Hp) (h : Heap) : Prop := ∀ a o, H a = some o → ObjOk P w H h a o
end
section
variable {P : Program} {w : World} {H H' : Hp} {h h' : Heap} {a : Addr} {o : HO}
theorem ObjOk.lt (x : ObjOk P w H h a o) : a < h.objs.size := by
  cases o with
  | lst xs => obtain ⟨_, _, _, _, e⟩ := x; exact Heap.lt_size e
  | tup xs => obtain ⟨_, _, _, p⟩ := x; exact p.lt
  | dK kvs => obtain ⟨_, _, _, _, o, _, _, e, _⟩ := x; exact Heap.lt_size e
  | dT kvs => obtain ⟨_, _, _, _, o, _, _, e, _⟩ := x; exact Heap.lt_size e
  | set S n => obtain ⟨o, _, _, _, e, _⟩ := x; exact Heap.lt_size e
  | ins C dx fs => obtain ⟨_, _, _, e, _⟩ := x; exact Heap.lt_size e
  | own y => obtain ⟨_, e⟩ := x; exact Heap.lt_size e
  | xd fs => obtain ⟨_, ⟨_, _, _, e, _⟩, _⟩ := x; exact Heap.lt_size e
  | rng lo hi => obtain ⟨_, _, _, e⟩ := x; exact Heap.lt_size e
  | frz ob u => obtain ⟨e, _⟩ := x; exact Heap.lt_size e
  | tbl ps => exact Heap.lt_size (show h.get? a = some _ from x)
  | met f y => exact Heap.lt_size (show h.get? a = some _ from x)
  | ext φ => obtain ⟨_, ⟨_, e⟩, _⟩ := x; exact Heap.lt_size e
theorem Paired.mapP {α β : Type} {F G : α → β → Prop} : ∀ {l₁ : List α} {l₂ : List β}, Paired F l₁ l₂ → (∀ a b, F a b → G a b) → Paired G l₁ l₂
  | _, _, .nil, _ => .nil
  | _, _, .cons r t, f => .cons (f _ _ r) (Paired.mapP t f)
theorem ObjOk.stay (x : ObjOk P w H h a o) (k : ∀ b u, (b = a ∨ H b = some (.own a)) → h.get? b = some u → h'.get? b = some u)
    (ho : ∀ b, H b = some (.own a) → H' b = some (.own a)) (ht : ∀ b xs, H b = some (.tup xs) → H' b = some (.tup xs)) : ObjOk P w H' h' a o := by
  induction o with
  | lst xs => obtain ⟨z, its, n, r, e⟩ := x; exact ⟨z, its, n, r, k _ _ (.inl rfl) e⟩
  | tup xs => obtain ⟨z, its, r, ob, e, c⟩ := x; exact ⟨⟨z.1, z.2.keep fun _ e => k _ _ (.inl rfl) e⟩, its, r, ob, k _ _ (.inl rfl) e, c⟩
  | dK kvs => obtain ⟨z, y, vs, r, ob, es, ep, e, c⟩ := x; exact ⟨z, y, vs, r, ob, es, ep, k _ _ (.inl rfl) e, c⟩
  | dT kvs =>
    obtain ⟨z, y, xs, r, ob, es, ep, e, c⟩ := x
    exact ⟨z, y, xs, Paired.mapP r fun p q z => ⟨z.1, ht _ _ z.2.1, z.2.2⟩, ob, es, ep, k _ _ (.inl rfl) e, c⟩
  | set S n => obtain ⟨ob, es, ep, t, e, c⟩ := x; exact ⟨ob, es, ep, t, k _ _ (.inl rfl) e, c⟩
  | ins C dx fs =>
    obtain ⟨d, z, ne, e, mA, ⟨od, es, ep, e2, c⟩, r⟩ := x
    exact ⟨ho _ d, z, ne, k _ _ (.inl rfl) e, mA, ⟨od, es, ep, k _ _ (.inr d) e2, c⟩, r⟩
  | own y => obtain ⟨ob, e⟩ := x; exact ⟨ob, k _ _ (.inl rfl) e⟩
  | xd fs => obtain ⟨mA, ⟨od, es, ep, e, c⟩, r⟩ := x; exact ⟨mA, ⟨od, es, ep, k _ _ (.inl rfl) e, c⟩, r⟩
  | rng lo hi => obtain ⟨t, u, v, e⟩ := x; exact ⟨t, u, v, k _ _ (.inl rfl) e⟩
  | frz ob u ih => obtain ⟨e, q⟩ := x; exact ⟨k _ _ (.inl rfl) e, ih q⟩
  | tbl ps =>
    have e : h.get? a = some { cls := .none, data := .fields ps } := x
    show h'.get? a = some { cls := .none, data := .fields ps }
    exact k a _ (.inl rfl) e
  | met f y =>
    have e : h.get? a = some (PySem.W.methodObj (.ref f) (.ref y)) := x
    show h'.get? a = some (PySem.W.methodObj (.ref f) (.ref y))
    exact k a _ (.inl rfl) e
  | ext φ => obtain ⟨p, ⟨o, e⟩, st⟩ := x; exact ⟨st _ _ p fun o q => k _ _ (.inl rfl) q, ⟨o, k _ _ (.inl rfl) e⟩, st⟩
theorem HOk.lt (x : HOk P w H h) (e : H a = some o) : a < h.objs.size := (x a o e).lt
theorem HOk.fresh (x : HOk P w H h) (e : h.objs.size ≤ a) : H a = none := by
  cases q : H a with
  | none => rfl
  | some u => exact absurd (Nat.lt_of_lt_of_le (x.lt q) e) (Nat.lt_irrefl _)
theorem HOk.kept (x : HOk P w H h) (k : ∀ b u, h.get? b = some u → h'.get? b = some u) : HOk P w H h' := fun a o e =>
  (x a o e).stay (fun b u _ q => k b u q) (fun _ q => q) fun _ _ q => q
theorem HOk.laid (x : HOk P w H h) (k : ∀ b u, h.get? b = some u → h'.get? b = some u) (hp : h.objs.size ≤ a) (new : ObjOk P w (upd H a o) h' a o) : HOk P w (upd H a o) h' := fun b u e => by
  have hn := x.fresh hp
  by_cases hb : b = a
  · subst hb; rw [upd_same] at e; cases e; exact new
  · rw [upd_ne hb] at e
    exact (x b u e).stay (fun c v _ q => k c v q) (fun c q => by rw [upd_ne (ne_of_none q hn)]; exact q) fun c xs q => by rw [upd_ne (ne_of_none q hn)]; exact q
end
def Rd (H : Hp) (a : Addr) (u : HO) : Prop := H a = some u ∨ ∃ o, H a = some (.frz o u)
theorem Rd.of {H : Hp} {a : Addr} {u : HO} (h : H a = some u) : Rd H a u := .inl h
theorem Rd.ok {P : Program} {w : World} {H : Hp} {h : Heap} {a : Addr} {u : HO} (r : Rd H a u) (x : HOk P w H h) : ObjOk P w H h a u := by
  rcases r with r | ⟨o, r⟩
  · exact x a u r
  · obtain ⟨_, q⟩ := x a _ r
    exact q
def Mut : Option HO → Prop
  | some (.lst _) => True
  | some (.dK _) => True
  | some (.dT _) => True
  | some (.set _ _) => True
  | some (.ins _ _ _) => True
  | some (.ext _) => True
  | _ => False
section
variable {P : Program} {w : World} {H : Hp} {h h' : Heap} {x e : Addr} {o' : HO}
theorem HOk.write (ok : HOk P w H h) (mu : Mut (H x)) (he : e = x ∨ H e = some (.own x)) (k : ∀ b u, b ≠ e → h.get? b = some u → h'.get? b = some u) (heo : ∃ u, h'.get? e = some u)
    (new : ObjOk P w (upd H x o') h' x o') : HOk P w (upd H x o') h' := fun b u q => by
  have nown : ∀ c y, H c = some (.own y) → c ≠ x := fun c y r z => by subst z; rw [r] at mu; exact mu
  have ntup : ∀ c xs, H c = some (.tup xs) → c ≠ x := fun c xs r z => by subst z; rw [r] at mu; exact mu
  by_cases hb : b = x
  · subst hb; rw [upd_same] at q; cases q; exact new
  · rw [upd_ne hb] at q
    by_cases hbe : b = e
    · have q' : H b = some (.own x) := by
        rcases he with z | z
        · exact absurd (hbe.trans z) hb
        · rw [hbe]; exact z
      rw [q] at q'; cases q'
      obtain ⟨v, hv⟩ := heo
      exact ⟨v, by rw [hbe]; exact hv⟩
    · refine (ok b u q).stay (fun c v hc r => k c v ?_ r) (fun c r => by rw [upd_ne (nown c b r)]; exact r) fun c xs r => by rw [upd_ne (ntup c xs r)]; exact r
      rcases hc with rfl | hc
      · exact hbe
      · rintro rfl
        rcases he with z | z
        · exact nown c b hc z
        · rw [hc] at z; cases z; exact hb rfl
end
structure Un (fs ex : List Addr) (H H' : Hp) (h h' : Heap) : Prop where
  keep : ∀ b o, h.get? b = some o → H b = none → b ∉ fs → b ∉ ex → h'.get? b = some o
  slot : ∀ b o, h.get? b = some o → H b = none → b ∈ fs → b ∉ ex → ∃ sl, h'.get? b = some { o with slots := sl }
  free : ∀ b o, h.get? b = some o → H b = none → b ∉ ex → H' b = none
  there : ∀ b o, h.get? b = some o → b ∉ ex → ∃ o', h'.get? b = some o'
  tups : ∀ b xs, H b = some (.tup xs) → H' b = some (.tup xs)
  frzs : ∀ b o u, H b = some (.frz o u) → H' b = some (.frz o u)
  tbls : ∀ b ps, H b = some (.tbl ps) → ∃ more, H' b = some (.tbl (ps ++ more))
section
variable {fs fs' ex ex' : List Addr} {H H1 H2 : Hp} {h h1 h2 h' : Heap} {a x e : Addr} {o : HO}
theorem Un.any (u : Un fs ex H H1 h h1) {b : Addr} {ob : Obj} (q : h.get? b = some ob) (n : H b = none) (hx : b ∉ ex) : ∃ sl, h1.get? b = some { ob with slots := sl } := by
  by_cases hb : b ∈ fs
  · exact u.slot b ob q n hb hx
  · exact ⟨ob.slots, u.keep b ob q n hb hx⟩
theorem Un.trans (a : Un fs ex H H1 h h1) (b : Un fs ex H1 H2 h1 h2) : Un fs ex H H2 h h2 where
  keep := fun c ob q n hc hx => b.keep c ob (a.keep c ob q n hc hx) (a.free c ob q n hx) hc hx
  slot := fun c ob q n hc hx => by
    obtain ⟨sl, e1⟩ := a.slot c ob q n hc hx
    obtain ⟨sl', e2⟩ := b.slot c _ e1 (a.free c ob q n hx) hc hx
    exact ⟨sl', e2⟩
  free := fun c ob q n hx => by
    obtain ⟨o', e1⟩ := a.there c ob q hx
    exact b.free c o' e1 (a.free c ob q n hx) hx
  there := fun c ob q hx => by
    obtain ⟨o', e1⟩ := a.there c ob q hx
    exact b.there c o' e1 hx
  tups := fun c xs q => b.tups c xs (a.tups c xs q)
  frzs := fun c ob xs q => b.frzs c ob xs (a.frzs c ob xs q)
  tbls := fun c ps q => by
    obtain ⟨m1, e1⟩ := a.tbls c ps q
    obtain ⟨m2, e2⟩ := b.tbls c _ e1
    exact ⟨m1 ++ m2, by rw [e2, Array.append_assoc]⟩
theorem Un.kept (k : ∀ b u, h.get? b = some u → h'.get? b = some u) : Un fs ex H H h h' :=
  ⟨fun b ob q _ _ _ => k b ob q, fun b ob q _ _ _ => ⟨ob.slots, k b ob q⟩, fun _ _ _ n _ => n, fun b ob q _ => ⟨ob, k b ob q⟩, fun _ _ q => q, fun _ _ _ q => q, fun _ ps q => ⟨#[], by rw [q]; simp⟩⟩
theorem Un.refl : Un fs ex H H h h := Un.kept fun _ _ q => q
theorem Un.laid (k : ∀ b u, h.get? b = some u → h'.get? b = some u) (hp : h.objs.size ≤ a) (hn : H a = none) : Un fs ex H (upd H a o) h h' where
  keep := fun b u q _ _ _ => k b u q
  slot := fun b u q _ _ _ => ⟨u.slots, k b u q⟩
  free := fun b u q n _ => by rw [upd_ne (Nat.ne_of_lt (Nat.lt_of_lt_of_le (Heap.lt_size q) hp))]; exact n
  there := fun b u q _ => ⟨u, k b u q⟩
  tups := fun b xs q => by rw [upd_ne (ne_of_none q hn)]; exact q
  frzs := fun b u xs q => by rw [upd_ne (ne_of_none q hn)]; exact q
  tbls := fun b ps q => ⟨#[], by rw [upd_ne (ne_of_none q hn), q]; simp⟩
theorem Un.write (mu : Mut (H x)) (he : e = x ∨ H e = some (.own x)) (k : ∀ b u, b ≠ e → h.get? b = some u → h'.get? b = some u) (heo : ∃ u, h'.get? e = some u) : Un fs ex H (upd H x o) h h' := by
  have hx : ∀ b, H b = none → b ≠ x := fun b n z => by subst z; rw [n] at mu; exact mu
  have hb : ∀ b, H b = none → b ≠ e := fun b n z => by
    subst z
    rcases he with r | r
    · exact hx b n r
    · rw [n] at r; cases r
  have hm : ∀ b u, H b = some u → ¬ Mut (some u) → b ≠ x := fun b u q nm z => by subst z; rw [q] at mu; exact nm mu
  refine ⟨fun b u q n _ _ => k b u (hb b n) q, fun b u q n _ _ => ⟨u.slots, k b u (hb b n) q⟩, fun b u q n _ => by rw [upd_ne (hx b n)]; exact n, fun b u q _ => ?_,
    fun b xs q => by rw [upd_ne (hm b _ q fun z => z)]; exact q, fun b u xs q => by rw [upd_ne (hm b _ q fun z => z)]; exact q, fun b ps q => ⟨#[], by rw [upd_ne (hm b _ q fun z => z), q]; simp⟩⟩
  by_cases hbe : b = e
  · subst hbe; exact heo
  · exact ⟨u, k b u hbe q⟩
theorem Un.mono (u : Un fs ex H H1 h h1) (hs : ∀ b ∈ fs, b ∈ fs') (hx : ∀ b ∈ ex, b ∈ ex') : Un fs' ex' H H1 h h1 :=
  ⟨fun b ob q n hb he => u.keep b ob q n (fun z => hb (hs b z)) fun z => he (hx b z), fun _ _ q n _ he => u.any q n fun z => he (hx _ z), fun b ob q n he => u.free b ob q n fun z => he (hx b z), fun b ob q he => u.there b ob q fun z => he (hx b z), u.tups, u.frzs, u.tbls⟩
end
def trk (h : Heap) (H : Hp) : List Addr := (List.range h.objs.size).filter fun a => (H a).isSome
def hidT (h : Heap) (H : Hp) : Heap := PySem.W.hideAll h (trk h H)
theorem hidT_size (h : Heap) (H : Hp) : (hidT h H).objs.size = h.objs.size := PySem.W.hideAll_size _ _
theorem hidT_get {h : Heap} {H : Hp} {b : Addr} {o : Obj} (e : h.get? b = some o) (n : H b = none) : (hidT h H).get? b = some o :=
  PySem.W.hideAll_get _ e fun hm => by
    have q : (H b).isSome = true := (List.mem_filter.mp hm).2
    rw [n] at q; simp at q
theorem of_hidT {h : Heap} {H : Hp} {b : Addr} {o : Obj} (e : (hidT h H).get? b = some o) : h.get? b = some o ∧ H b = none := by
  have e' : h.get? b = some o := PySem.W.of_hideAll (trk h H) e
  refine ⟨e', ?_⟩
  cases q : H b with
  | none => rfl
  | some x =>
    have hm : b ∈ trk h H := List.mem_filter.mpr ⟨List.mem_range.mpr (Heap.lt_size e'), by simp [q]⟩
    have z : (hidT h H).get? b = none := PySem.W.hideAll_none (trk h H) hm
    rw [z] at e; cases e
def allNews (g h : Heap) (L : Addr) : List (Addr × Obj) := (List.range h.objs.size).filterMap fun a => if a = L ∨ (g.get? a).isSome = true then none else (h.get? a).map fun o => (a, o)
def rest (g h : Heap) (L d : Addr) : List (Addr × Obj) := (allNews g h L).filter fun p => decide (p.1 ≠ d)
end L2
namespace L2
open PySem PySem.Spec PyProof.Rows
structure Mod (K : PySem.W.Frag) (mg : Str → Option Value) (base : Heap) : Prop where
  kin : K.In base
  glob : base.Ns mainGlobals mg
  blt : ∃ mb, base.Ns builtinsNs mb ∧ ∀ x : Str, x ≠ "__name__" → mb x = bootBuiltins x
  nolimit : base.NoLimit
structure Cx where
  prog : Program
  w : World
  K : PySem.W.Frag
  mg : Str → Option Value
  base : Heap
  A : Around
  N : List Str
  s₀ : Shared
  H₀ : Hp
  env : Env
  outer : List Env
  stack : List Env
  ex : List Addr
  fn : Str → Bool
  calm : Bool
  pn : List (Addr × Obj)
  xe : Value → Shared → Prop
def frs (l : List Env) : List Addr := l.filterMap (·.frame)
abbrev Cx.fs (X : Cx) : List Addr := frs X.outer
def Vis (sc : Scope) (x : Str) : Prop := sc.names.lookup x = some .local ∨ sc.names.lookup x = some .cell ∨ sc.names.lookup x = some .free
def Loc (sc : Scope) (x : Str) : Prop := sc.names.lookup x = some .local ∨ sc.names.lookup x = some .cell
def Look (env : Env) (h : Heap) (m : Str → Option Value) (x : Str) (u : Value) : Prop :=
  (env.kindOf x = some .local ∧ m x = some u) ∨ ((env.kindOf x = some .cell ∨ env.kindOf x = some .free) ∧ ∃ c, env.cells.lookup x = some c ∧ h.IsCell c (some u))
structure Cx.Ok (X : Cx) : Prop where
  mod : Mod X.K X.mg X.base
  kind : X.env.scope.kind = .function
  glob : X.env.globals = mainGlobals
  blt : X.env.builtins = builtinsNs
  above : X.s₀.heap.objs.size ≤ X.env.locals
  inj : ∀ x y c, X.env.cells.lookup x = some c → X.env.cells.lookup y = some c → x = y
  has : ∀ x, (X.env.kindOf x = some .cell ∨ X.env.kindOf x = some .free) → ∃ c, X.env.cells.lookup x = some c
  cab : ∀ x c, X.fn x = true → X.env.cells.lookup x = some c → X.s₀.heap.objs.size ≤ c
  hd : X.calm = true → X.A.handled = none
  frames : X.A.frames = some X.stack
  stk : X.stack = X.outer ∨ (X.stack = X.env :: X.outer ∧ X.env.frame = some X.env.locals)
  exf : ∀ b ∈ X.ex, b ≠ X.env.locals ∧ ∀ x c, X.env.cells.lookup x = some c → c ≠ b
  bs : ∀ b o, X.base.get? b = some o → X.s₀.heap.get? b = some o ∧ X.H₀ b = none
  bsz : X.base.objs.size ≤ X.s₀.heap.objs.size
  noex : ∀ b o, X.base.get? b = some o → b ∉ X.ex
  exfs : ∀ b ∈ X.ex, b ∉ X.fs
  funs : X.s₀.heap.FunFrames X.base X.outer
  frf : ∀ b ∈ X.fs, X.H₀ b = none
structure Inv (X : Cx) (pins : List (Addr × Obj)) (σ : List (Option V)) (H : Hp) (s : Shared) : Prop where
  ok : X.Ok
  os : s.os = X.s₀.os
  bare : AllBare s.gens
  base : Un X.fs X.ex X.H₀ H X.s₀.heap s.heap
  loc : ∃ m, s.heap.Ns X.env.locals m ∧ ∀ (i : Nat) (x : Str) (v : V), X.N[i]? = some x → σ[i]? = some (some v) → Vis X.env.scope x → ∃ u, RelV v u ∧ Look X.env s.heap m x u
  cell : ∀ x c, X.env.cells.lookup x = some c → ∃ v, s.heap.IsCell c v
  free : H X.env.locals = none
  freeC : ∀ x c, X.env.cells.lookup x = some c → H c = none
  pin : ∀ p ∈ X.pn ++ pins, s.heap.get? p.1 = some p.2 ∧ H p.1 = none ∧ p.1 ≠ X.env.locals ∧ p.1 ∉ X.fs ∧ ∀ v, p.2.data ≠ .cell v
  hok : HOk X.prog X.w H s.heap
  len : σ.length = X.N.length
section
variable {X : Cx} {pins : List (Addr × Obj)} {σ : List (Option V)} {H H' : Hp} {s : Shared} {h' : Heap}
theorem Cx.Ok.nofr (ok : X.Ok) {b : Addr} {o : Obj} (e : X.base.get? b = some o) : b ∉ X.fs := fun hb => by
  have := (ok.funs.mem hb).1
  rw [e] at this; cases this
theorem Inv.bs (I : Inv X pins σ H s) : ∀ b o, X.base.get? b = some o → s.heap.get? b = some o ∧ H b = none := fun b o e =>
  ⟨I.base.keep b o (I.ok.bs b o e).1 (I.ok.bs b o e).2 (I.ok.nofr e) (I.ok.noex b o e), I.base.free b o (I.ok.bs b o e).1 (I.ok.bs b o e).2 (I.ok.noex b o e)⟩
theorem Inv.bk (I : Inv X pins σ H s) : ∀ b o, X.base.get? b = some o → s.heap.get? b = some o := fun b o e => (I.bs b o e).1
theorem Inv.mod (I : Inv X pins σ H s) : Mod X.K X.mg X.base := I.ok.mod
theorem Inv.kIn (I : Inv X pins σ H s) : X.K.In s.heap := I.ok.mod.kin.keeps I.bk
theorem Inv.nolimit (I : Inv X pins σ H s) : s.heap.NoLimit := I.ok.mod.nolimit.keeps I.bk
theorem Inv.lt (I : Inv X pins σ H s) : X.env.locals < s.heap.objs.size := let ⟨_, hn, _⟩ := I.loc; hn.lt
theorem Inv.sz (I : Inv X pins σ H s) : X.s₀.heap.objs.size ≤ s.heap.objs.size := Nat.le_trans I.ok.above (Nat.le_of_lt I.lt)
theorem Inv.nofs (I : Inv X pins σ H s) {a : Addr} (h : s.heap.objs.size ≤ a) : a ∉ X.fs := fun hb => by
  obtain ⟨_, o, ho, _⟩ := I.ok.funs.mem hb
  exact absurd (Nat.lt_of_lt_of_le (Heap.lt_size ho) (Nat.le_trans I.sz h)) (Nat.lt_irrefl _)
theorem Inv.cne (I : Inv X pins σ H s) : ∀ x c, X.env.cells.lookup x = some c → c ≠ X.env.locals := fun x c e z => by
  obtain ⟨v, o, ho, hd⟩ := I.cell x c e
  obtain ⟨m, ⟨o', es, ep, ho', hd', _⟩, _⟩ := I.loc
  rw [z, ho'] at ho; cases ho; rw [hd'] at hd; cases hd
theorem Inv.funs (I : Inv X pins σ H s) : s.heap.FunFrames X.base X.outer := by
  have all : ∀ (l : List Env), (∀ b ∈ frs l, b ∈ X.fs) → X.s₀.heap.FunFrames X.base l → s.heap.FunFrames X.base l := by
    intro l
    induction l with
    | nil => intro _ _; trivial
    | cons env r ih =>
      intro hs hl
      obtain ⟨hk, ⟨L, o, hf, hn, ho, hd⟩, hr⟩ := hl
      have hL : L ∈ X.fs := hs L (by unfold frs; rw [List.filterMap_cons, hf]; exact List.mem_cons_self)
      obtain ⟨sl, e⟩ := I.base.slot L o ho (I.ok.frf L hL) hL fun z => I.ok.exfs L z hL
      exact ⟨hk, ⟨L, _, hf, hn, e, hd⟩, ih (fun b hb => hs b (by unfold frs; rw [List.filterMap_cons, hf]; exact List.mem_cons_of_mem _ hb)) hr⟩
  exact all X.outer (fun _ hb => hb) I.ok.funs
theorem Inv.stack (I : Inv X pins σ H s) : s.heap.FunFrames X.base X.stack := by
  rcases I.ok.stk with e | ⟨e, hf⟩
  · rw [e]; exact I.funs
  · rw [e]
    obtain ⟨m, hn, _⟩ := I.loc
    refine .cons (by rw [I.ok.kind]; decide) hf hn ?_ I.funs
    exact Heap.get?_none_of_le (Nat.le_trans I.ok.bsz I.ok.above)
theorem Inv.stkSub (I : Inv X pins σ H s) : ∀ b ∈ frs X.stack, b ∈ X.env.locals :: X.fs := fun b hb => by
  rcases I.ok.stk with e | ⟨e, hf⟩
  · rw [e] at hb; exact List.mem_cons_of_mem _ hb
  · rw [e] at hb
    unfold frs at hb
    rw [List.filterMap_cons, hf] at hb
    exact hb
theorem Inv.stkFree (I : Inv X pins σ H s) : ∀ b ∈ frs X.stack, H b = none := fun b hb => by
  rcases List.mem_cons.mp (I.stkSub b hb) with e | hb
  · rw [e]; exact I.free
  · obtain ⟨_, o, ho, _⟩ := I.ok.funs.mem hb
    exact I.base.free b o ho (I.ok.frf b hb) fun z => I.ok.exfs b z hb
theorem Inv.step {g' : Array GenState} {t' : Nat} {d' : Drawn} {ch : List Addr} (I : Inv X pins σ H s)
    (hch : ∀ b ∈ ch, (b ∈ X.ex ∨ X.s₀.heap.objs.size ≤ b) ∧ b ≠ X.env.locals ∧ (∀ x c, X.env.cells.lookup x = some c → c ≠ b) ∧ ∀ p ∈ X.pn ++ pins, p.1 ≠ b)
    (keep : ∀ b o, b ≠ X.env.locals → b ∉ X.fs → b ∉ ch → s.heap.get? b = some o → H b = none → h'.get? b = some o)
    (slot : ∀ b o, b ≠ X.env.locals → b ∈ X.fs → b ∉ ch → s.heap.get? b = some o → H b = none → ∃ sl, h'.get? b = some { o with slots := sl }) (free : ∀ b o, b ∉ ch → s.heap.get? b = some o → H b = none → H' b = none)
    (there : ∀ b o, b ∉ ch → s.heap.get? b = some o → ∃ o', h'.get? b = some o')
    (tups : ∀ b xs, H b = some (.tup xs) → H' b = some (.tup xs)) (frzs : ∀ b o u, H b = some (.frz o u) → H' b = some (.frz o u)) (tbls : ∀ b ps, H b = some (.tbl ps) → ∃ more, H' b = some (.tbl (ps ++ more)))
    (ns : ∀ m, s.heap.Ns X.env.locals m → h'.Ns X.env.locals m) (hok : HOk X.prog X.w H' h') (hg : AllBare g') :
    Inv X pins σ H' { s with heap := h', gens := g', drawn := d', toks := t' } := by
  have neL : ∀ b o, X.s₀.heap.get? b = some o → b ≠ X.env.locals := fun b o e => Nat.ne_of_lt (Nat.lt_of_lt_of_le (Heap.lt_size e) I.ok.above)
  have neC : ∀ b o, X.s₀.heap.get? b = some o → b ∉ X.ex → b ∉ ch := fun b o e hx hb => by
    rcases (hch b hb).1 with z | z
    · exact hx z
    · exact absurd (Nat.lt_of_lt_of_le (Heap.lt_size e) z) (Nat.lt_irrefl _)
  have cellK : ∀ x c, X.env.cells.lookup x = some c → ∀ v, s.heap.IsCell c v → h'.IsCell c v := fun x c e v ⟨o, ho, hd⟩ => by
    have nch : c ∉ ch := fun z => (hch c z).2.2.1 x c e rfl
    by_cases hc : c ∈ X.fs
    · obtain ⟨sl, q⟩ := slot c o (I.cne x c e) hc nch ho (I.freeC x c e)
      exact ⟨_, q, hd⟩
    · exact ⟨o, keep c o (I.cne x c e) hc nch ho (I.freeC x c e), hd⟩
  refine ⟨I.ok, I.os, hg, ⟨fun b o e n hb hx => ?_, fun b o e n hb hx => ?_, fun b o e n hx => ?_, fun b o e hx => ?_, fun b xs e => tups b xs (I.base.tups b xs e), fun b o xs e => frzs b o xs (I.base.frzs b o xs e), fun b ps e => ?_⟩, ?_, fun x c e => ?_, ?_, fun x c e => ?_, fun p hp => ?_, hok, I.len⟩
  · exact keep b o (neL b o e) hb (neC b o e hx) (I.base.keep b o e n hb hx) (I.base.free b o e n hx)
  · obtain ⟨sl, e1⟩ := I.base.slot b o e n hb hx
    obtain ⟨sl', e2⟩ := slot b _ (neL b o e) hb (neC b o e hx) e1 (I.base.free b o e n hx)
    exact ⟨sl', e2⟩
  · obtain ⟨o', e1⟩ := I.base.there b o e hx
    exact free b o' (neC b o e hx) e1 (I.base.free b o e n hx)
  · obtain ⟨o', e1⟩ := I.base.there b o e hx
    exact there b o' (neC b o e hx) e1
  · obtain ⟨m1, e1⟩ := I.base.tbls b ps e
    obtain ⟨m2, e2⟩ := tbls b _ e1
    exact ⟨m1 ++ m2, by rw [e2, Array.append_assoc]⟩
  · obtain ⟨m, hn, hl⟩ := I.loc
    refine ⟨m, ns m hn, fun i x v e1 e2 e3 => ?_⟩
    obtain ⟨u, r, l⟩ := hl i x v e1 e2 e3
    refine ⟨u, r, ?_⟩
    rcases l with l | ⟨k, c, e, z⟩
    · exact .inl l
    · exact .inr ⟨k, c, e, cellK x c e _ z⟩
  · obtain ⟨v, z⟩ := I.cell x c e
    exact ⟨v, cellK x c e v z⟩
  · obtain ⟨m, ⟨o, _, _, ho, _⟩, _⟩ := I.loc
    exact free _ o (fun z => (hch _ z).2.1 rfl) ho I.free
  · obtain ⟨v, o, ho, hd⟩ := I.cell x c e
    exact free c o (fun z => (hch c z).2.2.1 x c e rfl) ho (I.freeC x c e)
  · obtain ⟨e, n, ne, nf, d⟩ := I.pin p hp
    have nch : p.1 ∉ ch := fun z => (hch p.1 z).2.2.2 p hp rfl
    exact ⟨keep p.1 p.2 ne nf nch e n, free p.1 p.2 nch e n, ne, nf, d⟩
theorem Inv.un {t' : Nat} (I : Inv X pins σ H s) (u : Un X.fs [] H H' s.heap h') (hok : HOk X.prog X.w H' h') : Inv X pins σ H' { s with heap := h', toks := t' } := by
  obtain ⟨m, ⟨o, es, ep, ho, r⟩, _⟩ := id I.loc
  obtain ⟨sl, hL⟩ := u.any ho I.free (by simp)
  exact I.step (g' := s.gens) (d' := s.drawn) (ch := []) (fun _ z => nomatch z) (fun b o _ hb _ e n => u.keep b o e n hb (by simp)) (fun b o _ hb _ e n => u.slot b o e n hb (by simp)) (fun b o _ e n => u.free b o e n (by simp)) (fun b o _ e => u.there b o e (by simp)) u.tups u.frzs u.tbls (fun m' hm => by
    obtain ⟨o', es', ep', ho', r'⟩ := hm
    rw [ho] at ho'; cases ho'
    exact ⟨_, es', ep', hL, r'⟩) hok I.bare
theorem Inv.call {g' : Array GenState} {t' : Nat} {d' : Drawn} {ch : List Addr} (I : Inv X pins σ H s) (u : Un (frs X.stack) ch H H' s.heap h') (hok : HOk X.prog X.w H' h') (hg : AllBare g')
    (hch : ∀ b ∈ ch, (b ∈ X.ex ∨ X.s₀.heap.objs.size ≤ b) ∧ b ≠ X.env.locals ∧ (∀ x c, X.env.cells.lookup x = some c → c ≠ b) ∧ ∀ p ∈ X.pn ++ pins, p.1 ≠ b) :
    Inv X pins σ H' { s with heap := h', gens := g', drawn := d', toks := t' } := by
  obtain ⟨m, ⟨o, es, ep, ho, r⟩, _⟩ := id I.loc
  obtain ⟨sl, hL⟩ := u.any ho I.free fun z => (hch _ z).2.1 rfl
  exact I.step (ch := ch) hch (fun b o hL hb hc e n => u.keep b o e n (fun z => (List.mem_cons.mp (I.stkSub b z)).elim hL hb) hc) (fun b o _ _ hc e n => u.any e n hc) (fun b o hc e n => u.free b o e n hc) (fun b o hc e => u.there b o e hc) u.tups u.frzs u.tbls (fun m' hm => by
    obtain ⟨o', es', ep', ho', r'⟩ := hm
    rw [ho] at ho'; cases ho'
    exact ⟨_, es', ep', hL, r'⟩) hok hg
theorem Inv.turned {t' : Nat} {it : Addr} (I : Inv X pins σ H s) (k : ∀ b o, b ≠ it → s.heap.get? b = some o → h'.get? b = some o) (hn : H it = none) (hL : it ≠ X.env.locals)
    (h1 : it ∈ X.ex ∨ X.s₀.heap.objs.size ≤ it) (h2 : ∀ x c, X.env.cells.lookup x = some c → c ≠ it) (h3 : ∀ p ∈ X.pn ++ pins, p.1 ≠ it) : Inv X pins σ H { s with heap := h', toks := t' } := by
  have nit : ∀ b u, H b = some u → b ≠ it := fun b u e z => by rw [z, hn] at e; cases e
  refine I.step (g' := s.gens) (d' := s.drawn) (ch := [it]) (fun b hb => ?_) (fun b o _ _ hc e _ => k b o (fun z => hc (by simp [z])) e) (fun b o _ _ hc e _ => ⟨o.slots, k b o (fun z => hc (by simp [z])) e⟩) (fun _ _ _ _ n => n)
    (fun b o hc e => ⟨o, k b o (fun z => hc (by simp [z])) e⟩) (fun _ _ e => e) (fun _ _ _ e => e) (fun b ps e => ⟨#[], by rw [e]; simp⟩) (fun m hm => ?_) (fun b u e => ?_) I.bare
  · have e : b = it := by simpa using hb
    subst e
    exact ⟨h1, hL, h2, h3⟩
  · obtain ⟨o, es, ep, ho, r⟩ := hm
    exact ⟨o, es, ep, k _ o (Ne.symm hL) ho, r⟩
  · refine (I.hok b u e).stay (fun c v hc q => k c v ?_ q) (fun _ q => q) fun _ _ q => q
    rcases hc with z | z
    · rw [z]; exact nit b u e
    · exact nit c _ z
theorem Inv.tok (I : Inv X pins σ H s) (t : Nat) : Inv X pins σ H { s with toks := t } := I.un (h' := s.heap) (t' := t) Un.refl I.hok
theorem Inv.kept {t' : Nat} (I : Inv X pins σ H s) (k : ∀ b u, s.heap.get? b = some u → h'.get? b = some u) : Inv X pins σ H { s with heap := h', toks := t' } := I.un (Un.kept k) (I.hok.kept k)
theorem Inv.laid {a : Addr} {o : HO} {t' : Nat} (I : Inv X pins σ H s) (k : ∀ b u, s.heap.get? b = some u → h'.get? b = some u) (hp : s.heap.objs.size ≤ a) (new : ObjOk X.prog X.w (upd H a o) h' a o) :
    Inv X pins σ (upd H a o) { s with heap := h', toks := t' } := I.un (Un.laid k hp (I.hok.fresh hp)) (I.hok.laid k hp new)
theorem Inv.write {x e : Addr} {o : HO} {t' : Nat} (I : Inv X pins σ H s) (mu : Mut (H x)) (he : e = x ∨ H e = some (.own x)) (k : ∀ b u, b ≠ e → s.heap.get? b = some u → h'.get? b = some u) (heo : ∃ u, h'.get? e = some u)
    (new : ObjOk X.prog X.w (upd H x o) h' x o) : Inv X pins σ (upd H x o) { s with heap := h', toks := t' } := I.un (Un.write mu he k heo) (I.hok.write mu he k heo new)
theorem Inv.pins_of {pins' : List (Addr × Obj)} (I : Inv X pins σ H s) (h : ∀ p ∈ pins', s.heap.get? p.1 = some p.2 ∧ H p.1 = none ∧ p.1 ≠ X.env.locals ∧ p.1 ∉ X.fs ∧ ∀ v, p.2.data ≠ .cell v) : Inv X pins' σ H s :=
  ⟨I.ok, I.os, I.bare, I.base, I.loc, I.cell, I.free, I.freeC, fun p hp => (List.mem_append.mp hp).elim (fun z => I.pin p (List.mem_append_left _ z)) (h p), I.hok, I.len⟩
theorem nodup_ix {N : List Str} (hN : N.Nodup) {i j : Nat} {x : Str} (a : N[i]? = some x) (b : N[j]? = some x) : i = j := by
  obtain ⟨h1, e1⟩ := List.getElem?_eq_some_iff.mp a
  obtain ⟨h2, e2⟩ := List.getElem?_eq_some_iff.mp b
  exact (List.getElem_inj hN).mp (e1.trans e2.symm)
theorem store_ok2 {M : Model} {A : Around} {E : Value → Shared → Prop} {i : Nat} {x : Str} {v : V} {u : Value} {Q : Unit → Shared → Prop} (I : Inv X pins σ H s) (hN : X.N.Nodup) (hi : X.N[i]? = some x) (hx : Loc X.env.scope x) (r : RelV v u)
    (h : ∀ s', Inv X pins (σ.set i (some v)) H s' → (∃ a, Heap.SameBut a s.heap s'.heap ∧ (a = X.env.locals ∨ X.env.cells.lookup x = some a)) → Q () s') (hf : X.fn x = true ∨ X.env.scope.names.lookup x = some .local := by first | exact .inl rfl | exact .inr rfl | assumption) : wpAny M A (storeName X.env x u) Q E s := by
  obtain ⟨m, hn, hl⟩ := id I.loc
  have hcls : (X.env.scope.kind == .class || (X.env.scope.kind == .module && X.env.locals != X.env.globals)) = false := by rw [I.ok.kind]; rfl
  have hiσ : i < σ.length := by rw [I.len]; exact (List.getElem?_eq_some_iff.mp hi).1
  have cne := I.cne
  have tracked : ∀ {a : Addr} {h' : Heap}, (∃ o, s.heap.get? a = some o ∧ H a = none) → Heap.SameBut a s.heap h' → HOk X.prog X.w H h' := fun {a h'} ha hs b ob e => by
    obtain ⟨_, _, hfree⟩ := ha
    refine (I.hok b ob e).stay (fun c w' hc q => (hs.2 c ?_).trans q) (fun _ q => q) fun _ _ q => q
    rintro rfl
    rcases hc with rfl | hc
    · rw [hfree] at e; cases e
    · rw [hfree] at hc; cases hc
  rcases hx with hk | hk
  · refine wpAny_storeName_local hk hn (fun h' hn' hs => ?_) hcls
    obtain ⟨oL, _, _, hoL, _⟩ := id hn
    refine h _ ⟨I.ok, I.os, I.bare, ⟨fun b o e n hb hx => ?_, fun b o e n hb hx => ?_, I.base.free, fun b o e hx => ?_, I.base.tups, I.base.frzs, I.base.tbls⟩, ⟨_, hn', fun j y v' e1 e2 e3 => ?_⟩, fun y c e => ?_, I.free, I.freeC, fun p hp => ?_, tracked ⟨oL, hoL, I.free⟩ hs, by simpa using I.len⟩ ⟨_, hs, .inl rfl⟩
    · exact (hs.2 b (Nat.ne_of_lt (Nat.lt_of_lt_of_le (Heap.lt_size e) I.ok.above))).trans (I.base.keep b o e n hb hx)
    · obtain ⟨sl, e1⟩ := I.base.slot b o e n hb hx
      exact ⟨sl, (hs.2 b (Nat.ne_of_lt (Nat.lt_of_lt_of_le (Heap.lt_size e) I.ok.above))).trans e1⟩
    · obtain ⟨o', e1⟩ := I.base.there b o e hx
      exact ⟨o', (hs.2 b (Nat.ne_of_lt (Nat.lt_of_lt_of_le (Heap.lt_size e) I.ok.above))).trans e1⟩
    · by_cases hj : j = i
      · subst hj
        rw [hi] at e1; cases e1
        rw [List.getElem?_set_self hiσ] at e2
        cases e2
        exact ⟨u, r, .inl ⟨hk, by simp⟩⟩
      · rw [List.getElem?_set_ne (Ne.symm hj)] at e2
        obtain ⟨u', r', q⟩ := hl j y v' e1 e2 e3
        refine ⟨u', r', ?_⟩
        rcases q with ⟨k, e⟩ | ⟨k, c, e, z⟩
        · refine .inl ⟨k, ?_⟩
          have : y ≠ x := fun e => hj (nodup_ix hN e1 (e ▸ hi))
          simp [this, e]
        · exact .inr ⟨k, c, e, z.sameBut hs (cne y c e)⟩
    · obtain ⟨w', z⟩ := I.cell y c e
      exact ⟨w', z.sameBut hs (cne y c e)⟩
    · obtain ⟨e, n, ne, nf, d⟩ := I.pin p hp
      exact ⟨(hs.2 p.1 ne).trans e, n, ne, nf, d⟩
  · have hfn : X.fn x = true := by
      rcases hf with z | z
      · exact z
      · rw [z] at hk; cases hk
    obtain ⟨c, hc⟩ := I.ok.has x (.inl hk)
    obtain ⟨w', z⟩ := I.cell x c hc
    refine wpAny_storeName_cell I.ok.kind hk hc z (fun h' hc' hs => ?_)
    obtain ⟨oc, hoc, hocd⟩ := id z
    refine h { s with heap := h' } ⟨I.ok, I.os, I.bare, ⟨fun b o e n hb hx => ?_, fun b o e n hb hx => ?_, I.base.free, fun b o e hx => ?_, I.base.tups, I.base.frzs, I.base.tbls⟩, ⟨m, hn.sameBut hs (Ne.symm (cne x c hc)), fun j y v' e1 e2 e3 => ?_⟩, fun y c' e => ?_, I.free, I.freeC, fun p hp => ?_, tracked ⟨oc, hoc, I.freeC x c hc⟩ hs, by simpa using I.len⟩ ⟨c, hs, .inr hc⟩
    · exact (hs.2 b (Nat.ne_of_lt (Nat.lt_of_lt_of_le (Heap.lt_size e) (I.ok.cab x c hfn hc)))).trans (I.base.keep b o e n hb hx)
    · obtain ⟨sl, e1⟩ := I.base.slot b o e n hb hx
      exact ⟨sl, (hs.2 b (Nat.ne_of_lt (Nat.lt_of_lt_of_le (Heap.lt_size e) (I.ok.cab x c hfn hc)))).trans e1⟩
    · obtain ⟨o', e1⟩ := I.base.there b o e hx
      exact ⟨o', (hs.2 b (Nat.ne_of_lt (Nat.lt_of_lt_of_le (Heap.lt_size e) (I.ok.cab x c hfn hc)))).trans e1⟩
    · by_cases hj : j = i
      · subst hj
        rw [hi] at e1; cases e1
        rw [List.getElem?_set_self hiσ] at e2
        cases e2
        exact ⟨u, r, .inr ⟨.inl hk, c, hc, hc'⟩⟩
      · rw [List.getElem?_set_ne (Ne.symm hj)] at e2
        obtain ⟨u', r', q⟩ := hl j y v' e1 e2 e3
        refine ⟨u', r', ?_⟩
        rcases q with q | ⟨k, c', e, z'⟩
        · exact .inl q
        · refine .inr ⟨k, c', e, z'.sameBut hs ?_⟩
          rintro rfl
          exact hj (nodup_ix hN e1 (I.ok.inj _ _ _ e hc ▸ hi))
    · by_cases hcc : c' = c
      · subst hcc; exact ⟨_, hc'⟩
      · obtain ⟨w2, z2⟩ := I.cell y c' e
        exact ⟨w2, z2.sameBut hs hcc⟩
    · obtain ⟨e, n, ne, nf, d⟩ := I.pin p hp
      refine ⟨(hs.2 p.1 ?_).trans e, n, ne, nf, d⟩
      intro q
      rw [q, hoc] at e
      have q' : oc = p.2 := Option.some.inj e
      exact d w' (by rw [← q']; exact hocd)
theorem store_ok {M : Model} {A : Around} {E : Value → Shared → Prop} {i : Nat} {x : Str} {v : V} {u : Value} {Q : Unit → Shared → Prop} (I : Inv X pins σ H s) (hN : X.N.Nodup) (hi : X.N[i]? = some x) (hx : Loc X.env.scope x) (r : RelV v u)
    (h : ∀ s', Inv X pins (σ.set i (some v)) H s' → Q () s') (hf : X.fn x = true ∨ X.env.scope.names.lookup x = some .local := by first | exact .inl rfl | exact .inr rfl | assumption) : wpAny M A (storeName X.env x u) Q E s :=
  store_ok2 I hN hi hx r (fun s' I' _ => h s' I') hf
theorem Inv.call' {s' : Shared} {ch : List Addr} (I : Inv X pins σ H s) (ho : s'.os = s.os) (u : Un (frs X.stack) ch H H' s.heap s'.heap) (hok : HOk X.prog X.w H' s'.heap) (hg : AllBare s'.gens)
    (hch : ∀ b ∈ ch, (b ∈ X.ex ∨ X.s₀.heap.objs.size ≤ b) ∧ b ≠ X.env.locals ∧ (∀ x c, X.env.cells.lookup x = some c → c ≠ b) ∧ ∀ p ∈ X.pn ++ pins, p.1 ≠ b) : Inv X pins σ H' s' := by
  obtain ⟨h', g', d', t', o'⟩ := s'
  have e : o' = s.os := ho
  subst e
  exact I.call (g' := g') (t' := t') (d' := d') u hok hg hch
end
abbrev XK := Value → Option Addr → Hp → Prop
abbrev St := List (Option V)
abbrev VK := V → Hp → Prop
abbrev TE := St → Hp → VK → Prop
abbrev TT := St → Hp → (Bool → Hp → Prop) → Prop
abbrev TA := St → Hp → (List V → Hp → Prop) → Prop
structure Ends where
  nx : St → Hp → Prop
  rt : VK
  bk : St → Hp → Prop := fun _ _ => False
  ct : St → Hp → Prop := fun _ _ => False
abbrev TS := Ends → St → Hp → Prop
def EP (X : Cx) (pins : List (Addr × Obj)) (σ : St) (Q : VK) (u : Value) (s' : Shared) : Prop := ∃ v H', Inv X pins σ H' s' ∧ RelV v u ∧ Q v H'
def TP (X : Cx) (pins : List (Addr × Obj)) (σ : St) (Q : Bool → Hp → Prop) (b : Bool) (s' : Shared) : Prop := ∃ H', Inv X pins σ H' s' ∧ Q b H'
def AP (X : Cx) (pins : List (Addr × Obj)) (σ : St) (Q : List V → Hp → Prop) (us : List Value) (s' : Shared) : Prop := ∃ vs H', Inv X pins σ H' s' ∧ Vals vs us ∧ Q vs H'
def SP (X : Cx) (pins : List (Addr × Obj)) (D : Ends) (f : Flow) (s' : Shared) : Prop :=
  match f with
  | .next => ∃ σ' H', Inv X pins σ' H' s' ∧ D.nx σ' H'
  | .brk => ∃ σ' H', Inv X pins σ' H' s' ∧ D.bk σ' H'
  | .cont => ∃ σ' H', Inv X pins σ' H' s' ∧ D.ct σ' H'
  | .ret u => ∃ v σ' H', Inv X pins σ' H' s' ∧ RelV v u ∧ D.rt v H'
def PE (X : Cx) (e : Expr) (t : TE) : Prop :=
  ∀ (pins : List (Addr × Obj)) (s : Shared) (σ : St) (H : Hp) (Q : VK), Inv X pins σ H s → t σ H Q → wpAny (model X.prog X.w) X.A (eval e X.env) (EP X pins σ Q) X.xe s
def PT (X : Cx) (e : Expr) (t : TT) : Prop :=
  ∀ (pins : List (Addr × Obj)) (s : Shared) (σ : St) (H : Hp) (Q : Bool → Hp → Prop), Inv X pins σ H s → t σ H Q → wpAny (model X.prog X.w) X.A (isTrue e X.env (eval e X.env)) (TP X pins σ Q) X.xe s
def PW (X : Cx) (e : Expr) (t : TT) : Prop :=
  ∀ (whole : Sem Value) (pins : List (Addr × Obj)) (s : Shared) (σ : St) (H : Hp) (Q : Bool → Hp → Prop), Inv X pins σ H s → t σ H Q → wpAny (model X.prog X.w) X.A (isTrue e X.env whole) (TP X pins σ Q) X.xe s
theorem PW.pt {X : Cx} {e : Expr} {t : TT} (h : PW X e t) : PT X e t := h _
def PA (X : Cx) (es : List Expr) (t : TA) : Prop :=
  ∀ (pos : Pos) (pins : List (Addr × Obj)) (s : Shared) (σ : St) (H : Hp) (Q : List V → Hp → Prop), Inv X pins σ H s → t σ H Q → wpAny (model X.prog X.w) X.A (spliced (backTo pos (starEach es X.env))) (AP X pins σ Q) X.xe s
def PS (X : Cx) (st : Stmt) (t : TS) : Prop :=
  ∀ (pins : List (Addr × Obj)) (s : Shared) (σ : St) (H : Hp) (D : Ends), Inv X pins σ H s → t D σ H → wpAny (model X.prog X.w) X.A (exec st X.env) (SP X pins D) X.xe s
def PSs (X : Cx) (st : List Stmt) (t : TS) : Prop :=
  ∀ (pins : List (Addr × Obj)) (s : Shared) (σ : St) (H : Hp) (D : Ends), Inv X pins σ H s → t D σ H → wpAny (model X.prog X.w) X.A (execs st X.env) (SP X pins D) X.xe s
theorem thn {α : Type} {t : Sem α} {Q Q' : α → Shared → Prop} {M : Model} {A : Around} {E : Value → Shared → Prop} {s : Shared} (h : wpAny M A t Q E s) (hQ : ∀ a s, Q a s → Q' a s) : wpAny M A t Q' E s := wpAny_mono h hQ fun _ _ x => x
end L2
namespace L2
open PySem PySem.Spec PyProof.Rows
section
variable {X : Cx}
def tVar (i : Nat) : TE := fun σ H Q => ∃ v, σ[i]? = some (some v) ∧ Q v H
def tC (v : V) : TE := fun _ H Q => Q v H
theorem pe_var {i : Nat} {x : Str} {pos : Pos} (hN : X.N[i]? = some x) (hv : Vis X.env.scope x) (hd : (x == ("__debug__" : Str)) = false := by decide) (hcd : (x == ("__classdict__" : Str)) = false := by decide) : PE X (.Name x pos) (tVar i) := by
  intro pins s σ H Q I h
  obtain ⟨v, e, h⟩ := h
  obtain ⟨m, hn, hl⟩ := I.loc
  obtain ⟨u, r, l⟩ := hl i x v hN e hv
  have fin : EP X pins σ Q u s := ⟨v, H, I, r, h⟩
  rcases l with ⟨hk, hm⟩ | ⟨hk, c, hc, hcell⟩
  · exact wpAny_Name (wpAny_loadName_local I.ok.kind hk hn hm fin) hd
  · rcases hk with hk | hk
    · exact wpAny_Name (wpAny_loadName_cell I.ok.kind hk hc hcell fin) hd
    · exact wpAny_Name (wpAny_loadName_free I.ok.kind hk hc hcell fin hcd) hd
theorem pe_int {i j pos} : PE X (.Constant (.int i) j pos) (tC (.int i)) := fun _ _ _ H _ I h => wpAny_Constant_int ⟨.int i, H, I.tok _, ⟨_, rfl⟩, h⟩
theorem pe_bl {b j pos} : PE X (.Constant (.bool b) j pos) (tC (.bl b)) := fun _ _ _ H _ I h => Constant_bool ⟨.bl b, H, I, rfl, h⟩
theorem pe_non {j pos} : PE X (.Constant .none j pos) (tC .non) := fun _ _ _ H _ I h => Constant_none ⟨.non, H, I, rfl, h⟩
theorem pe_str {x j pos} : PE X (.Constant (.str x) j pos) (tC (.str x)) := fun _ _ _ H _ I h => Calls.Constant_str ⟨.str x, H, I.tok _, ⟨_, rfl⟩, h⟩
def Gl (X : Cx) (x : Str) : Prop := X.env.kindOf x = some .globalImplicit
theorem ld_glob {E : Value → Shared → Prop} {pins : List (Addr × Obj)} {s : Shared} {σ : St} {H : Hp} {x : Str} {u : Value} {pos : Pos} {Q : Value → Shared → Prop} (I : Inv X pins σ H s) (hg : Gl X x) (hm : X.mg x = some u) (h : Q u s)
    (hd : (x == ("__debug__" : Str)) = false := by decide) : wpAny (model X.prog X.w) X.A (eval (.Name x pos) X.env) Q E s :=
  Calls.Name_function_global I.ok.kind hg (Calls.loadGlobal_global (by rw [I.ok.glob]; exact I.mod.glob.keeps I.bk) hm h) hd
theorem ld_blt {E : Value → Shared → Prop} {pins : List (Addr × Obj)} {s : Shared} {σ : St} {H : Hp} {x : Str} {u : Value} {pos : Pos} {Q : Value → Shared → Prop} (I : Inv X pins σ H s) (hg : Gl X x) (hm : X.mg x = none) (hv : bootBuiltins x = some u) (h : Q u s)
    (hn : x ≠ "__name__" := by decide) (hd : (x == ("__debug__" : Str)) = false := by decide) : wpAny (model X.prog X.w) X.A (eval (.Name x pos) X.env) Q E s := by
  obtain ⟨mb, h1, h2⟩ := I.mod.blt
  exact Calls.Name_function_global I.ok.kind hg (Calls.loadGlobal_builtin (by rw [I.ok.glob]; exact I.mod.glob.keeps I.bk) hm (by rw [I.ok.blt]; exact h1.keeps I.bk) ((h2 x hn).trans hv) h) hd
theorem pe_glob {x : Str} {v : V} {u : Value} {pos : Pos} (hg : Gl X x) (hm : X.mg x = some u) (r : RelV v u) (hd : (x == ("__debug__" : Str)) = false := by decide) : PE X (.Name x pos) (tC v) :=
  fun _ _ _ H _ I h => ld_glob I hg hm ⟨v, H, I, r, h⟩ hd
theorem pe_bltn {x : Str} {v : V} {u : Value} {pos : Pos} (hg : Gl X x) (hm : X.mg x = none) (hv : bootBuiltins x = some u) (r : RelV v u) (hn : x ≠ "__name__" := by decide) (hd : (x == ("__debug__" : Str)) = false := by decide) : PE X (.Name x pos) (tC v) :=
  fun _ _ _ H _ I h => ld_blt I hg hm hv ⟨v, H, I, r, h⟩ hn hd
variable {a b : Expr} {ta tb : TE} {pos : Pos}
def tB (t : TE) : TT := fun σ H Q => t σ H fun x H1 => ∃ c, x = .bl c ∧ Q c H1
theorem pt_val {e : Expr} {t : TE} (h : PE X e t) (he : ∀ whole, isTrue e X.env whole = (do let v ← whole; standAt e.pos; holding [v] (truthy v)) := by intro _; rfl) : PT X e (tB t) := by
  intro pins s σ H Q I hw
  refine isTrue_plain (thn (h pins s σ H _ I hw) fun v s1 ⟨x, H1, I1, r1, q1⟩ => ?_) (he _)
  obtain ⟨d, rfl, q⟩ := q1
  cases r1
  exact wpAny_truthy_bool ⟨H1, I1, q⟩
variable {tA tB' : TT} {rest : List Expr}
def tAnd (t u : TT) : TT := fun σ H Q => t σ H fun c H1 => if c = true then u σ H1 Q else Q false H1
def tOr (t u : TT) : TT := fun σ H Q => t σ H fun c H1 => if c = true then Q true H1 else u σ H1 Q
def tNot (t : TT) : TT := fun σ H Q => t σ H fun c H1 => Q (!c) H1
theorem pw_and1 (ha : PT X a tA) : PW X (.BoolOp .And [a] pos) tA := by
  intro wh pins s σ H Q I h
  refine isTrue_and (thn (ha pins s σ H Q I h) fun c s1 e => ?_)
  cases c with
  | true => exact isTrue_and_nil e
  | false => exact e
theorem pw_or1 (ha : PT X a tA) : PW X (.BoolOp .Or [a] pos) tA := by
  intro wh pins s σ H Q I h
  refine isTrue_or (thn (ha pins s σ H Q I h) fun c s1 e => ?_)
  cases c with
  | false => exact isTrue_or_nil e
  | true => exact e
theorem pw_and (ha : PT X a tA) (hb : PW X (.BoolOp .And (b :: rest) pos) tB') : PW X (.BoolOp .And (a :: b :: rest) pos) (tAnd tA tB') := by
  intro wh pins s σ H Q I h
  refine isTrue_and (thn (ha pins s σ H _ I h) fun c s1 ⟨H1, I1, q1⟩ => ?_)
  cases c with
  | true => exact hb wh pins s1 σ H1 Q I1 q1
  | false => exact ⟨H1, I1, q1⟩
theorem pw_or (ha : PT X a tA) (hb : PW X (.BoolOp .Or (b :: rest) pos) tB') : PW X (.BoolOp .Or (a :: b :: rest) pos) (tOr tA tB') := by
  intro wh pins s σ H Q I h
  refine isTrue_or (thn (ha pins s σ H _ I h) fun c s1 ⟨H1, I1, q1⟩ => ?_)
  cases c with
  | true => exact ⟨H1, I1, q1⟩
  | false => exact hb wh pins s1 σ H1 Q I1 q1
theorem pt_not (ha : PT X a tA) : PT X (.UnaryOp .Not a pos) (tNot tA) := by
  intro pins s σ H Q I h
  exact isTrue_not (ha pins s σ H (fun c H1 => Q (!c) H1) I h)
def tAndV (ta tb : TE) : TE := fun σ H Q => ta σ H fun x H1 => ∃ c, x = .bl c ∧ if c = true then tb σ H1 Q else Q (.bl false) H1
def tNotV (ta : TE) : TE := fun σ H Q => ta σ H fun x H1 => ∃ c, x = .bl c ∧ Q (.bl (!c)) H1
theorem pe_one {op} {t : TE} (h : PE X a t) : PE X (.BoolOp op [a] pos) t := fun pins s σ H Q I hw => BoolOp_one (h pins s σ H Q I hw)
theorem pe_and (ha : PE X a ta) (hb : PE X (.BoolOp .And (b :: rest) pos) tb) : PE X (.BoolOp .And (a :: b :: rest) pos) (tAndV ta tb) := by
  intro pins s σ H Q I h
  refine BoolOp_and (thn (ha pins s σ H _ I h) fun v s1 ⟨x, H1, I1, r1, q1⟩ => ?_)
  obtain ⟨c, rfl, q1⟩ := q1
  cases r1
  refine wpAny_truthy_bool ?_
  cases c with
  | true => exact hb pins s1 σ H1 Q I1 q1
  | false => exact ⟨.bl false, H1, I1, rfl, q1⟩
theorem pe_not (ha : PE X a ta) : PE X (.UnaryOp .Not a pos) (tNotV ta) := by
  intro pins s σ H Q I h
  refine UnaryOp_ (thn (ha pins s σ H _ I h) fun v s1 ⟨x, H1, I1, r1, q1⟩ => ?_)
  obtain ⟨c, rfl, q1⟩ := q1
  cases r1
  exact not_of (wpAny_truthy_bool ⟨.bl (!c), H1, I1, rfl, q1⟩)
def tIf (t : TT) (ta tb : TE) : TE := fun σ H Q => t σ H fun c H1 => if c = true then ta σ H1 Q else tb σ H1 Q
theorem pe_ifExp {c : Expr} (hc : PT X c tA) (ha : PE X a ta) (hb : PE X b tb) : PE X (.IfExp c a b pos) (tIf tA ta tb) := by
  intro pins s σ H Q I h
  refine wpAny_IfExp (thn (hc pins s σ H _ I h) fun d s1 ⟨H1, I1, q1⟩ => ?_)
  cases d with
  | true => exact ha pins s1 σ H1 Q I1 q1
  | false => exact hb pins s1 σ H1 Q I1 q1
end
end L2
namespace L2
open PySem PySem.Spec PyProof.Rows
def SqL (K : PySem.W.Frag) (H : Hp) (a : Addr) (xs : List V) : Prop :=
  Rd H a (.lst xs) ∨
    ∃ (o : Obj) (its : Array Value) (n : Nat), K.lookup a = some o ∧ o.cls = .type "list" ∧ o.dict = none ∧ o.data = .seq its n ∧ its.size ≤ sizeLine ∧ Vals xs its.toList
def SqT (K : PySem.W.Frag) (H : Hp) (a : Addr) (xs : List V) : Prop :=
  Rd H a (.tup xs) ∨
    ∃ (o : Obj) (its : Array Value) (n : Nat), K.lookup a = some o ∧ (o.cls = .type "tuple" ∧ o.dict = none) ∧ o.data = .seq its n ∧ its.size ≤ sizeLine ∧ Vals xs its.toList
def absV : Value → Option V
  | .none => some .non
  | .bool b => some (.bl b)
  | .int i _ => some (.int i)
  | .str x _ => some (.str x)
  | .bytes b _ => some (.byt b)
  | .float b _ => some (.flt b)
  | .ref a => some (.ref a)
  | .type n => some (.ty n)
  | _ => none
theorem RelV.abs {x : V} {u : Value} (r : RelV x u) : absV u = some x := by
  cases x with
  | non => cases r; rfl
  | bl _ => cases r; rfl
  | int _ => obtain ⟨t, rfl⟩ := r; rfl
  | str _ => obtain ⟨t, rfl⟩ := r; rfl
  | byt _ => obtain ⟨t, rfl⟩ := r; rfl
  | flt _ => obtain ⟨t, rfl⟩ := r; rfl
  | ref _ => cases r; rfl
  | ty _ => cases r; rfl
theorem RelV.inj {x y : V} {u : Value} (r : RelV x u) (q : RelV y u) : x = y := Option.some.inj (r.abs.symm.trans q.abs)
theorem Vals.inj : ∀ {xs ys : List V} {us : List Value}, Vals xs us → Vals ys us → xs = ys
  | _, _, _, .nil, .nil => rfl
  | _, _, _, .cons r t, .cons r' t' => by rw [r.inj r', Vals.inj t t']
section
variable {X : Cx} {pins : List (Addr × Obj)} {σ : St} {H : Hp} {s : Shared} {a : Addr} {xs ys : List V}
theorem SqL.of {K : PySem.W.Frag} (h : H a = some (.lst xs)) : SqL K H a xs := .inl (.inl h)
theorem SqT.of {K : PySem.W.Frag} (h : H a = some (.tup xs)) : SqT K H a xs := .inl (.inl h)
theorem Inv.list (I : Inv X pins σ H s) (h : SqL X.K H a xs) : ∃ its : List Value, Vals xs its ∧ PlainL s.heap a its.toArray ∧ xs.length ≤ sizeLine := by
  rcases h with h | ⟨o, its, n, hk, hc, hd, hs, hz, r⟩
  · obtain ⟨z, its, n, r, e⟩ := h.ok I.hok
    exact ⟨its, r, ⟨_, n, e, rfl, rfl, rfl⟩, z⟩
  · refine ⟨its.toList, r, ⟨o, n, I.kIn a o hk, hc, hd, by simpa using hs⟩, ?_⟩
    have e := r.length
    simp only [Array.length_toList] at e
    omega
theorem Inv.tuple (I : Inv X pins σ H s) (h : SqT X.K H a xs) : ∃ its : List Value, Vals xs its ∧ IsTup s.heap a its.toArray ∧ xs.length ≤ sizeLine := by
  rcases h with h | ⟨o, its, n, hk, hc, hs, hz, r⟩
  · obtain ⟨z, its, r, p⟩ := h.ok I.hok
    exact ⟨its, r, p, z.1⟩
  · refine ⟨its.toList, r, ⟨o, I.kIn a o hk, hc.1, n, by simpa using hs⟩, ?_⟩
    have e := r.length
    simp only [Array.length_toList] at e
    omega
theorem Inv.list_inj (I : Inv X pins σ H s) (h : SqL X.K H a xs) (h' : SqL X.K H a ys) : xs = ys := by
  obtain ⟨its, r, ⟨o, n, e, _, _, d⟩, _⟩ := I.list h
  obtain ⟨its', r', ⟨o', n', e', _, _, d'⟩, _⟩ := I.list h'
  rw [e] at e'; cases e'
  rw [d] at d'
  injection d' with d1 _
  have : its = its' := by simpa using congrArg Array.toList d1
  subst this
  exact r.inj r'
theorem Inv.tuple_inj (I : Inv X pins σ H s) (h : SqT X.K H a xs) (h' : SqT X.K H a ys) : xs = ys := by
  obtain ⟨its, r, ⟨o, e, _, n, d⟩, _⟩ := I.tuple h
  obtain ⟨its', r', ⟨o', e', _, n', d'⟩, _⟩ := I.tuple h'
  rw [e] at e'; cases e'
  rw [d] at d'
  injection d' with d1 _
  have : its = its' := by simpa using congrArg Array.toList d1
  subst this
  exact r.inj r'
end
abbrev Cx.wish (X : Cx) (E : Value → Shared → Prop) : Cx := { X with xe := E }
abbrev Cx.nox (X : Cx) : Cx := X.wish fun _ _ => False
theorem Cx.Ok.wish {X : Cx} (ok : X.Ok) (E : Value → Shared → Prop) : (X.wish E).Ok :=
  ⟨ok.mod, ok.kind, ok.glob, ok.blt, ok.above, ok.inj, ok.has, ok.cab, ok.hd, ok.frames, ok.stk, ok.exf, ok.bs, ok.bsz, ok.noex, ok.exfs, ok.funs, ok.frf⟩
theorem Cx.Ok.unwish {X : Cx} {E : Value → Shared → Prop} (ok : (X.wish E).Ok) : X.Ok :=
  ⟨ok.mod, ok.kind, ok.glob, ok.blt, ok.above, ok.inj, ok.has, ok.cab, ok.hd, ok.frames, ok.stk, ok.exf, ok.bs, ok.bsz, ok.noex, ok.exfs, ok.funs, ok.frf⟩
section
variable {X : Cx} {pins : List (Addr × Obj)} {σ : St} {H : Hp} {s : Shared} {E : Value → Shared → Prop}
theorem Inv.wish (I : Inv X pins σ H s) (E : Value → Shared → Prop) : Inv (X.wish E) pins σ H s := ⟨I.ok.wish E, I.os, I.bare, I.base, I.loc, I.cell, I.free, I.freeC, I.pin, I.hok, I.len⟩
theorem Inv.unwish (I : Inv (X.wish E) pins σ H s) : Inv X pins σ H s := ⟨I.ok.unwish, I.os, I.bare, I.base, I.loc, I.cell, I.free, I.freeC, I.pin, I.hok, I.len⟩
theorem SP.unwish {D : Ends} {f : Flow} {s' : Shared} (h : SP (X.wish E) pins D f s') : SP X pins D f s' := by
  cases f with
  | next => obtain ⟨σ', H', I, q⟩ := h; exact ⟨σ', H', I.unwish, q⟩
  | brk => obtain ⟨σ', H', I, q⟩ := h; exact ⟨σ', H', I.unwish, q⟩
  | cont => obtain ⟨σ', H', I, q⟩ := h; exact ⟨σ', H', I.unwish, q⟩
  | ret u => obtain ⟨v, σ', H', I, r, q⟩ := h; exact ⟨v, σ', H', I.unwish, r, q⟩
theorem PE.nox {e : Expr} {t : TE} (h : PE X.nox e t) : PE X e t := fun pins s σ H Q I hw =>
  wpAny_mono (h pins s σ H Q (I.wish _) hw) (fun _ _ ⟨v, H', I', r, q⟩ => ⟨v, H', I'.unwish, r, q⟩) fun _ _ z => False.elim z
theorem PT.nox {e : Expr} {t : TT} (h : PT X.nox e t) : PT X e t := fun pins s σ H Q I hw =>
  wpAny_mono (h pins s σ H Q (I.wish _) hw) (fun _ _ ⟨H', I', q⟩ => ⟨H', I'.unwish, q⟩) fun _ _ z => False.elim z
theorem PSs.nox {st : List Stmt} {t : TS} (h : PSs X.nox st t) : PSs X st t := fun pins s σ H D I hw =>
  wpAny_mono (h pins s σ H D (I.wish _) hw) (fun _ _ q => q.unwish) fun _ _ z => False.elim z
end
section
variable {X : Cx} {st : Stmt} {rest : List Stmt} {t u : TS} {e : Expr} {te : TE} {pos : Pos}
def tNext : TS := fun D σ H => D.nx σ H
def tSeq (t u : TS) : TS := fun D σ H => t { D with nx := u D } σ H
theorem pss_nil : PSs X [] tNext := fun _ _ σ H _ I h => wpAny_execs_nil ⟨σ, H, I, h⟩
theorem pss_cons (h1 : PS X st t) (h2 : PSs X rest u) : PSs X (st :: rest) (tSeq t u) := by
  intro pins s σ H D I h
  refine wpAny_execs_cons (thn (h1 pins s σ H { D with nx := u D } I h) fun f s1 q => ?_)
  cases f with
  | next =>
    obtain ⟨σ', H', I', q⟩ := q
    exact h2 pins s1 σ' H' D I' q
  | ret v => exact q
  | brk => exact q
  | cont => exact q
def tRet (te : TE) : TS := fun D σ H => te σ H D.rt
theorem ps_ret (he : PE X e te) : PS X (.Return (some e) pos) (tRet te) := by
  intro pins s σ H D I h
  exact wpAny_Return_some (thn (he pins s σ H _ I h) fun v s1 ⟨x, H1, I1, r1, q1⟩ => ⟨x, σ, H1, I1, r1, q1⟩)
def tIfS (c : TT) (t u : TS) : TS := fun D σ H => c σ H fun b H1 => if b = true then t D σ H1 else u D σ H1
theorem ps_if {c : Expr} {a b : List Stmt} {tc : TT} (hc : PT X c tc) (ha : PSs X a t) (hb : PSs X b u) : PS X (.If c a b pos) (tIfS tc t u) := by
  intro pins s σ H D I h
  refine wpAny_If (thn (hc pins s σ H _ I h) fun d s1 ⟨H1, I1, q1⟩ => ?_)
  cases d with
  | true => exact ha pins s1 σ H1 D I1 q1
  | false => exact hb pins s1 σ H1 D I1 q1
end
abbrev TG := V → St → Hp → (St → Hp → Prop) → Prop
abbrev TGs := List V → St → Hp → (St → Hp → Prop) → Prop
def PG (X : Cx) (target : Expr) (t : TG) : Prop :=
  ∀ (pins : List (Addr × Obj)) (s : Shared) (σ : St) (H : Hp) (v : V) (u : Value) (Q : St → Hp → Prop), Inv X pins σ H s → RelV v u → t v σ H Q →
    wpAny (model X.prog X.w) X.A (assign target X.env u) (fun _ s' => ∃ σ' H', Inv X pins σ' H' s' ∧ Q σ' H') X.xe s
def PGs (X : Cx) (ts : List Expr) (t : TGs) : Prop :=
  ∀ (pins : List (Addr × Obj)) (s : Shared) (σ : St) (H : Hp) (vs : List V) (us : List Value) (Q : St → Hp → Prop), Inv X pins σ H s → Vals vs us → t vs σ H Q →
    wpAny (model X.prog X.w) X.A (assignInOrder ((assignEach ts X.env).map (·.2)) us) (fun _ s' => ∃ σ' H', Inv X pins σ' H' s' ∧ Q σ' H') X.xe s
abbrev TSet := V → V → V → Hp → (Hp → Prop) → Prop
def PSet (X : Cx) (t : TSet) : Prop :=
  ∀ (pins : List (Addr × Obj)) (s : Shared) (σ : St) (H : Hp) (o i v : V) (ov iv u : Value) (Q : Hp → Prop), Inv X pins σ H s → RelV o ov → RelV i iv → RelV v u → t o i v H Q →
    wpAny (model X.prog X.w) X.A (setItem ov iv u) (fun _ s' => ∃ H', Inv X pins σ H' s' ∧ Q H') X.xe s
section
variable {X : Cx} {pos : Pos}
def gName (i : Nat) : TG := fun v σ H Q => Q (σ.set i (some v)) H
theorem pg_name {i : Nat} {x : Str} (hN : X.N.Nodup) (hi : X.N[i]? = some x) (hx : Loc X.env.scope x) (hf : X.fn x = true ∨ X.env.scope.names.lookup x = some .local := by first | exact .inl rfl | exact .inr rfl | assumption) : PG X (.Name x pos) (gName i) := by
  intro pins s σ H v u Q I r h
  exact wpAny_assign_Name (store_ok I hN hi hx r (fun s' I' => ⟨_, H, I', h⟩) hf)
def gNil : TGs := fun vs σ H Q => vs = [] ∧ Q σ H
def gCons (t : TG) (u : TGs) : TGs := fun vs σ H Q => ∃ v r, vs = v :: r ∧ t v σ H fun σ' H' => u r σ' H' Q
theorem pgs_nil : PGs X [] gNil := by
  intro pins s σ H vs us Q I r h
  obtain ⟨e, h⟩ := h
  subst e
  cases r
  exact assignInOrder_nil ⟨σ, H, I, h⟩
theorem pgs_cons {e : Expr} {es : List Expr} {t : TG} {u : TGs} (h1 : PG X e t) (h2 : PGs X es u)
    (hs : (assignEach (e :: es) X.env).map (·.2) = assign e X.env :: (assignEach es X.env).map (·.2) := by rfl) : PGs X (e :: es) (gCons t u) := by
  intro pins s σ H vs us Q I r h
  obtain ⟨v, vr, e1, h⟩ := h
  subst e1
  cases r with
  | cons r rr =>
    rw [hs]
    refine assignInOrder_cons (thn (h1 pins s σ H _ _ _ I r h) fun _ s1 ⟨σ1, H1, I1, q1⟩ => ?_)
    exact h2 pins s1 σ1 H1 _ _ Q I1 rr q1
def gTup (K : PySem.W.Frag) (n : Nat) (t : TGs) : TG := fun v σ H Q => ∃ a xs, v = .ref a ∧ SqT K H a xs ∧ xs.length = n ∧ t xs σ H Q
theorem pg_tup {es : List Expr} {k : Nat} {t : TGs} {n : Nat} (hc : X.calm = true) (h : PGs X es t)
    (hn : (assignEach es X.env).length = n := by rfl) (hst : (assignEach es X.env).findIdx? (·.1) = none := by rfl) : PG X (.Tuple es k pos) (gTup X.K n t) := by
  intro pins s σ H v u Q I r hw
  obtain ⟨a, xs, e1, hq, hl, hw⟩ := hw
  subst e1
  cases r
  obtain ⟨its, rv, ht, hz⟩ := I.tuple hq
  refine assign_Tuple_tuple (I.ok.hd hc) ht (by simp [hn, ← hl, rv.length]) hst fun h' hx => ?_
  have I1 : Inv X pins σ H { s with heap := h' } := I.kept (t' := s.toks) fun b o e => hx b o (Nat.ne_of_lt (Heap.lt_size e)) e
  exact h pins _ σ H xs _ Q I1 (by simpa using rv) hw
def gSub (to ti : TE) (t : TSet) : TG := fun v σ H Q => to σ H fun o H1 => ti σ H1 fun i H2 => t o i v H2 fun H3 => Q σ H3
theorem pg_sub {o i : Expr} {to ti : TE} {t : TSet} (ho : PE X o to) (hi : PE X i ti) (hs : PSet X t)
    (ha : ∀ v, assign (.Subscript o i pos) X.env v = (do
      let ov ← holding [v] (eval o X.env)
      let iv ← holding [v, ov] (eval i X.env)
      standAt pos
      holding [v, ov, iv] (setItem ov iv v)
      release [v, ov, iv] []) := by intro _; rfl) : PG X (.Subscript o i pos) (gSub to ti t) := by
  intro pins s σ H v u Q I r h
  rw [ha]
  refine wpAny_bind (wpAny_holding (thn (ho pins s σ H _ I h) fun ov s1 ⟨x, H1, I1, r1, q1⟩ => ?_))
  refine wpAny_bind (wpAny_holding (thn (hi pins s1 σ H1 _ I1 q1) fun iv s2 ⟨y, H2, I2, r2, q2⟩ => ?_))
  refine wpAny_bind (wpAny_standAt (wpAny_bind (wpAny_holding (thn (hs pins s2 σ H2 x y v ov iv u _ I2 r1 r2 r q2) fun _ s3 ⟨H3, I3, q3⟩ => ?_))))
  exact wpAny_release ⟨σ, H3, I3, q3⟩
def tAsg (te : TE) (g : TG) : TS := fun D σ H => te σ H fun x H1 => g x σ H1 D.nx
theorem ps_asg {tg e : Expr} {te : TE} {g : TG} (he : PE X e te) (hg : PG X tg g) (hs : swapsWithSole [tg] e pos.line X.env = pure false := by rfl) (hw : swappedStores [tg] e X.env = pure none := by rfl)
    (h1 : (assignEach [tg] X.env).map (·.2) = [assign tg X.env] := by rfl) : PS X (.Assign [tg] e pos) (tAsg te g) := by
  intro pins s σ H D I h
  refine wpAny_Assign_stores (thn (he pins s σ H _ I h) fun v s1 ⟨x, H1, I1, r1, q1⟩ => ?_) hs hw
  rw [h1]
  exact thn (hg pins s1 σ H1 x v _ I1 r1 q1) fun _ s2 q => q
theorem ps_set {i : Nat} {x : Str} {e : Expr} {te : TE} {pos' : Pos} (hN : X.N.Nodup) (hi : X.N[i]? = some x) (hx : Loc X.env.scope x) (he : PE X e te) (hs : swapsWith e (some (.Name x pos')) pos.line X.env = pure false := by rfl) (hf : X.fn x = true ∨ X.env.scope.names.lookup x = some .local := by first | exact .inl rfl | exact .inr rfl | assumption) :
    PS X (.Assign [.Name x pos'] e pos) (tAsg te (gName i)) := by
  intro pins s σ H D I h
  refine wpAny_Assign_Name (thn (he pins s σ H _ I h) fun v s1 ⟨y, H1, I1, r1, q1⟩ => ?_) hs
  exact store_ok I1 hN hi hx r1 (fun s2 I2 => ⟨_, H1, I2, q1⟩) hf
end
section
variable {X : Cx} {pos : Pos}
end
structure It where
  go : Nat → Hp → Prop
  yld : Nat → Hp → V → Hp → Prop
  stop : Nat → Hp → Prop
def FpOk (X : Cx) (pins : List (Addr × Obj)) (H : Hp) (b : Addr) : Prop :=
  H b = none ∧ b ≠ X.env.locals ∧ b ∉ X.fs ∧ (b ∈ X.ex ∨ X.s₀.heap.objs.size ≤ b) ∧ (∀ x c, X.env.cells.lookup x = some c → c ≠ b) ∧ ∀ p ∈ X.pn ++ pins, p.1 ≠ b
theorem Inv.fpOk {X : Cx} {pins : List (Addr × Obj)} {σ : St} {H H' : Hp} {s : Shared} {b : Addr} (I : Inv X pins σ H s) (hb : s.heap.objs.size ≤ b) (hn : H' b = none) : FpOk X pins H' b := by
  refine ⟨hn, Nat.ne_of_gt (Nat.lt_of_lt_of_le I.lt hb), I.nofs hb, .inr (Nat.le_trans I.sz hb), fun x c e z => ?_, fun p hp z => ?_⟩
  · obtain ⟨v, q⟩ := I.cell x c e
    exact absurd (Nat.lt_of_lt_of_le q.lt (by rw [z]; exact hb)) (Nat.lt_irrefl _)
  · exact absurd (Nat.lt_of_lt_of_le (Heap.lt_size (I.pin p hp).1) (by rw [z]; exact hb)) (Nat.lt_irrefl _)
structure Turn (P : Program) (w : World) (K : PySem.W.Frag) (tg : Expr) (J : It) (fp : List Addr) (it : Addr) (tn : Nat → Heap → Prop) : Prop where
  mem : it ∈ fp
  obj : ∀ i h, tn i h → ∀ b ∈ fp, ∃ o, h.get? b = some o ∧ ∀ v, o.data ≠ .cell v
  keep : ∀ i h h', tn i h → (∀ b ∈ fp, ∀ o, h.get? b = some o → h'.get? b = some o) → tn i h'
  item : ∀ (X : Cx), X.prog = P → X.w = w → X.K = K → X.calm = true → ∀ (i : Nat) (pins : List (Addr × Obj)) (s : Shared) (σ : St) (H : Hp) (E : Value → Shared → Prop), Inv X pins σ H s → (∀ b ∈ fp, FpOk X pins H b) → tn i s.heap → J.go i H →
    wpAny (model P w) X.A (pyNext (.ref it)) (fun r s1 => ∃ u, r = some u ∧
      wpAny (model P w) X.A (letOwnedTupleGo tg (.ref it) u) (fun _ s2 => ∃ x H', Inv X pins σ H' s2 ∧ RelV x u ∧ J.yld i H x H' ∧ tn (i + 1) s2.heap ∧ ∀ b ∈ fp, H' b = none) E s1) E s
  done : ∀ (X : Cx), X.prog = P → X.w = w → X.K = K → X.calm = true → ∀ (i : Nat) (pins : List (Addr × Obj)) (s : Shared) (σ : St) (H : Hp) (E : Value → Shared → Prop), Inv X pins σ H s → (∀ b ∈ fp, FpOk X pins H b) → tn i s.heap → J.stop i H →
    wpAny (model P w) X.A (pyNext (.ref it)) (fun r s1 => r = none ∧ Inv X pins σ H s1) E s
  self : ∀ (A : Around) (i : Nat) (s : Shared) (Q : Value → Shared → Prop) (E : Value → Shared → Prop), tn i s.heap → Q (.ref it) s → wpAny (model P w) A (pyIter (.ref it)) Q E s
abbrev TI := St → Hp → (It → Hp → Prop) → Prop
def PIE (X : Cx) (pins : List (Addr × Obj)) (σ : St) (tg : Expr) (R : It → Hp → Prop) (itv : Value) (s2 : Shared) : Prop :=
  ∃ (it : Addr) (fp : List Addr) (tn : Nat → Heap → Prop) (J : It) (H' : Hp), itv = .ref it ∧ Inv X pins σ H' s2 ∧ Turn X.prog X.w X.K tg J fp it tn ∧ tn 0 s2.heap ∧ (∀ b ∈ fp, FpOk X pins H' b) ∧ R J H'
def PI (X : Cx) (tg iter : Expr) (wi : TI) : Prop :=
  ∀ (pins : List (Addr × Obj)) (s : Shared) (σ : St) (H : Hp) (R : It → Hp → Prop), Inv X pins σ H s → wi σ H R →
    wpAny (model X.prog X.w) X.A (eval iter X.env) (fun v s1 => wpAny (model X.prog X.w) X.A (pyIter v) (PIE X pins σ tg R) X.xe s1) X.xe s
theorem go_of {M : Model} {A : Around} {E : Value → Shared → Prop} {s : Shared} {tg : Expr} {it : Addr} {u : Value} {o : Obj} {n : String} {vs : Array Value} {Q : Unit → Shared → Prop} (ho : s.heap.get? it = some o) (hc : o.cls = .type n) (hd : o.data = .fields vs)
    (hn : ["enumerate", "zip", "dict_itemiterator", "dict_reverseitemiterator", "odict_iterator", "itertools.zip_longest", "itertools.pairwise"].contains n = false) (hQ : Q () s) : wpAny M A (letOwnedTupleGo tg (.ref it) u) Q E s := by
  unfold letOwnedTupleGo
  cases tg <;> first
    | exact wpAny_pure hQ
    | (cases u <;> first
        | exact wpAny_pure hQ
        | (refine wpAny_bind (wpAny_load ho ?_)
           rw [hc, hd]
           show wpAny M A (if (["enumerate", "zip", "dict_itemiterator", "dict_reverseitemiterator", "odict_iterator", "itertools.zip_longest", "itertools.pairwise"].contains n && vs[0]? == some (rawInt _)) = true then _ else _) Q E s
           rw [if_neg (by intro h; rw [hn, Bool.false_and] at h; cases h)]
           exact wpAny_pure hQ))
def Itl (K : PySem.W.Frag) (a : Addr) : It :=
  ⟨fun i H => ∃ xs x, SqL K H a xs ∧ xs[i]? = some x, fun i H x H' => H' = H ∧ ∀ xs, SqL K H a xs → xs[i]? = some x, fun i H => ∃ xs, SqL K H a xs ∧ xs.length ≤ i⟩
def Itt (K : PySem.W.Frag) (a : Addr) : It :=
  ⟨fun i H => ∃ xs x, SqT K H a xs ∧ xs[i]? = some x, fun i H x H' => H' = H ∧ ∀ xs, SqT K H a xs → xs[i]? = some x, fun i H => ∃ xs, SqT K H a xs ∧ xs.length ≤ i⟩
def Itr (lo : Int) (n : Nat) : It := ⟨fun i _ => i < n, fun i H x H' => H' = H ∧ x = .int (lo + i), fun i _ => n ≤ i⟩
theorem turn_list {P : Program} {w : World} {K : PySem.W.Frag} {tg : Expr} (a it : Addr) : Turn P w K tg (Itl K a) [it] it (fun i h => h.IsListIter it a i) where
  mem := by simp
  obj := fun i h st b hb => by
    have e : b = it := by simpa using hb
    subst e
    obtain ⟨o, e, c, d⟩ := st
    exact ⟨o, e, fun v z => by rw [d] at z; cases z⟩
  keep := fun i h h' st k => st.at fun o e => k it (by simp) o e
  item := by
    intro X hP hw hK hc i pins s σ H E I hf st hg
    subst hP hw hK
    obtain ⟨xs, x, hq, hx⟩ := hg
    obtain ⟨its, rv, p, hz⟩ := I.list hq
    obtain ⟨u, hu, ru⟩ := rv.get hx
    obtain ⟨f0, f1, f2, f3, f4, f5⟩ := hf it (by simp)
    refine wpAny_pyNext_list_item st p.isList (x := u) (by simpa using hu) fun h' st' sb => ?_
    have I1 : Inv X pins σ H { s with heap := h' } := I.turned (t' := s.toks) (fun b o hb e => (sb.2 b hb).trans e) f0 f1 f3 f4 f5
    obtain ⟨o, e, c, d⟩ := id st'
    exact ⟨u, rfl, go_of (s := { s with heap := h' }) e c d (by decide) ⟨x, H, I1, ru, ⟨rfl, fun ys hy => by rw [I.list_inj hy hq]; exact hx⟩, st', fun b hb => (hf b hb).1⟩⟩
  done := by
    intro X hP hw hK hc i pins s σ H E I hf st hg
    subst hP hw hK
    obtain ⟨xs, hq, hx⟩ := hg
    obtain ⟨its, rv, p, hz⟩ := I.list hq
    obtain ⟨f0, f1, f2, f3, f4, f5⟩ := hf it (by simp)
    have hl := rv.length
    exact wpAny_pyNext_list_end (I.ok.hd hc) st p.isList (by simp; omega) fun h' eb => ⟨rfl, I.turned (t' := s.toks) (fun b o hb e => eb b o hb e) f0 f1 f3 f4 f5⟩
  self := fun _ _ _ _ _ st h => wpAny_pyIter_listiter st h
theorem turn_tuple {P : Program} {w : World} {K : PySem.W.Frag} {tg : Expr} (a it : Addr) : Turn P w K tg (Itt K a) [it] it (fun i h => h.IsTupleIter it a i) where
  mem := by simp
  obj := fun i h st b hb => by
    have e : b = it := by simpa using hb
    subst e
    obtain ⟨o, e, c, d⟩ := st
    exact ⟨o, e, fun v z => by rw [d] at z; cases z⟩
  keep := fun i h h' st k => st.at fun o e => k it (by simp) o e
  item := by
    intro X hP hw hK hc i pins s σ H E I hf st hg
    subst hP hw hK
    obtain ⟨xs, x, hq, hx⟩ := hg
    obtain ⟨its, rv, p, hz⟩ := I.tuple hq
    obtain ⟨u, hu, ru⟩ := rv.get hx
    obtain ⟨f0, f1, f2, f3, f4, f5⟩ := hf it (by simp)
    refine wpAny_pyNext_tuple_item st (show s.heap.IsTuple a its.toArray from p) (x := u) (by simpa using hu) fun h' st' sb => ?_
    have I1 : Inv X pins σ H { s with heap := h' } := I.turned (t' := s.toks) (fun b o hb e => (sb.2 b hb).trans e) f0 f1 f3 f4 f5
    obtain ⟨o, e, c, d⟩ := id st'
    exact ⟨u, rfl, go_of (s := { s with heap := h' }) e c d (by decide) ⟨x, H, I1, ru, ⟨rfl, fun ys hy => by rw [I.tuple_inj hy hq]; exact hx⟩, st', fun b hb => (hf b hb).1⟩⟩
  done := by
    intro X hP hw hK hc i pins s σ H E I hf st hg
    subst hP hw hK
    obtain ⟨xs, hq, hx⟩ := hg
    obtain ⟨its, rv, p, hz⟩ := I.tuple hq
    obtain ⟨f0, f1, f2, f3, f4, f5⟩ := hf it (by simp)
    have hl := rv.length
    exact wpAny_pyNext_tuple_end (I.ok.hd hc) st (show s.heap.IsTuple a its.toArray from p) (by simp; omega) fun h' eb => ⟨rfl, I.turned (t' := s.toks) (fun b o hb e => eb b o hb e) f0 f1 f3 f4 f5⟩
  self := fun _ _ _ _ _ st h => wpAny_pyIter_tupleiter st h
theorem turn_range {P : Program} {w : World} {K : PySem.W.Frag} {tg : Expr} (it : Addr) (lo : Int) (n : Nat) : Turn P w K tg (Itr lo n) [it] it (fun i h => IsRangeIter h it (lo + (i : Nat) * 1) ((n : Int) - (i : Nat)) 1) where
  mem := by simp
  obj := fun i h st b hb => by
    have e : b = it := by simpa using hb
    subst e
    exact ⟨_, st, fun v z => by
      have z' : Data.fields _ = Data.cell v := z
      cases z'⟩
  keep := fun i h h' st k => k it (by simp) _ st
  item := by
    intro X hP hw hK hc i pins s σ H E I hf st hg
    subst hP hw hK
    obtain ⟨f0, f1, f2, f3, f4, f5⟩ := hf it (by simp)
    have W := Walks.range (prog := X.prog) (w := X.w) (I.ok.hd hc) it lo 1 n
    refine W.item i s _ _ hg st fun v h' tk hv st' kk => ?_
    obtain ⟨t, rfl⟩ := hv
    have I1 : Inv X pins σ H { s with heap := h', toks := tk } := I.turned (fun b o hb e => kk b o (by simpa using hb) e) f0 f1 f3 f4 f5
    refine ⟨_, rfl, go_of (s := { s with heap := h', toks := tk }) (n := "range_iterator") st' rfl rfl (by decide) ⟨.int (lo + i), H, I1, ⟨t, ?_⟩, ⟨rfl, rfl⟩, st', fun b hb => (hf b hb).1⟩⟩
    rw [Int.mul_one]
  done := by
    intro X hP hw hK hc i pins s σ H E I hf st hg
    subst hP hw hK
    obtain ⟨f0, f1, f2, f3, f4, f5⟩ := hf it (by simp)
    exact wpAny_pyNext_range_end (I.ok.hd hc) st (by have : n ≤ i := hg; omega) fun h' eb => ⟨rfl, I.turned (t' := s.toks) (fun b o hb e => eb b o hb e) f0 f1 f3 f4 f5⟩
  self := fun _ _ _ _ _ st h => wpAny_pyIter_rangeiter st h
end L2
namespace L2
open PySem PySem.Spec PyProof.Rows
section
variable {X : Cx} {tg : Expr}
theorem range_it {pins : List (Addr × Obj)} {σ : St} {H : Hp} {s : Shared} {R : It → Hp → Prop} {E : Value → Shared → Prop} {lo hi : Int} {t u v : Tok} {tk : Nat} (I : Inv X pins σ H s) (h1 : -(2 ^ 62) ≤ lo) (h2 : lo < 2 ^ 62) (h3 : -(2 ^ 62) ≤ hi) (h4 : hi < 2 ^ 62)
    (q : R (Itr lo (hi - lo).toNat) H) : wpAny (model X.prog X.w) X.A (pyIter (.ref s.heap.objs.size)) (PIE X pins σ tg R) E { s with heap := s.heap.push { cls := .type "range", data := .fields #[.int lo t, .int hi u, .int 1 v] }, toks := tk } := by
  refine wpAny_pyIter_range (IsRange.new ..) (small_one h1 h2 h3 h4) ?_
  have I1 : Inv X pins σ H { s with heap := s.heap.push { cls := .type "range", data := .fields #[.int lo t, .int hi u, .int 1 v] }, toks := tk } := I.kept fun b o e => Heap.get?_push_of_some _ e
  refine ⟨(s.heap.push { cls := .type "range", data := .fields #[.int lo t, .int hi u, .int 1 v] }).objs.size, [(s.heap.push { cls := .type "range", data := .fields #[.int lo t, .int hi u, .int 1 v] }).objs.size], _, _, H, rfl,
    I1.kept (t' := tk) fun b o e => Heap.get?_push_of_some _ e, turn_range _ lo (hi - lo).toNat, ?_, fun b hb => ?_, q⟩
  · have e1 : lo + ((0 : Nat) : Int) * 1 = lo := by simp
    have e2 : (((hi - lo).toNat : Nat) : Int) - ((0 : Nat) : Int) = Builtin.Range.rangeSize lo hi 1 := by rw [rangeSize_one]; split <;> omega
    show IsRangeIter _ _ (lo + ((0 : Nat) : Int) * 1) ((((hi - lo).toNat : Nat) : Int) - ((0 : Nat) : Int)) 1
    rw [e1, e2]
    exact Heap.get?_push_size _ rfl
  · have e : b = (s.heap.push { cls := .type "range", data := .fields #[.int lo t, .int hi u, .int 1 v] }).objs.size := by simpa using hb
    subst e
    exact I1.fpOk (Nat.le_refl _) (I1.hok.fresh (Nat.le_refl _))
def iRng1 (ta : TA) : TI := fun σ H R => ta σ H fun vs H1 => ∃ j : Int, vs = [.int j] ∧ -(2 ^ 62) ≤ j ∧ j < 2 ^ 62 ∧ R (Itr 0 j.toNat) H1
theorem pi_range1 {a : Expr} {ta : TA} {p pos : Pos} (hg : Gl X "range") (hm : X.mg "range" = none) (ha : PA X [a] ta) (hs : starEach [a] X.env = [(false, eval a X.env)] := by rfl) : PI X tg (.Call (.Name "range" p) [a] [] pos) (iRng1 ta) := by
  intro pins s σ H R I h
  refine Call_ (ld_blt I hg hm boot_range (PyProof.Rows.callWith_type1 (thn (ha pos pins s σ H _ I h) fun us s1 ⟨vs, H1, I1, r1, q1⟩ => ?_) hs rfl))
  obtain ⟨j, e, q1, q2, q⟩ := q1
  subst e
  cases r1 with
  | cons r rr =>
    cases rr
    obtain ⟨t, rfl⟩ := r
    exact call_range_1 (range_it I1 (by omega) (by omega) q1 q2 (by simpa using q))
def tFor (wi : TI) (g : TG) (tb : TS) : TS := fun D σ H => wi σ H fun J H1 => ∃ W : Nat → Nat → St → Hp → Prop, (∃ m, W 0 m σ H1) ∧ ∀ i m σ H, W i m σ H →
  (J.stop i H ∧ D.nx σ H) ∨ (J.go i H ∧ ∃ N : St → Hp → Prop, (∀ σ' H', N σ' H' → ∃ m', m' < m ∧ W (i + 1) m' σ' H') ∧ ∀ x H', J.yld i H x H' → g x σ H' fun σ2 H2 => tb { D with nx := N, ct := N, bk := D.nx } σ2 H2)
def pinsAt (fp : List Addr) (h : Heap) : List (Addr × Obj) := fp.filterMap fun b => (h.get? b).map fun o => (b, o)
theorem mem_pinsAt {fp : List Addr} {h : Heap} {b : Addr} {o : Obj} (hb : b ∈ fp) (e : h.get? b = some o) : (b, o) ∈ pinsAt fp h := List.mem_filterMap.mpr ⟨b, hb, by rw [e]; rfl⟩
theorem of_pinsAt {fp : List Addr} {h : Heap} {p : Addr × Obj} (hp : p ∈ pinsAt fp h) : p.1 ∈ fp ∧ h.get? p.1 = some p.2 := by
  obtain ⟨b, hb, e⟩ := List.mem_filterMap.mp hp
  cases q : h.get? b with
  | none => rw [q] at e; cases e
  | some o =>
    rw [q] at e
    have e' : (b, o) = p := Option.some.inj e
    subst e'
    exact ⟨hb, q⟩
theorem Inv.pinned {pins : List (Addr × Obj)} {σ : St} {H : Hp} {s : Shared} {fp : List Addr} (I : Inv X pins σ H s) (hf : ∀ b ∈ fp, FpOk X pins H b) (ho : ∀ b ∈ fp, ∃ o, s.heap.get? b = some o ∧ ∀ v, o.data ≠ .cell v) : Inv X (pins ++ pinsAt fp s.heap) σ H s :=
  I.pins_of fun p hp => (List.mem_append.mp hp).elim (fun z => I.pin p (List.mem_append_right _ z)) fun z => by
    obtain ⟨hb, e⟩ := of_pinsAt z
    obtain ⟨f0, f1, f2, _⟩ := hf p.1 hb
    obtain ⟨o, e', d⟩ := ho p.1 hb
    rw [e] at e'; cases e'
    exact ⟨e, f0, f1, f2, d⟩
theorem Inv.unpinned {pins pl : List (Addr × Obj)} {σ : St} {H : Hp} {s : Shared} (I : Inv X (pins ++ pl) σ H s) : Inv X pins σ H s := I.pins_of fun p hp => I.pin p (List.mem_append_right _ (List.mem_append_left _ hp))
theorem ps_for {iter : Expr} {body : List Stmt} {wi : TI} {g : TG} {tb : TS} {pos : Pos} (hp : PassesOwn (model X.prog X.w) X.A X.env X.xe) (hc : X.calm = true) (hi : PI X tg iter wi) (hg : PG X tg g) (hb : PSs X body tb)
    (hs : ∀ x, foldedSetIterable iter X.env x = pure x := by intro _; rfl) : PS X (.For tg iter body [] pos) (tFor wi g tb) := by
  intro pins s σ H D I h
  refine wpAny_For (thn (hi pins s σ H _ I h) fun v s1 h1 => thn h1 fun itv s2 h2 => ?_) hs
  obtain ⟨it, fp, tn, J, H2, e, I2, T, st2, f2, W, ⟨m0, w0⟩, turn⟩ := h2
  subst e
  -- what stays true of the iterator's objects through the loop
  have stat : ∀ {H' : Hp}, (∀ b ∈ fp, H' b = none) → ∀ b ∈ fp, FpOk X pins H' b := fun hn b hb => ⟨hn b hb, (f2 b hb).2⟩
  refine codeAny_forLoop_any (fun n s' => ∃ i σ' H', Inv X pins σ' H' s' ∧ tn i s'.heap ∧ (∀ b ∈ fp, H' b = none) ∧ W i n σ' H') ?_ m0 ⟨0, σ, H2, I2, st2, fun b hb => (f2 b hb).1, w0⟩
  rintro n s3 ⟨i, σ3, H3, I3, st3, fr3, w3⟩
  rcases turn i n σ3 H3 w3 with ⟨stop, qn⟩ | ⟨go, N, hN, step⟩
  · refine wpAny_passesOwn hp (thn (T.done X rfl rfl rfl hc i pins s3 σ3 H3 X.xe I3 (stat fr3) st3 stop) fun r s4 ⟨hr, I4⟩ => ?_)
    subst hr
    exact wpAny_execs_nil ⟨σ3, H3, I4, qn⟩
  · refine wpAny_passesOwn hp (thn (T.item X rfl rfl rfl hc i pins s3 σ3 H3 X.xe I3 (stat fr3) st3 go) fun r s4 ⟨u, hr, h4⟩ => ?_)
    subst hr
    refine wpAny_passesOwn hp (thn h4 fun _ s5 ⟨x, H5, I5, r5, y5, st5, fr5⟩ => ?_)
    have I5' := I5.pinned (stat fr5) (T.obj _ _ st5)
    refine wpAny_passesOwn hp (thn (hg _ s5 σ3 H5 x u _ I5' r5 (step x H5 y5)) fun _ s6 ⟨σ6, H6, I6, q6⟩ => ?_)
    refine wpAny_passesOwn hp (thn (hb _ s6 σ6 H6 _ I6 q6) fun f s7 q7 => ?_)
    have again : ∀ {σ7 : St} {H7 : Hp}, Inv X (pins ++ pinsAt fp s5.heap) σ7 H7 s7 → N σ7 H7 → ∃ m, m < n ∧ ∃ i σ' H', Inv X pins σ' H' s7 ∧ tn i s7.heap ∧ (∀ b ∈ fp, H' b = none) ∧ W i m σ' H' := fun {σ7 H7} I7 n7 => by
      obtain ⟨m', hm, w7⟩ := hN σ7 H7 n7
      refine ⟨m', hm, i + 1, σ7, H7, I7.unpinned, T.keep _ _ _ st5 fun b hb o e => (I7.pin (b, o) (List.mem_append_right _ (List.mem_append_right _ (mem_pinsAt hb e)))).1, fun b hb => ?_, w7⟩
      obtain ⟨o, e, d⟩ := T.obj _ _ st5 b hb
      exact (I7.pin (b, o) (List.mem_append_right _ (List.mem_append_right _ (mem_pinsAt hb e)))).2.1
    cases f with
    | next => obtain ⟨σ7, H7, I7, n7⟩ := q7; exact again I7 n7
    | cont => obtain ⟨σ7, H7, I7, n7⟩ := q7; exact again I7 n7
    | brk => obtain ⟨σ7, H7, I7, q7⟩ := q7; exact ⟨σ7, H7, I7.unpinned, q7⟩
    | ret v => obtain ⟨x7, σ7, H7, I7, r7, q7⟩ := q7; exact ⟨x7, σ7, H7, I7.unpinned, r7, q7⟩
end
end L2
namespace L2
open PySem PySem.Spec PyProof.Rows
abbrev R2 := V → V → Hp → VK → Prop
def OpR (X : Cx) (f : Value → Value → Sem Value) (r : R2) : Prop :=
  ∀ (pins : List (Addr × Obj)) (s : Shared) (σ : St) (H : Hp) (x y : V) (v u : Value) (Q : VK), Inv X pins σ H s → RelV x v → RelV y u → r x y H Q →
    wpAny (model X.prog X.w) X.A (f v u) (EP X pins σ Q) X.xe s
def UnR (X : Cx) (f : Value → Sem Value) (r : V → Hp → VK → Prop) : Prop :=
  ∀ (pins : List (Addr × Obj)) (s : Shared) (σ : St) (H : Hp) (x : V) (v : Value) (Q : VK), Inv X pins σ H s → RelV x v → r x H Q →
    wpAny (model X.prog X.w) X.A (f v) (EP X pins σ Q) X.xe s
def CallR (X : Cx) (f : Value) (r : List V → Hp → VK → Prop) : Prop :=
  ∀ (pins : List (Addr × Obj)) (s : Shared) (σ : St) (H : Hp) (xs : List V) (us : List Value) (Q : VK), Inv X pins σ H s → Vals xs us → r xs H Q →
    wpAny (model X.prog X.w) X.A (call f us) (EP X pins σ Q) X.xe s
def tOp (r : R2) (ta tb : TE) : TE := fun σ H Q => ta σ H fun x H1 => tb σ H1 fun y H2 => r x y H2 Q
def tUn (r : V → Hp → VK → Prop) (ta : TE) : TE := fun σ H Q => ta σ H fun x H1 => r x H1 Q
def rI (C : Int → Int → Prop) (g : Int → Int → V) : R2 := fun x y H Q => ∃ i j, x = .int i ∧ y = .int j ∧ C i j ∧ Q (g i j) H
def rI0 (g : Int → Int → V) : R2 := fun x y H Q => ∃ i j, x = .int i ∧ y = .int j ∧ Q (g i j) H
def rU (g : Int → V) : V → Hp → VK → Prop := fun x H Q => ∃ i, x = .int i ∧ Q (g i) H
section
variable {X : Cx} {a b c : Expr} {ta tb tc : TE} {pos : Pos}
theorem binT (ha : PE X a ta) (hb : PE X b tb) {pins : List (Addr × Obj)} {s : Shared} {σ : St} {H : Hp} {R : V → V → Hp → Prop} (I : Inv X pins σ H s)
    (h : ta σ H fun x H1 => tb σ H1 fun y H2 => R x y H2) {Q : Value → Shared → Prop} {f : Value → Value → Sem Value}
    (hf : ∀ v u s2 x y H2, Inv X pins σ H2 s2 → RelV x v → RelV y u → R x y H2 → wpAny (model X.prog X.w) X.A (f v u) Q X.xe s2) :
    wpAny (model X.prog X.w) X.A (eval a X.env) (fun v s₁ => wpAny (model X.prog X.w) X.A (eval b X.env) (fun u s₂ => wpAny (model X.prog X.w) X.A (f v u) Q X.xe s₂) X.xe s₁) X.xe s := by
  refine thn (ha pins s σ H _ I h) fun v s1 ⟨x, H1, I1, r1, q1⟩ => ?_
  refine thn (hb pins s1 σ H1 _ I1 q1) fun u s2 ⟨y, H2, I2, r2, q2⟩ => ?_
  exact hf v u s2 x y H2 I2 r1 r2 q2
theorem pe_un {op : UnaryOp} {r : V → Hp → VK → Prop} (ho : UnR X (unaryOp op) r) (ha : PE X a ta) : PE X (.UnaryOp op a pos) (tUn r ta) := by
  intro pins s σ H Q I h
  exact UnaryOp_ (thn (ha pins s σ H _ I h) fun v s1 ⟨x, H1, I1, r1, q1⟩ => ho pins s1 σ H1 x v Q I1 r1 q1)
theorem opI {f : Value → Value → Sem Value} {C : Int → Int → Prop} {g : Int → Int → Int}
    (rule : ∀ (i j : Int) (t u : Tok) (s : Shared) (Q : Value → Shared → Prop) (E : Value → Shared → Prop), C i j → Q (.int (g i j) s.toks) { s with toks := s.toks + 1 } → wpAny (model X.prog X.w) X.A (f (.int i t) (.int j u)) Q E s) :
    OpR X f (rI C fun i j => .int (g i j)) := by
  intro pins s σ H x y v u Q I rx ry h
  obtain ⟨i, j, rfl, rfl, hc, q⟩ := h
  obtain ⟨t, rfl⟩ := rx
  obtain ⟨t', rfl⟩ := ry
  exact rule i j t t' s _ _ hc ⟨.int (g i j), H, I.tok _, ⟨_, rfl⟩, q⟩
theorem opI0 {f : Value → Value → Sem Value} {g : Int → Int → Int}
    (rule : ∀ (i j : Int) (t u : Tok) (s : Shared) (Q : Value → Shared → Prop) (E : Value → Shared → Prop), Q (.int (g i j) s.toks) { s with toks := s.toks + 1 } → wpAny (model X.prog X.w) X.A (f (.int i t) (.int j u)) Q E s) :
    OpR X f (rI0 fun i j => .int (g i j)) := by
  intro pins s σ H x y v u Q I rx ry h
  obtain ⟨i, j, rfl, rfl, q⟩ := h
  obtain ⟨t, rfl⟩ := rx
  obtain ⟨t', rfl⟩ := ry
  exact rule i j t t' s _ _ ⟨.int (g i j), H, I.tok _, ⟨_, rfl⟩, q⟩
theorem opB0 {f : Value → Value → Sem Value} {g : Int → Int → Bool}
    (rule : ∀ (i j : Int) (t u : Tok) (s : Shared) (Q : Value → Shared → Prop) (E : Value → Shared → Prop), Q (.bool (g i j)) s → wpAny (model X.prog X.w) X.A (f (.int i t) (.int j u)) Q E s) :
    OpR X f (rI0 fun i j => .bl (g i j)) := by
  intro pins s σ H x y v u Q I rx ry h
  obtain ⟨i, j, rfl, rfl, q⟩ := h
  obtain ⟨t, rfl⟩ := rx
  obtain ⟨t', rfl⟩ := ry
  exact rule i j t t' s _ _ ⟨.bl (g i j), H, I, rfl, q⟩
def CPow (i j : Int) : Prop := 0 ≤ j ∧ j ≤ 1000000 ∧ i.natAbs < 2 ^ 64
def CMul (i j : Int) : Prop := (-(2 ^ 64) < i ∧ i < 2 ^ 64) ∨ (-(2 ^ 64) < j ∧ j < 2 ^ 64)
theorem CMul.ok {i j : Int} (h : CMul i j) : IntMulOk i j := by
  rcases h with ⟨h1, h2⟩ | ⟨h1, h2⟩
  · exact .of_left (intBits_le_64 h1 h2)
  · exact .of_right (intBits_le_64 h1 h2)
theorem op_add : OpR X (binaryOp .Add) (rI0 fun i j => .int (i + j)) := opI0 fun _ _ _ _ _ _ _ q => add_int q
theorem op_sub : OpR X (binaryOp .Sub) (rI0 fun i j => .int (i - j)) := opI0 fun _ _ _ _ _ _ _ q => sub_int q
theorem op_modN : OpR X (binaryOp .Mod) (rI (fun _ j => j ≠ 0) fun i j => .int (i.fmod j)) := opI fun _ _ _ _ _ _ _ hc q => mod_int' hc q
theorem op_pow : OpR X (binaryOp .Pow) (rI CPow fun i j => .int (i ^ j.toNat)) := opI fun _ _ _ _ _ _ _ hc q => pow_int_small hc.1 hc.2.1 hc.2.2 q
theorem unI {f : Value → Sem Value} {g : Int → Int}
    (rule : ∀ (i : Int) (t : Tok) (s : Shared) (Q : Value → Shared → Prop) (E : Value → Shared → Prop), Q (.int (g i) s.toks) { s with toks := s.toks + 1 } → wpAny (model X.prog X.w) X.A (f (.int i t)) Q E s) :
    UnR X f (rU fun i => .int (g i)) := by
  intro pins s σ H x v Q I rx h
  obtain ⟨i, rfl, q⟩ := h
  obtain ⟨t, rfl⟩ := rx
  exact rule i t s _ _ ⟨.int (g i), H, I.tok _, ⟨_, rfl⟩, q⟩
theorem un_neg : UnR X (unaryOp .USub) (rU fun i => .int (-i)) := unI fun _ _ _ _ _ q => neg_int q
end
def scal : V → V → Bool
  | .non, .non => true | .non, .int _ => true | .int _, .non => true | .non, .bl _ => true | .bl _, .non => true | .non, .str _ => true | .str _, .non => true
  | .int _, .int _ => true | .bl _, .bl _ => true | .str _, .str _ => true | .byt _, .byt _ => true
  | .int _, .str _ => true | .str _, .int _ => true | .bl _, .str _ => true | .str _, .bl _ => true
  | _, _ => false
def rEq : R2 := fun x y H Q => scal x y = true ∧ Q (.bl (decide (x = y))) H
def rNe : R2 := fun x y H Q => scal x y = true ∧ Q (.bl (!decide (x = y))) H
theorem dec_int {i j : Int} : decide (V.int i = V.int j) = (i == j) := by
  rw [Bool.eq_iff_iff]
  simp
theorem dec_bl {i j : Bool} : decide (V.bl i = V.bl j) = (i == j) := by
  rw [Bool.eq_iff_iff]
  simp
theorem dec_str {i j : Str} : decide (V.str i = V.str j) = (i == j) := by
  rw [Bool.eq_iff_iff]
  simp
theorem dec_byt {i j : Array UInt8} : decide (V.byt i = V.byt j) = (i.toList == j.toList) := by
  rw [Bool.eq_iff_iff]
  cases i
  cases j
  simp
section
variable {X : Cx} {a b c : Expr} {ta tb tc : TE} {pos : Pos}
theorem fin_bl {pins : List (Addr × Obj)} {σ : St} {H : Hp} {s : Shared} {Q : VK} {k k' : Bool} (I : Inv X pins σ H s) (q : Q (.bl k) H) (e : k = k') : EP X pins σ Q (.bool k') s := by
  subst e
  exact ⟨.bl k, H, I, rfl, q⟩
theorem op_eq : OpR X (compareOp .Eq) rEq := by
  intro pins s σ H x y v u Q I rx ry h
  obtain ⟨hs, q⟩ := h
  cases x with
  | non =>
    cases rx
    cases y with
    | non => cases ry; exact PySem.EqNone.eq_none_none (fin_bl I q (by simp))
    | bl j => cases ry; exact PySem.EqNone.eq_none_bool (fin_bl I q (by simp))
    | int j => obtain ⟨t', rfl⟩ := ry; exact PySem.EqNone.eq_none_int (fin_bl I q (by simp))
    | str j => obtain ⟨t', rfl⟩ := ry; exact PySem.EqNone.eq_none_str (fin_bl I q (by simp))
    | _ => exact absurd (show false = true from hs) Bool.false_ne_true
  | bl i =>
    cases rx
    cases y with
    | non => cases ry; exact PySem.EqNone.eq_bool_none (fin_bl I q (by simp))
    | bl j => cases ry; exact eq_bool (fin_bl I q dec_bl)
    | str j => obtain ⟨t', rfl⟩ := ry; exact PySem.EqMixed.eq_bool_str (fin_bl I q (by simp))
    | _ => exact absurd (show false = true from hs) Bool.false_ne_true
  | int i =>
    obtain ⟨t, rfl⟩ := rx
    cases y with
    | non => cases ry; exact PySem.EqNone.eq_int_none (fin_bl I q (by simp))
    | int j => obtain ⟨t', rfl⟩ := ry; exact eq_int (fin_bl I q dec_int)
    | str j => obtain ⟨t', rfl⟩ := ry; exact PySem.EqMixed.eq_int_str (fin_bl I q (by simp))
    | _ => exact absurd (show false = true from hs) Bool.false_ne_true
  | str i =>
    obtain ⟨t, rfl⟩ := rx
    cases y with
    | non => cases ry; exact PySem.EqNone.eq_str_none (fin_bl I q (by simp))
    | bl j => cases ry; exact PySem.EqMixed.eq_str_bool (fin_bl I q (by simp))
    | int j => obtain ⟨t', rfl⟩ := ry; exact PySem.EqMixed.eq_str_int (fin_bl I q (by simp))
    | str j => obtain ⟨t', rfl⟩ := ry; exact eq_str (fin_bl I q dec_str)
    | _ => exact absurd (show false = true from hs) Bool.false_ne_true
  | byt i =>
    obtain ⟨t, rfl⟩ := rx
    cases y with
    | byt j => obtain ⟨t', rfl⟩ := ry; exact PySem.W.eq_bytes (fin_bl I q dec_byt)
    | _ => exact absurd (show false = true from hs) Bool.false_ne_true
  | _ => cases y <;> exact absurd (show false = true from hs) Bool.false_ne_true
theorem op_ne : OpR X (compareOp .NotEq) rNe := by
  intro pins s σ H x y v u Q I rx ry h
  obtain ⟨hs, q⟩ := h
  cases x with
  | non =>
    cases rx
    cases y with
    | non => cases ry; exact PySem.EqNone.ne_none_none (fin_bl I q (by simp))
    | bl j => cases ry; exact PySem.EqNone.ne_none_bool (fin_bl I q (by simp))
    | int j => obtain ⟨t', rfl⟩ := ry; exact PySem.EqNone.ne_none_int (fin_bl I q (by simp))
    | str j => obtain ⟨t', rfl⟩ := ry; exact PySem.EqNone.ne_none_str (fin_bl I q (by simp))
    | _ => exact absurd (show false = true from hs) Bool.false_ne_true
  | bl i =>
    cases rx
    cases y with
    | non => cases ry; exact PySem.EqNone.ne_bool_none (fin_bl I q (by simp))
    | bl j => cases ry; exact ne_bool (fin_bl I q (congrArg not dec_bl))
    | str j => obtain ⟨t', rfl⟩ := ry; exact PySem.EqMixed.ne_bool_str (fin_bl I q (by simp))
    | _ => exact absurd (show false = true from hs) Bool.false_ne_true
  | int i =>
    obtain ⟨t, rfl⟩ := rx
    cases y with
    | non => cases ry; exact PySem.EqNone.ne_int_none (fin_bl I q (by simp))
    | int j => obtain ⟨t', rfl⟩ := ry; exact ne_int (fin_bl I q (congrArg not dec_int))
    | str j => obtain ⟨t', rfl⟩ := ry; exact PySem.EqMixed.ne_int_str (fin_bl I q (by simp))
    | _ => exact absurd (show false = true from hs) Bool.false_ne_true
  | str i =>
    obtain ⟨t, rfl⟩ := rx
    cases y with
    | non => cases ry; exact PySem.EqNone.ne_str_none (fin_bl I q (by simp))
    | bl j => cases ry; exact PySem.EqMixed.ne_str_bool (fin_bl I q (by simp))
    | int j => obtain ⟨t', rfl⟩ := ry; exact PySem.EqMixed.ne_str_int (fin_bl I q (by simp))
    | str j => obtain ⟨t', rfl⟩ := ry; exact ne_str (fin_bl I q (congrArg not dec_str))
    | _ => exact absurd (show false = true from hs) Bool.false_ne_true
  | byt i =>
    obtain ⟨t, rfl⟩ := rx
    cases y with
    | byt j => obtain ⟨t', rfl⟩ := ry; exact PySem.W.ne_bytes (fin_bl I q (congrArg not dec_byt))
    | _ => exact absurd (show false = true from hs) Bool.false_ne_true
  | _ => cases y <;> exact absurd (show false = true from hs) Bool.false_ne_true
theorem op_lt : OpR X (compareOp .Lt) (rI0 fun i j => .bl (decide (i < j))) := opB0 fun _ _ _ _ _ _ _ q => lt_int q
theorem op_le : OpR X (compareOp .LtE) (rI0 fun i j => .bl (decide (i ≤ j))) := opB0 fun _ _ _ _ _ _ _ q => le_int q
theorem op_gt : OpR X (compareOp .Gt) (rI0 fun i j => .bl (decide (j < i))) := opB0 fun _ _ _ _ _ _ _ q => gt_int q
theorem OpR.or {f : Value → Value → Sem Value} {r r' : R2} (h : OpR X f r) (h' : OpR X f r') : OpR X f (fun x y H Q => r x y H Q ∨ r' x y H Q) := by
  intro pins s σ H x y v u Q I rx ry q
  rcases q with q | q
  · exact h pins s σ H x y v u Q I rx ry q
  · exact h' pins s σ H x y v u Q I rx ry q
theorem nomark (b : Expr) {op : CmpOp} (h : op ≠ .In := by decide) (h2 : op ≠ .NotIn := by decide) : behindInMarks op b = false := by
  have e1 : (op == CmpOp.In) = false := by cases op <;> first | rfl | exact absurd rfl h
  have e2 : (op == CmpOp.NotIn) = false := by cases op <;> first | rfl | exact absurd rfl h2
  cases b <;> simp [behindInMarks, e1, e2]
theorem line63 : (sizeLine : Nat) < 2 ^ 63 := by rw [sizeLine_eq]; decide
theorem op_add_str : OpR X (binaryOp .Add) (fun x y H Q => ∃ i j, x = .str i ∧ y = .str j ∧ i.length + j.length ≤ sizeLine ∧ Q (.str (i ++ j)) H) := by
  intro pins s σ H x y v u Q I rx ry h
  obtain ⟨i, j, rfl, rfl, hz, q⟩ := h
  obtain ⟨t, rfl⟩ := rx
  obtain ⟨t', rfl⟩ := ry
  exact add_str (fun t' tk => ⟨.str (i ++ j), H, I.tok _, ⟨_, rfl⟩, q⟩) hz
theorem vals1 {x : V} {us : List Value} (r : Vals [x] us) : ∃ u, us = [u] ∧ RelV x u := by
  cases r with
  | cons r1 r2 => cases r2; exact ⟨_, rfl, r1⟩
theorem vals2 {x y : V} {us : List Value} (r : Vals [x, y] us) : ∃ u w', us = [u, w'] ∧ RelV x u ∧ RelV y w' := by
  cases r with
  | cons r1 r2 =>
    cases r2 with
    | cons r3 r4 => cases r4; exact ⟨_, _, rfl, r1, r3⟩
theorem call_max2 (hc : X.calm = true) : CallR X (.builtin "max") (fun xs H Q => ∃ i j, xs = [.int i, .int j] ∧ Q (.int (if j > i then j else i)) H) := by
  intro pins s σ H xs us Q I r h
  obtain ⟨i, j, rfl, q⟩ := h
  obtain ⟨u, w', rfl, ⟨t, rfl⟩, ⟨t', rfl⟩⟩ := vals2 r
  refine max_two_ints (I.ok.hd hc) fun h' tk k => ⟨_, H, I.kept k, ?_, q⟩
  by_cases hj : j > i
  · rw [if_pos hj, if_pos hj]; exact ⟨_, rfl⟩
  · rw [if_neg hj, if_neg hj]; exact ⟨_, rfl⟩
theorem call_int1 : CallR X (.type "int") (fun xs H Q => (∃ i, xs = [.int i] ∧ Q (.int i) H) ∨ ∃ k, xs = [.bl k] ∧ Q (.int (if k then 1 else 0)) H) := by
  intro pins s σ H xs us Q I r h
  rcases h with ⟨i, rfl, q⟩ | ⟨k, rfl, q⟩
  · obtain ⟨u, rfl, t, rfl⟩ := vals1 r
    exact call_int_int ⟨.int i, H, I, ⟨_, rfl⟩, q⟩
  · obtain ⟨u, rfl, r1⟩ := vals1 r
    cases r1
    exact call_int_bool ⟨.int (if k then 1 else 0), H, I.tok _, ⟨_, rfl⟩, q⟩
theorem call_str_int : CallR X (.type "str") (fun xs H Q => ∃ i, xs = [.int i] ∧ i.natAbs.log2 < 1920 ∧ Q (.str (toString i)) H) := by
  intro pins s σ H xs us Q I r h
  obtain ⟨i, rfl, hz, q⟩ := h
  obtain ⟨u, rfl, t, rfl⟩ := vals1 r
  exact PySem.P.str_of_int hz ⟨.str _, H, I.tok _, ⟨_, rfl⟩, q⟩
end
end L2
namespace L2
open PySem PySem.Spec PyProof.Rows
structure ObjM (h : Heap) (x dx C : Addr) (mA : Str → Option Value) : Prop where
  obj : h.get? x = some (PySem.W.instObj C dx)
  ns : h.Ns1 dx mA
  ne : dx ≠ x
theorem lookIn_ns {h : Heap} {dx : Addr} {mA : Str → Option Value} (n : h.Ns1 dx mA) : ∃ od, h.get? dx = some od ∧ ∀ name, PySem.W.lookIn name od = some (mA name) := by
  obtain ⟨o, es, ep, ho, hd, hk, _, hm⟩ := n
  refine ⟨o, ho, fun name => ?_⟩
  have e := hm name
  unfold nsFind findBy at e
  rw [← Array.find?_toList] at e
  unfold PySem.W.lookIn
  rw [hd]
  dsimp only
  split
  · rename_i y q
    rw [q] at e
    exact congrArg some e
  · rename_i q
    rw [q] at e
    have a : es.toList.any (·.refKey) = false := by
      rw [List.any_eq_false]
      intro y hy
      obtain ⟨z, t, hkey⟩ := hk y (Array.mem_toList_iff.mp hy)
      simp [DictEntry.refKey, hkey]
    have a' : ¬ es.toList.any (·.refKey) = true := by rw [a]; exact Bool.false_ne_true
    rw [if_neg a']
    exact congrArg some e
theorem ObjM.look {h : Heap} {x dx C : Addr} {mA : Str → Option Value} (I : ObjM h x dx C mA) : ∃ od, PySem.W.InstAt h x (PySem.W.instObj C dx) C (some od) ∧ ∀ name, PySem.W.lookIn name od = some (mA name) :=
  let ⟨od, ho, hl⟩ := lookIn_ns I.ns
  ⟨od, ⟨I.obj, rfl, rfl, ho⟩, hl⟩
section
variable {prog : Program} {w : World} {A : Around} {E : Value → Shared → Prop} {s : Shared} {K : PySem.W.Frag} {x dx C f : Addr} {mA : Str → Option Value} {name : Str} {v : Value}
theorem get_map {expr : Bool} {Q : Value → Shared → Prop} (X : K.In s.heap) (I : ObjM s.heap x dx C mA) (hg : PySem.W.plainGet K C name = true) (hh : PySem.W.hasDictIn K C = true)
    (ha : PySem.W.findIn K (.ref C) name = some none) (hv : mA name = some v) (hv' : PySem.W.handedIn v = true) (h : Q v { s with toks := s.toks + 1 }) :
    wpAny (model prog w) A (getAttr (.ref x) name expr) Q E s := by
  obtain ⟨od, J, hl⟩ := I.look
  exact PySem.W.get_value X J (PySem.W.plainGet_of hg).1 (PySem.W.findObj_own hh ha rfl (by rw [hl, hv])) hv' h
end
theorem RelO.some_of {v : V} {o : Option Value} (r : RelO (some v) o) : ∃ u, o = some u ∧ RelV v u := by
  cases o with
  | none => exact (show False from r).elim
  | some u => exact ⟨u, rfl, r⟩
section
variable {P : Program} {w : World} {H H' : Hp} {h h' : Heap} {a C dx : Addr} {fs fs' : List (Str × V)}
end
structure Cls (K : PySem.W.Frag) (C : Addr) : Prop where
  pg : PySem.W.plainGet K C Str.empty = true
  hd : PySem.W.hasDictIn K C = true
  po : PySem.W.plainOver K C = true
  sa : PySem.W.findIn K (.ref C) "__setattr__" = some (some (.builtin "object.__setattr__"))
theorem Cls.get {K : PySem.W.Frag} {C : Addr} (c : Cls K C) (f : Str) : PySem.W.plainGet K C f = true := c.pg
section
variable {X : Cx} {pins : List (Addr × Obj)} {σ : St} {H : Hp} {s : Shared} {a C dx : Addr} {fs : List (Str × V)} {f : Str} {v : V} {A : Around} {E : Value → Shared → Prop}
theorem Inv.made (I : Inv X pins σ H s) : Inv X pins σ (upd (upd H s.heap.objs.size (.own (s.heap.objs.size + 1))) (s.heap.objs.size + 1) (.ins C s.heap.objs.size []))
    { s with heap := (s.heap.push PySem.W.emptyDict).push (PySem.W.instObj C s.heap.objs.size) } := by
  have e1 : (s.heap.push PySem.W.emptyDict).get? s.heap.objs.size = some PySem.W.emptyDict := Heap.get?_push_size s.heap rfl
  have e2 : ((s.heap.push PySem.W.emptyDict).push (PySem.W.instObj C s.heap.objs.size)).get? (s.heap.objs.size + 1) = some (PySem.W.instObj C s.heap.objs.size) := by
    have := Heap.get?_push_size (s.heap.push PySem.W.emptyDict) (o := PySem.W.instObj C s.heap.objs.size) rfl
    rwa [Heap.size_push] at this
  have e3 : (s.heap.push PySem.W.emptyDict).Ns s.heap.objs.size (fun _ => none) := ⟨PySem.W.emptyDict, #[], _, e1, rfl, (fun e he => absurd he (by simp)), fun _ => rfl⟩
  have I1 := I.laid (a := s.heap.objs.size) (o := .own (s.heap.objs.size + 1)) (h' := s.heap.push PySem.W.emptyDict) (t' := s.toks) (fun b u q => Heap.get?_push_of_some _ q) (Nat.le_refl _) ⟨_, e1⟩
  refine I1.laid (a := s.heap.objs.size + 1) (o := .ins C s.heap.objs.size []) (t' := s.toks) (fun b u q => Heap.get?_push_of_some _ q) (Nat.le_of_eq (Heap.size_push _ _)) ?_
  have ne : s.heap.objs.size ≠ s.heap.objs.size + 1 := Nat.ne_of_lt (Nat.lt_succ_self _)
  refine ⟨by rw [upd_ne ne, upd_same], Nat.zero_le _, ne, e2, fun _ => none, (Heap.Ns1.of_empty e3).at fun o q => Heap.get?_push_of_some _ q, fun _ => True.intro, fun y hy => absurd rfl hy⟩
end
section
variable {X : Cx} {o e value : Expr} {f : Str} {pos pos' tpos : Pos} {ta tv : TE}
end
section
variable {X : Cx} {pins : List (Addr × Obj)} {σ : St} {H : Hp} {s : Shared} {A : Around} {E : Value → Shared → Prop} {Q : Value → Shared → Prop} {c : Value} {b : Bool}
end
end L2
namespace L2
open PySem PySem.Spec PyProof.Rows
structure Room (k : Nat) (A : Around) : Prop where
  hd : A.handled = none
  gd : A.guards = some []
  dp : A.depth + 3 * k + 5 < recursionLimit
  un : A.units + 16 * k + 200 < cLine
theorem Room.mono {j k : Nat} {A : Around} (r : Room k A) (h : j ≤ k) : Room j A := ⟨r.hd, r.gd, by have := r.dp; omega, by have := r.un; omega⟩
theorem Room.deeper {k : Nat} {A : Around} (r : Room (k + 1) A) (env : Env) : Room k (A.deeper env) :=
  ⟨r.hd, r.gd, by have := r.dp; show A.depth + 1 + 3 * k + 5 < _; omega, by have := r.un; show A.units + 3 + 16 * k + 200 < _; omega⟩
theorem Room.in1 {k : Nat} {A : Around} (r : Room (k + 1) A) : Room k A.in1 :=
  ⟨r.hd, r.gd, by have := r.dp; show A.depth + 3 * k + 5 < _; omega, by have := r.un; show A.units + 1 + 16 * k + 200 < _; omega⟩
theorem Room.depth {k : Nat} {A : Around} (r : Room k A) : A.depth < recursionLimit := by have := r.dp; omega
theorem Room.units {k : Nat} {A : Around} (r : Room k A) : A.units + 64 < cLine := by have := r.un; omega
def tNil : TA := fun _ H Q => Q [] H
def tCons (ta : TE) (tr : TA) : TA := fun σ H Q => ta σ H fun x H1 => tr σ H1 fun xs H2 => Q (x :: xs) H2
section
variable {X : Cx} {e : Expr} {es : List Expr} {te : TE} {t : TA} {pos : Pos}
theorem pa_nil : PA X [] tNil := fun _ _ _ _ H Q I h => Calls.spliced_nil ⟨[], H, I, .nil, h⟩
theorem pa_cons (ha : PE X e te) (hr : PA X es t) (hs : starEach (e :: es) X.env = (false, eval e X.env) :: starEach es X.env := by rfl) : PA X (e :: es) (tCons te t) := by
  intro pos pins s σ H Q I h
  rw [hs]
  show wpAny _ _ (spliced ((false, eval e X.env) :: backTo pos (starEach es X.env))) _ _ s
  refine Calls.spliced_cons (thn (ha pins s σ H _ I h) fun u s1 ⟨x, H1, I1, r1, q1⟩ => ?_)
  exact thn (hr pos pins s1 σ H1 _ I1 q1) fun us s2 ⟨xs, H2, I2, r2, q2⟩ => ⟨x :: xs, H2, I2, .cons r1 r2, q2⟩
def tTup (t : TA) : TE := fun σ H Q => t σ H fun xs H1 => xs.length ≤ sizeLine ∧ ∀ p, H1 p = none → Q (.ref p) (upd H1 p (.tup xs))
theorem pe_tup {x1} (h : PA X es t) : PE X (.Tuple es x1 pos) (tTup t) := by
  intro pins s σ H Q I hq
  refine wpAny_Tuple_spliced (thn (h pos pins s σ H _ I hq) fun us s1 ⟨xs, H1, I1, r, z, q⟩ => ⟨by rw [← r.length]; exact z, ?_⟩)
  have hf : H1 s1.heap.objs.size = none := I1.hok.fresh (Nat.le_refl _)
  refine ⟨.ref s1.heap.objs.size, upd H1 s1.heap.objs.size (.tup xs), I1.laid (t' := s1.toks) (fun b u e => Heap.get?_push_of_some _ e) (Nat.le_refl _) ?_, rfl, q _ hf⟩
  exact ⟨⟨z, NoD.new _ _ _⟩, us, r, ⟨_, Heap.get?_push_size _ rfl, rfl, _, rfl⟩⟩
end
abbrev Sp := List V → Hp → VK → XK → Prop
abbrev CXT := List Env → Hp → Shared → XK → Value → Shared → Prop
structure Env0 (P : Program) (w : World) (K : PySem.W.Frag) (mg : Str → Option Value) (base : Heap) (A : Around) (outer : List Env) (s : Shared) (H : Hp) : Prop where
  frames : A.frames = some outer
  mod : Mod K mg base
  bs : ∀ b o, base.get? b = some o → s.heap.get? b = some o ∧ H b = none
  bsz : base.objs.size ≤ s.heap.objs.size
  funs : s.heap.FunFrames base outer
  frf : ∀ b ∈ frs outer, H b = none
  hok : HOk P w H s.heap
  bare : AllBare s.gens
def CE (outer : List Env) (P : Program) (w : World) (H : Hp) (s : Shared) (Q : VK) (u : Value) (s' : Shared) : Prop :=
  ∃ v H', s'.os = s.os ∧ AllBare s'.gens ∧ Un (frs outer) [] H H' s.heap s'.heap ∧ HOk P w H' s'.heap ∧ RelV v u ∧ Q v H'
def CR (CX : CXT) (outer : List Env) (P : Program) (w : World) (H : Hp) (s : Shared) (Q : VK) (E : XK) (r : Result) (s' : Shared) : Prop :=
  match r with
  | .ok (.ret u) => CE outer P w H s Q u s'
  | .ok _ => False
  | .error e => CX outer H s E e s'
structure FnOk (P : Program) (w : World) (K : PySem.W.Frag) (mg : Str → Option Value) (base : Heap) (CX : CXT) (k : Nat) (f : Addr) (fd : FuncData) (ps : List Str) (sp : Sp) : Prop where
  len : ∀ vs H Q E, sp vs H Q E → vs.length = ps.length
  run : ∀ (A : Around) (outer : List Env) (s : Shared) (H : Hp) (args : Args) (us : List Value) (vs : List V) (Q : VK) (E : XK), Room k A → Env0 P w K mg base A outer s H → BindsTo s fd args (ps.zip us) → Vals vs us → sp vs H Q E →
    codeAny (model P w) A (.call (.ref f) args) (CR CX outer P w H s Q E) s
theorem FnOk.mono {P : Program} {w : World} {K : PySem.W.Frag} {mg : Str → Option Value} {base : Heap} {CX : CXT} {j k : Nat} {f : Addr} {fd : FuncData} {ps : List Str} {sp : Sp} (F : FnOk P w K mg base CX j f fd ps sp) (h : j ≤ k) :
    FnOk P w K mg base CX k f fd ps sp := ⟨F.len, fun A outer s H args us vs Q E hr => F.run A outer s H args us vs Q E (hr.mono h)⟩
theorem FnOk.imp {P : Program} {w : World} {K : PySem.W.Frag} {mg : Str → Option Value} {base : Heap} {CX : CXT} {k : Nat} {f : Addr} {fd : FuncData} {ps : List Str} {sp sp' : Sp} (F : FnOk P w K mg base CX k f fd ps sp)
    (h : ∀ vs H Q E, sp' vs H Q E → sp vs H Q E) : FnOk P w K mg base CX k f fd ps sp' :=
  ⟨fun vs H Q E q => F.len vs H Q E (h _ _ _ _ q), fun A outer s H args us vs Q E hr he hb hv hs => F.run A outer s H args us vs Q E hr he hb hv (h _ _ _ _ hs)⟩
theorem Env0.in1 {P : Program} {w : World} {K : PySem.W.Frag} {mg : Str → Option Value} {base : Heap} {A : Around} {outer : List Env} {s : Shared} {H : Hp} (e : Env0 P w K mg base A outer s H) :
    Env0 P w K mg base A.in1 outer s H := ⟨e.frames, e.mod, e.bs, e.bsz, e.funs, e.frf, e.hok, e.bare⟩
section
variable {X : Cx} {pins : List (Addr × Obj)} {σ : St} {H : Hp} {s s' : Shared}
theorem Inv.env0 (I : Inv X pins σ H s) : Env0 X.prog X.w X.K X.mg X.base X.A X.stack s H :=
  ⟨I.ok.frames, I.ok.mod, I.bs, Nat.le_trans I.ok.bsz I.sz, I.stack, I.stkFree, I.hok, I.bare⟩
theorem Inv.after {Q : VK} {u : Value} (I : Inv X pins σ H s) (h : CE X.stack X.prog X.w H s Q u s') : EP X pins σ Q u s' := by
  obtain ⟨v, H', os, bare, un, hok, r, q⟩ := h
  obtain ⟨hh, g, d, t, os'⟩ := s'
  obtain rfl : os' = s.os := os
  exact ⟨v, H', I.call (h' := hh) (g' := g) (d' := d) (t' := t) (ch := []) un hok bare (fun b z => absurd z (by simp)), r, q⟩
end
def tCall (sp : Sp) (dvs : List V) (E : XK) (t : TA) : TE := fun σ H Q => t σ H fun vs H1 => sp (vs ++ dvs) H1 Q E
def Binds (K : PySem.W.Frag) (fd : FuncData) (ps : List Str) (ds : List Value) : Prop :=
  ∀ (s : Shared) (us : List Value), K.In s.heap → (us ++ ds).length = ps.length → BindsTo s fd ⟨us, []⟩ (ps.zip (us ++ ds))
theorem Binds.all {K : PySem.W.Frag} {fd : FuncData} {ps : List Str} (h : ∀ us : List Value, us.length = ps.length → bindArgs fd ⟨us, []⟩ = pure (ps.zip us)) : Binds K fd ps [] := fun s us _ hl => by
  rw [List.append_nil] at hl ⊢
  exact .of_eq (h us hl)
def Passes (CX : CXT) (X : Cx) (E : XK) : Prop := ∀ (pins : List (Addr × Obj)) (σ : St) (H : Hp) (s : Shared) (e : Value) (s' : Shared), Inv X pins σ H s → CX X.stack H s E e s' → X.xe e s'
section
variable {X : Cx} {CX : CXT} {k : Nat} {f C : Addr} {fd : FuncData} {ps : List Str} {sp : Sp} {dvs : List V} {ds : List Value} {E : XK} {x m : Str} {p pos apos : Pos} {e o : Expr} {es : List Expr} {ta : TE} {t : TA}
theorem run_fn {pins : List (Addr × Obj)} {σ : St} {H : Hp} {s : Shared} {Q : VK} {us : List Value} {vs : List V} (F : FnOk X.prog X.w X.K X.mg X.base CX k f fd ps sp) (hr : Room k X.A) (hb : Binds X.K fd ps ds) (hd : Vals dvs ds) (hx : Passes CX X E)
    (I : Inv X pins σ H s) (r : Vals vs us) (h : sp (vs ++ dvs) H Q E) : wpAny (model X.prog X.w) X.A (call (.ref f) us) (EP X pins σ Q) X.xe s := by
  have r2 : Vals (vs ++ dvs) (us ++ ds) := r.append hd
  have hl : (us ++ ds).length = ps.length := by rw [← r2.length]; exact F.len _ _ _ _ h
  refine wpAny_call (codeAny_mono (F.run X.A X.stack s H ⟨us, []⟩ (us ++ ds) (vs ++ dvs) Q E hr I.env0 (hb s us I.kIn hl) r2 h) fun r s' hq => ?_)
  cases r with
  | error e => exact hx pins σ H s e s' I hq
  | ok fl =>
    cases fl with
    | ret u => exact I.after hq
    | next => exact False.elim hq
    | brk => exact False.elim hq
    | cont => exact False.elim hq
theorem pe_call (F : FnOk X.prog X.w X.K X.mg X.base CX k f fd ps sp) (hr : Room k X.A) (hg : Gl X x) (hm : X.mg x = some (.ref f)) (hk : PySem.W.keepIn X.K (.ref f) = true) (hb : Binds X.K fd ps ds) (hd : Vals dvs ds) (hx : Passes CX X E)
    (ha : PA X (e :: es) t) (hdb : (x == ("__debug__" : Str)) = false := by decide) (he : starEach (e :: es) X.env = (false, eval e X.env) :: starEach es X.env := by rfl) (hpl : (backTo pos (starEach es X.env)).any (·.1) = false := by rfl) :
    PE X (.Call (.Name x p) (e :: es) [] pos) (tCall sp dvs E t) := by
  intro pins s σ H Q I h
  refine wpAny_Call_Name_kw (ld_glob I hg hm ?_ hdb)
  refine PySem.W.callWith_K (h₀ := X.base) I.ok.mod.kin hk (thn (ha pos pins s σ H _ I h) fun us s1 ⟨vs, H1, I1, r, q⟩ => ⟨I1.kIn, ?_⟩) he hpl
  exact run_fn F hr hb hd hx I1 r q
end
section
variable {X : Cx} {CX : CXT} {k : Nat} {f C : Addr} {fd : FuncData} {ps ks : List Str} {sp : Sp} {E : XK} {x m : Str} {p pos apos kpos : Pos} {e o : Expr} {es : List Expr} {kws : List Keyword} {te ta : TE} {t tk : TA} {nm : Option Str}
variable {g : List Value → List Value → List Value} {gV : List V → List V → List V}
end
structure FnScope (N P : List Str) (sc : Scope) : Prop where
  kind : sc.kind = .function
  co : sc.isCoroutine = false
  gen : sc.isGenerator = false
  nd : N.Nodup
  pre : N.take P.length = P
  par : ∀ x ∈ P, sc.names.lookup x = some .local ∨ sc.names.lookup x = some .cell
  nofree : ∀ y ∈ sc.names, y.2 ≠ .free
theorem bindL_out {kindOf : Str → Option NameKind} {x : Str} : ∀ {binds : List (Str × Value)} {m : Str → Option Value}, (∀ v, (x, v) ∉ binds) → bindL kindOf binds m x = m x
  | [], _, _ => rfl
  | (n, v) :: r, m, h => by
    unfold bindL
    rw [bindL_out fun w hw => h w (List.mem_cons_of_mem _ hw)]
    split
    · have : x ≠ n := by rintro rfl; exact h v List.mem_cons_self
      simp [this]
    · rfl
theorem bindC_out {kindOf : Str → Option NameKind} {x : Str} : ∀ {binds : List (Str × Value)} {m : Str → Option Value}, (∀ v, (x, v) ∉ binds) → bindC kindOf binds m x = m x
  | [], _, _ => rfl
  | (n, v) :: r, m, h => by
    unfold bindC
    rw [bindC_out fun w hw => h w (List.mem_cons_of_mem _ hw)]
    split
    · rfl
    · have : x ≠ n := by rintro rfl; exact h v List.mem_cons_self
      simp [this]
theorem bindL_get {kindOf : Str → Option NameKind} {x : Str} {v : Value} : ∀ {P : List Str} {vs : List Value} {i : Nat} {m : Str → Option Value}, P.Nodup → P[i]? = some x → vs[i]? = some v → kindOf x = some .local →
    bindL kindOf (P.zip vs) m x = some v
  | [], _, _, _, _, h, _, _ => by simp at h
  | _ :: _, [], _, _, _, _, h, _ => by simp at h
  | p :: P, w :: vs, 0, m, nd, h1, h2, hk => by
    simp at h1 h2; subst h1; subst h2
    show bindL kindOf ((p, w) :: P.zip vs) m p = _
    unfold bindL
    rw [bindL_out fun v hv => (List.nodup_cons.mp nd).1 (List.of_mem_zip hv).1, if_pos hk]
    simp
  | p :: P, w :: vs, i + 1, m, nd, h1, h2, hk => by
    show bindL kindOf ((p, w) :: P.zip vs) m x = _
    unfold bindL
    exact bindL_get (i := i) (List.nodup_cons.mp nd).2 (by simpa using h1) (by simpa using h2) hk
theorem bindC_get {kindOf : Str → Option NameKind} {x : Str} {v : Value} : ∀ {P : List Str} {vs : List Value} {i : Nat} {m : Str → Option Value}, P.Nodup → P[i]? = some x → vs[i]? = some v → kindOf x ≠ some .local →
    bindC kindOf (P.zip vs) m x = some v
  | [], _, _, _, _, h, _, _ => by simp at h
  | _ :: _, [], _, _, _, _, h, _ => by simp at h
  | p :: P, w :: vs, 0, m, nd, h1, h2, hk => by
    simp at h1 h2; subst h1; subst h2
    show bindC kindOf ((p, w) :: P.zip vs) m p = _
    unfold bindC
    rw [bindC_out fun v hv => (List.nodup_cons.mp nd).1 (List.of_mem_zip hv).1, if_neg hk]
    simp
  | p :: P, w :: vs, i + 1, m, nd, h1, h2, hk => by
    show bindC kindOf ((p, w) :: P.zip vs) m x = _
    unfold bindC
    exact bindC_get (i := i) (List.nodup_cons.mp nd).2 (by simpa using h1) (by simpa using h2) hk
def start (N : List Str) (vs : List V) : St := vs.map some ++ List.replicate (N.length - vs.length) none
def cxOf (CX : CXT) (P : Program) (w : World) (K : PySem.W.Frag) (mg : Str → Option Value) (base : Heap) (N : List Str) (qual : Str) (scope : Scope) (f : Addr) (cd : Value) (A : Around) (outer : List Env) (s : Shared) (H : Hp) (E : XK) : Cx where
  prog := P
  w := w
  K := K
  mg := mg
  base := base
  A := A.deeper (envOfC qual scope s.heap.objs.size f cd)
  N := N
  s₀ := s
  H₀ := H
  env := envOfC qual scope s.heap.objs.size f cd
  outer := outer
  stack := envOfC qual scope s.heap.objs.size f cd :: outer
  ex := []
  calm := true
  fn := fun _ => true
  pn := []
  xe := fun e s' => wpAny (model P w) (A.deeper (envOfC qual scope s.heap.objs.size f cd)) (leaving (envOfC qual scope s.heap.objs.size f cd) e) (fun _ s'' => CX outer H s E e s'') (fun e' s'' => CX outer H s E e' s'') s'
theorem cell_has {sc : Scope} {n : Nat} {x : Str} (h : sc.names.lookup x = some .cell) : ∃ c, (cellsFrom n sc.names []).lookup x = some c := by
  have q := PySem.W.cellsFrom_some sc.names n [] (.inl h)
  exact Option.isSome_iff_exists.mp q
theorem inv_start {CX : CXT} {P : Program} {w : World} {K : PySem.W.Frag} {mg : Str → Option Value} {base : Heap} {N ps : List Str} {qual : Str} {scope : Scope} {f : Addr} {cd : Value} {A : Around} {outer : List Env} {s s1 : Shared} {H : Hp} {E : XK} {us : List Value} {vs : List V}
    (S : FnScope N ps scope) (hd : A.handled = none) (e0 : Env0 P w K mg base A outer s H) (hl : vs.length = ps.length) (r : Vals vs us)
    (x : InCallC s s.heap.objs.size (bindL (envOfC qual scope s.heap.objs.size f cd).kindOf (ps.zip us) fun _ => none) (cellsFrom (s.heap.objs.size + 1) scope.names []) (bindC (envOfC qual scope s.heap.objs.size f cd).kindOf (ps.zip us) fun _ => none) s1) :
    Inv (cxOf CX P w K mg base N qual scope f cd A outer s H E) [] (start N vs) H s1 := by
  have hpl : ps.length ≤ N.length := by have := congrArg List.length S.pre; rw [List.length_take] at this; omega
  obtain ⟨h1, tk, rfl, hk⟩ := x.done
  have noA : ∀ b : Addr, b ∉ (cxOf CX P w K mg base N qual scope f cd A outer s H E).ex := fun b z => absurd (show b ∈ ([] : List Addr) from z) (by simp)
  refine ⟨⟨e0.mod, S.kind, rfl, rfl, Nat.le_refl _, fun y z c h1 h2 => ?_, fun y hy => ?_, fun y c _ h => ?_, fun _ => hd, Around.frames_deeper e0.frames, .inr ⟨rfl, rfl⟩, fun b z => absurd z (noA b), e0.bs, e0.bsz, fun b _ _ => noA b, fun b z => absurd z (noA b), e0.funs, e0.frf⟩,
    rfl, e0.bare, Un.kept hk, ⟨_, x.toInCall.ns, fun i y v h1 h2 h3 => ?_⟩, fun y c h => ⟨_, x.cell y c h⟩, e0.hok.fresh (Nat.le_refl _), fun y c h => ?_, fun p hp => absurd (show p ∈ ([] : List (Addr × Obj)) from hp) (by simp), e0.hok.kept hk, ?_⟩
  · exact name_of_addr x.apart (PySem.mem_of_lookup h1) (PySem.mem_of_lookup h2)
  · have hy : scope.names.lookup y = some .cell ∨ scope.names.lookup y = some .free := hy
    rcases hy with hy | hy
    · exact cell_has hy
    · exact absurd rfl (S.nofree _ (PySem.mem_of_lookup hy))
  · exact Nat.le_of_lt (x.above y c (PySem.mem_of_lookup h))
  · have hi : i < vs.length := by
      unfold start at h2
      by_cases hi : i < vs.length
      · exact hi
      · rw [List.getElem?_append_right (by simpa using hi)] at h2
        rw [List.getElem?_replicate] at h2
        split at h2 <;> cases h2
    have ha : vs[i]? = some v := by
      unfold start at h2
      rw [List.getElem?_append_left (by simpa using hi), List.getElem?_map] at h2
      cases e : vs[i]? with
      | none => rw [e] at h2; cases h2
      | some a => rw [e] at h2; cases h2; rfl
    obtain ⟨u, hu, rv⟩ := r.get ha
    have hp : ps[i]? = some y := by
      rw [← S.pre, List.getElem?_take_of_lt (by omega)]; exact h1
    have ndP : ps.Nodup := by rw [← S.pre]; exact S.nd.sublist (List.take_sublist _ _)
    refine ⟨u, rv, ?_⟩
    rcases S.par y (List.mem_of_getElem? hp) with k | k
    · exact .inl ⟨k, bindL_get ndP hp hu k⟩
    · obtain ⟨c, e⟩ := cell_has (n := s.heap.objs.size + 1) k
      refine .inr ⟨.inl k, c, e, ?_⟩
      have q := x.cell y c e
      rw [bindC_get ndP hp hu (by show scope.names.lookup y ≠ _; rw [k]; decide)] at q
      exact q
  · exact e0.hok.fresh (Nat.le_of_lt (x.above y c (PySem.mem_of_lookup h)))
  · unfold start
    show _ = N.length
    rw [List.length_append, List.length_map, List.length_replicate]
    omega
theorem fn_of {CX : CXT} {P : Program} {w : World} {K : PySem.W.Frag} {mg : Str → Option Value} {base : Heap} {k : Nat} {f : Addr} {name qual : Str} {params : Arguments} {body : List Stmt} {scope : Scope} {dV kV doc pm cdv ct oc : Value} {an od : Option Addr}
    {osl : Array (Option Value)} {N ps : List Str} {sp : Sp} (lk : K.lookup f = some ⟨oc, od, .func (PySem.W.fnOf name qual params body scope dV kV doc pm an cdv ct), osl⟩) (hcd : PySem.W.codeIn K cdv qual = true) (S : FnScope N ps scope)
    (len : ∀ vs H Q E, sp vs H Q E → vs.length = ps.length)
    (hbody : ∀ (A : Around) (outer : List Env) (s : Shared) (H : Hp) (vs : List V) (Q : VK) (E : XK), Room k (A.deeper (envOfC qual scope s.heap.objs.size f cdv)) → sp vs H Q E →
      ∃ t, PSs (cxOf CX P w K mg base N qual scope f cdv A outer s H E) body t ∧ t { nx := fun _ H' => Q .non H', rt := Q } (start N vs) H) :
    FnOk P w K mg base CX (k + 1) f (PySem.W.fnOf name qual params body scope dV kV doc pm an cdv ct) ps sp := by
  refine ⟨len, fun A outer s H args us vs Q E hr e0 hb r hsp => ?_⟩
  have hl := len _ _ _ _ hsp
  have KX : K.In s.heap := e0.mod.kin.keeps fun b o e => (e0.bs b o e).1
  have lim : s.heap.NoLimit := e0.mod.nolimit.keeps fun b o e => (e0.bs b o e).1
  have hkind : ∀ y ∈ ps.zip us, scope.names.lookup y.1 = some .local ∨ (scope.names.lookup y.1 = some .cell ∧ ((cellsFrom (s.heap.objs.size + 1) scope.names []).lookup y.1).isSome = true) := fun ⟨n, v⟩ hy => by
    rcases S.par n (List.of_mem_zip hy).1 with q | q
    · exact .inl q
    · exact .inr ⟨q, PySem.W.cellsFrom_some _ _ _ (.inl q)⟩
  refine codeAny_call_function hr.depth (KX _ _ lk) rfl S.co S.gen rfl (PySem.W.codeRec_of KX hcd) (hb _ _ _ _ ?_)
  refine wpAny_newFunctionEnv_cells S.kind hkind fun env he s1 x => ?_
  subst he
  refine ⟨lim.keeps x.toInCall.keep, codeAny_func ?_⟩
  obtain ⟨t, ht, hq⟩ := hbody A outer s H vs Q E (hr.deeper _) hsp
  have I : Inv (cxOf CX P w K mg base N qual scope f cdv A outer s H E) [] (start N vs) H s1 := inv_start S hr.hd e0 hl r x
  refine wpAny_mono (ht [] s1 (start N vs) H _ I hq) (fun fl s' hs => ?_) fun e s' hs => hs
  have fin : ∀ {σ' : St} {H' : Hp} {v : V} {u : Value}, Inv (cxOf CX P w K mg base N qual scope f cdv A outer s H E) [] σ' H' s' → RelV v u → Q v H' → CE outer P w H s Q u s' :=
    fun {σ' H' v u} J rv q => ⟨v, H', J.os, J.bare, J.base, J.hok, rv, q⟩
  cases fl with
  | ret u =>
    obtain ⟨v, σ', H', J, rv, q⟩ := hs
    exact fin J rv q
  | next =>
    obtain ⟨σ', H', J, q⟩ := hs
    exact fin (v := V.non) (u := Value.none) J rfl q
  | brk =>
    obtain ⟨_, _, _, q⟩ := hs
    exact False.elim q
  | cont =>
    obtain ⟨_, _, _, q⟩ := hs
    exact False.elim q
end L2
namespace L2
open PySem PySem.Spec PyProof.Rows
section
variable {X : Cx} {x : Str} {p pos : Pos} {e : Expr} {es : List Expr} {t : TA} {id T : String} {r : List V → Hp → VK → Prop}
def tCB (r : List V → Hp → VK → Prop) (t : TA) : TE := fun σ H Q => t σ H fun vs H1 => r vs H1 Q
theorem pe_callB (hc : CallR X (.builtin id) r) (hg : Gl X x) (hm : X.mg x = none) (hv : bootBuiltins x = some (.builtin id)) (ha : PA X (e :: es) t) (hn : x ≠ "__name__" := by decide) (hdb : (x == ("__debug__" : Str)) = false := by decide)
    (he : starEach (e :: es) X.env = (false, eval e X.env) :: starEach es X.env := by rfl) (hpl : (backTo pos (starEach es X.env)).any (·.1) = false := by rfl) : PE X (.Call (.Name x p) (e :: es) [] pos) (tCB r t) := by
  intro pins s σ H Q I h
  refine wpAny_Call_Name_kw (ld_blt I hg hm hv ?_ hn hdb)
  exact PyProof.Rows.callWith_builtin1 (thn (ha pos pins s σ H _ I h) fun us s1 ⟨vs, H1, I1, r1, q1⟩ => hc pins s1 σ H1 vs us Q I1 r1 q1) he hpl
theorem pe_callTy (hc : CallR X (.type T) r) (hg : Gl X x) (hm : X.mg x = none) (hv : bootBuiltins x = some (.type T)) (ha : PA X (e :: es) t) (hn : x ≠ "__name__" := by decide) (hdb : (x == ("__debug__" : Str)) = false := by decide)
    (he : starEach (e :: es) X.env = (false, eval e X.env) :: starEach es X.env := by rfl) (hpl : (backTo pos (starEach es X.env)).any (·.1) = false := by rfl) : PE X (.Call (.Name x p) (e :: es) [] pos) (tCB r t) := by
  intro pins s σ H Q I h
  refine wpAny_Call_Name_kw (ld_blt I hg hm hv ?_ hn hdb)
  exact PyProof.Rows.callWith_type1 (thn (ha pos pins s σ H _ I h) fun us s1 ⟨vs, H1, I1, r1, q1⟩ => hc pins s1 σ H1 vs us Q I1 r1 q1) he hpl
end
end L2
namespace HT
open PySem PyProof.Rows
section
open PySem.SeqAt
open PySem.AutoSeq1 (wpAny_loadPart')
open PySem.MeetsSeq PySem.MeetsSeq2 PySem.MeetsSeq3
end
section
variable {prog : Program} {w : World} {A : Around} {E : Value → Shared → Prop} {s : Shared}
theorem cat_tup {t b : Addr} {vs ws : List Value} {Q : Value → Shared → Prop} (ht : IsTup s.heap t vs.toArray) (hb : IsTup s.heap b ws.toArray) (hv : vs ≠ [])
    (h1 : ws = [] → Q (.ref t) s) (h2 : ws ≠ [] → Q (.ref s.heap.objs.size) { s with heap := s.heap.push { cls := .type "tuple", data := .seq (vs ++ ws).toArray } })
    (hsz : vs.length + ws.length ≤ sizeLine) : wpAny (model prog w) A (binaryOp .Add (.ref t) (.ref b)) Q E s := by
  obtain ⟨⟨cls, dd, data, sl⟩, ho, hc, n, hd⟩ := id ht
  obtain ⟨⟨cls2, dd2, data2, sl2⟩, ho2, hc2, n2, hd2⟩ := id hb
  simp only at hc hd hc2 hd2
  subst hc hd hc2 hd2
  have e : vs.toArray ++ ws.toArray = (vs ++ ws).toArray := by simp
  by_cases hw : ws = []
  · exact concat_meets ⟨_, ho, rfl⟩ ⟨_, ho2, rfl⟩ noFill_tuple_add seq_tuple_add PySem.F.slot_tuple_add PySem.F.entry_tuple_add (PySem.F.args_tuple_add_2 _ _)
      (tuple_addW1 t b vs.toArray ws.toArray n n2 dd dd2 sl sl2 (by simpa using hv) (by simp [hw])) ⟨ho, ho2, h1 hw⟩
  · refine concat_meets ⟨_, ho, rfl⟩ ⟨_, ho2, rfl⟩ noFill_tuple_add seq_tuple_add PySem.F.slot_tuple_add PySem.F.entry_tuple_add (PySem.F.args_tuple_add_2 _ _)
      (tuple_addW2 t b vs.toArray ws.toArray n n2 dd dd2 sl sl2 (by simpa using hv) (by simpa using hw) (by rw [List.size_toArray, List.size_toArray]; exact hsz)) ⟨ho, ho2, ?_⟩
    rw [e]
    exact h2 hw
def sIx (n d : Nat) : Option Int → Nat
  | none => d
  | some v => if v < 0 then (v + (n : Int)).toNat else min v.toNat n
theorem sIx_le (n d : Nat) (hd : d ≤ n) (o : Option Int) : sIx n d o ≤ n := by
  cases o with
  | none => exact hd
  | some v =>
    show (if v < 0 then (v + (n : Int)).toNat else min v.toNat n) ≤ n
    by_cases hv : v < 0
    · rw [if_pos hv]; omega
    · rw [if_neg hv]; exact Nat.min_le_right _ _
theorem clip_eq (v : Int) (n d : Nat) : (if v < 0 then max (v + (n : Int)) 0 else min v (n : Int)) = ((sIx n d (some v) : Nat) : Int) := by
  show (if v < 0 then max (v + (n : Int)) 0 else min v (n : Int)) = (((if v < 0 then (v + (n : Int)).toNat else min v.toNat n) : Nat) : Int)
  by_cases hv : v < 0
  · simp only [if_pos hv]; omega
  · simp only [if_neg hv]; omega
theorem adjust_gen (lo hi : Option Int) (n : Nat) : Builtin.Slice.sliceAdjust lo hi 1 (n : Int) = (((sIx n 0 lo : Nat) : Int), ((sIx n n hi : Nat) : Int)) := by
  have h1 : ¬ ((1 : Int) < 0) := by omega
  unfold Builtin.Slice.sliceAdjust
  simp only [h1, if_false]
  refine Prod.ext ?_ ?_
  · cases lo with
    | none => rfl
    | some v => exact clip_eq v n 0
  · cases hi with
    | none => rfl
    | some v => exact clip_eq v n n
theorem places_gen (i j : Nat) : Builtin.Slice.slicePlaces (i : Int) (j : Int) 1 = j - i := by
  unfold Builtin.Slice.slicePlaces
  have h1 : (1 : Int) > 0 := by omega
  simp only [h1, if_true, Int.ediv_one]
  split <;> omega
theorem slicePart_ {v : Value} {o : Option Int} {Q : Option Int → Shared → Prop} (p : IsPart v o) (h : Q o s) : wpAny (model prog w) A (Builtin.Slice.slicePartIndex v) Q E s := by
  cases p with
  | none => exact slicePart_none h
  | int i t => exact slicePart_int h
theorem sliceApplied_gen {sl : Addr} {vl vu : Value} {lo hi : Option Int} {n : Nat} {Q : Int × Int × Nat → Shared → Prop} (hs : s.heap.IsSliceOf sl vl vu .none) (pl : IsPart vl lo) (pu : IsPart vu hi)
    (h : Q (((sIx n 0 lo : Nat) : Int), 1, sIx n n hi - sIx n 0 lo) s) : wpAny (model prog w) A (Builtin.Slice.sliceApplied (.ref sl) (pure (n : Int))) Q E s := by
  obtain ⟨os, hos, hcs, hds⟩ := id hs
  unfold Builtin.Slice.sliceApplied Builtin.Slice.sliceFields
  refine wpAny_bind (wpAny_bind (wpAny_field hos hds (x := vl) rfl (wpAny_bind (wpAny_field hos hds (x := vu) rfl (wpAny_bind (wpAny_field hos hds (x := .none) rfl (wpAny_pure ?_)))))))
  refine wpAny_bind (slicePart_none ?_)
  show wpAny _ _ (if ((1 : Int) == 0) = true then _ else _) _ _ s
  rw [if_neg (by decide)]
  refine wpAny_bind (slicePart_ pl (wpAny_bind (slicePart_ pu (wpAny_bind (wpAny_pure ?_)))))
  show wpAny _ _ (match Builtin.Slice.sliceAdjust lo hi 1 (n : Int) with | (lo, hi) => pure (lo, (1 : Int), Builtin.Slice.slicePlaces lo hi 1)) _ _ s
  rw [adjust_gen lo hi n]
  show wpAny _ _ (pure (((sIx n 0 lo : Nat) : Int), (1 : Int), Builtin.Slice.slicePlaces ((sIx n 0 lo : Nat) : Int) ((sIx n n hi : Nat) : Int) 1)) _ _ s
  rw [places_gen]
  exact wpAny_pure h
theorem pick_gen (xs : Array Value) (i k : Nat) : ((List.range k).filterMap fun (m : Nat) => xs[((i : Int) + (m : Int) * 1).toNat]?).toArray = ((xs.toList.drop i).take k).toArray := by
  have e : (fun (m : Nat) => xs[((i : Int) + (m : Int) * 1).toNat]?) = fun m => xs[i + m]? := by
    funext m
    have : ((i : Int) + (m : Int) * 1).toNat = i + m := by omega
    rw [this]
  rw [e]
  have := pick_run xs i k
  rw [List.filterMap_map] at this
  have e2 : ((fun x => xs[x]?) ∘ fun x => i + x) = fun m => xs[i + m]? := rfl
  rw [e2] at this
  rw [this]
theorem getItem_tuple_cut {t sl : Addr} {items : Array Value} {vl vu : Value} {lo hi : Option Int} {Q : Value → Shared → Prop} (ht : IsTup s.heap t items) (hs : s.heap.IsSliceOf sl vl vu .none) (pl : IsPart vl lo) (pu : IsPart vu hi)
    (hw : ¬ (sIx items.size 0 lo = 0 ∧ sIx items.size items.size hi = items.size))
    (h : Q (.ref s.heap.objs.size) { s with heap := s.heap.push { cls := .type "tuple", data := .seq ((items.toList.drop (sIx items.size 0 lo)).take (sIx items.size items.size hi - sIx items.size 0 lo)).toArray } })
    (hsz : items.size ≤ sizeLine) : wpAny (model prog w) A (getItem (.ref t) (.ref sl)) Q E s := by
  have htake : sizeOk (.seq ((items.toList.drop (sIx items.size 0 lo)).take (sIx items.size items.size hi - sIx items.size 0 lo)).toArray) := by
    show ((items.toList.drop (sIx items.size 0 lo)).take (sIx items.size items.size hi - sIx items.size 0 lo)).toArray.size ≤ sizeLine
    rw [List.size_toArray, List.length_take, List.length_drop, Array.length_toList]
    omega
  have hj : sIx items.size items.size hi ≤ items.size := sIx_le _ _ (Nat.le_refl _) hi
  obtain ⟨os, hos, hcs, hds⟩ := id hs
  have hTs : s.TypeIs (.ref sl) "slice" := ⟨os, hos, hcs⟩
  unfold getItem
  try with_reducible refine wpAny_holding ?_
  first | refine wpAny_bind (wpAny_pure ?_) | skip
  refine wpAny_bind (wpAny_sequenceKey ht.typeIs (by decide) ?_)
  refine wpAny_bind (wpAny_callSpecial?_slot (name := Str.ofString "__getitem__") ht.typeIs PyProof.Rows.slot_tuple_getitem
    (wpAny_call_entry PyProof.Rows.slot_tuple_getitem ht.typeIs entry_tuple_getitem ?_ (args_tuple_getitem _ _)))
  show wpAny _ _ (Builtin.Tuple.tupleItemsOf (.ref t) >>= _) _ _ s
  refine wpAny_bind (tupleItemsOf_ ht ?_)
  refine wpAny_bind (wpAny_typeOf hTs ?_)
  rw [if_pos (by decide)]
  refine wpAny_bind (sliceApplied_gen hs pl pu ?_)
  have hno : ¬ ((((sIx items.size 0 lo : Nat) : Int) == 0 && (1 : Int) == 1 && (sIx items.size items.size hi - sIx items.size 0 lo) == items.size) = true) := by
    intro q
    rw [Bool.and_eq_true, Bool.and_eq_true] at q
    have q1 : ((sIx items.size 0 lo : Nat) : Int) = 0 := eq_of_beq q.1.1
    have q2 : sIx items.size items.size hi - sIx items.size 0 lo = items.size := eq_of_beq q.2
    exact hw ⟨by omega, by omega⟩
  show wpAny _ _ (if (((sIx items.size 0 lo : Nat) : Int) == 0 && (1 : Int) == 1 && (sIx items.size items.size hi - sIx items.size 0 lo) == items.size) = true then _ else _) _ _ s
  rw [if_neg hno, pick_gen]
  first
    | exact wpAny_bind (m := Builtin.Tuple.tupleExact _) (wpAny_newObj_type (wpAny_pure ⟨_, rfl, wpAny_pure h⟩) htake)
    | exact wpAny_bind (m := Builtin.Tuple.tupleExact _) (wpAny_newObj_type (wpAny_bind (wpAny_pure (wpAny_pure ⟨_, rfl, wpAny_pure h⟩))) htake)
    | exact wpAny_bind (wpAny_bind (m := Builtin.Tuple.tupleExact _) (wpAny_newObj_type (wpAny_pure (wpAny_pure ⟨_, rfl, wpAny_pure h⟩)) htake))
    | exact wpAny_bind (wpAny_bind (m := Builtin.Tuple.tupleExact _) (wpAny_newObj_type (wpAny_pure ⟨_, rfl, wpAny_pure h⟩) htake))
end
end HT
namespace L2
open PySem PySem.Spec PyProof.Rows
abbrev TO := St → Hp → (Option Int → Hp → Prop) → Prop
def PO (X : Cx) (e : Option Expr) (t : TO) : Prop :=
  ∀ (pins : List (Addr × Obj)) (s : Shared) (σ : St) (H : Hp) (Q : Option Int → Hp → Prop), Inv X pins σ H s → t σ H Q →
    wpAny (model X.prog X.w) X.A (evalPart e X.env) (fun u s' => ∃ o H', Inv X pins σ H' s' ∧ IsPart u o ∧ Q o H') X.xe s
def tNoPart : TO := fun _ H Q => Q none H
def tPart (t : TE) : TO := fun σ H Q => t σ H fun x H1 => ∃ i, x = .int i ∧ Q (some i) H1
section
variable {X : Cx} {e : Expr} {te : TE} {lo hi : Option Expr} {tl th : TO} {pos p2 : Pos}
theorem po_none : PO X none tNoPart := by
  intro pins s σ H Q I h
  rw [evalPart_none]
  exact wpAny_pure ⟨none, H, I, .none, h⟩
theorem po_some (h : PE X e te) : PO X (some e) (tPart te) := by
  intro pins s σ H Q I hw
  rw [evalPart_some]
  refine thn (h pins s σ H _ I hw) fun u s1 ⟨x, H1, I1, r1, q1⟩ => ?_
  obtain ⟨i, rfl, q⟩ := q1
  obtain ⟨t, rfl⟩ := r1
  exact ⟨some i, H1, I1, .int i t, q⟩
def SlR (X : Cx) (r : V → Option Int → Option Int → Hp → VK → Prop) : Prop :=
  ∀ (pins : List (Addr × Obj)) (s : Shared) (σ : St) (H : Hp) (x : V) (v vl vu : Value) (lo hi : Option Int) (sl : Addr) (Q : VK), Inv X pins σ H s → RelV x v → s.heap.IsSliceOf sl vl vu .none → IsPart vl lo → IsPart vu hi → r x lo hi H Q →
    ∃ T id, typeLookup (.type T) "__getitem__" = pure (some (.builtin id)) ∧ s.TypeIs v T ∧ wpAny (model X.prog X.w) X.A (getItem v (.ref sl)) (EP X pins σ Q) X.xe s
theorem SlR.or {r r' : V → Option Int → Option Int → Hp → VK → Prop} (h : SlR X r) (h' : SlR X r') : SlR X (fun x lo hi H Q => r x lo hi H Q ∨ r' x lo hi H Q) := by
  intro pins s σ H x v vl vu lo hi sl Q I rx hs pl pu q
  rcases q with q | q
  · exact h pins s σ H x v vl vu lo hi sl Q I rx hs pl pu q
  · exact h' pins s σ H x v vl vu lo hi sl Q I rx hs pl pu q
def tSl (r : V → Option Int → Option Int → Hp → VK → Prop) (te : TE) (tl th : TO) : TE := fun σ H Q => te σ H fun x H1 => tl σ H1 fun l H2 => th σ H2 fun u H3 => r x l u H3 Q
theorem pe_slice {r : V → Option Int → Option Int → Hp → VK → Prop} (hr : SlR X r) (he : PE X e te) (hl : PO X lo tl) (hu : PO X hi th) : PE X (.Subscript e (.Slice lo hi none p2) pos) (tSl r te tl th) := by
  intro pins s σ H Q I h
  refine Subscript_ (thn (he pins s σ H _ I h) fun v s1 ⟨x, H1, I1, r1, q1⟩ => ?_)
  refine wpAny_Slice (thn (hl pins s1 σ H1 _ I1 q1) fun vl s2 ⟨l, H2, I2, pl, q2⟩ => thn (hu pins s2 σ H2 _ I2 q2) fun vu s3 ⟨u, H3, I3, pu, q3⟩ => ?_)
  rw [evalPart_none]
  refine wpAny_pure ?_
  have I4 : Inv X pins σ H3 { s3 with heap := s3.heap.push { cls := .type "slice", data := .fields #[vl, vu, .none] } } := I3.kept (t' := s3.toks) fun b ob q => Heap.get?_push_of_some _ q
  obtain ⟨T, id, hT, ht, hg⟩ := hr pins { s3 with heap := s3.heap.push { cls := .type "slice", data := .fields #[vl, vu, .none] } } σ H3 x v vl vu l u s3.heap.objs.size Q I4 r1 (Heap.IsSliceOf.new ..) pl pu q3
  show wpAny (model X.prog X.w) X.A (subscriptTail e (.Slice lo hi none p2) v (.ref s3.heap.objs.size)) (EP X pins σ Q) X.xe { s3 with heap := s3.heap.push { cls := .type "slice", data := .fields #[vl, vu, .none] } }
  exact tail_any (ops := [.ref s3.heap.objs.size, v]) ht hT hg (by with_unfolding_all rfl)
def cutV (xs : List V) (lo hi : Option Int) : List V := (xs.drop (HT.sIx xs.length 0 lo)).take (HT.sIx xs.length xs.length hi - HT.sIx xs.length 0 lo)
theorem cutV_length (xs : List V) (lo hi : Option Int) : (cutV xs lo hi).length ≤ xs.length := by
  unfold cutV
  rw [List.length_take, List.length_drop]
  omega
def rSlT (K : PySem.W.Frag) : V → Option Int → Option Int → Hp → VK → Prop := fun x lo hi H Q => ∃ a xs, x = .ref a ∧ SqT K H a xs ∧
  ¬ (HT.sIx xs.length 0 lo = 0 ∧ HT.sIx xs.length xs.length hi = xs.length) ∧ ∀ p, H p = none → Q (.ref p) (upd H p (.tup (cutV xs lo hi)))
theorem sl_tup : SlR X (rSlT X.K) := by
  intro pins s σ H x v vl vu lo hi sl Q I rx hs pl pu h
  obtain ⟨a, xs, rfl, hx, hw, q⟩ := h
  cases rx
  obtain ⟨its, r, ht, hz⟩ := I.tuple hx
  have hlen : its.toArray.size = xs.length := by rw [List.size_toArray]; exact r.length.symm
  refine ⟨"tuple", _, PyProof.Rows.slot_tuple_getitem.lookup, ht.typeIs, ?_⟩
  refine HT.getItem_tuple_cut ht hs pl pu (by rw [hlen]; exact hw) ?_ (by rw [hlen]; exact hz)
  rw [hlen]
  refine ⟨.ref s.heap.objs.size, _, I.laid (t' := s.toks) (o := .tup (cutV xs lo hi)) (fun b ob q => Heap.get?_push_of_some _ q) (Nat.le_refl _) ?_, rfl, q _ (I.hok.fresh (Nat.le_refl _))⟩
  exact ⟨⟨Nat.le_trans (cutV_length xs lo hi) hz, NoD.new _ _ _⟩, _, (r.drop (HT.sIx xs.length 0 lo)).take (HT.sIx xs.length xs.length hi - HT.sIx xs.length 0 lo), IsTup.new _ _⟩
def rCatT (K : PySem.W.Frag) : R2 := fun x y H Q => ∃ a b xs ys, x = .ref a ∧ y = .ref b ∧ SqT K H a xs ∧ SqT K H b ys ∧ xs ≠ [] ∧ xs.length + ys.length ≤ sizeLine ∧
  (ys = [] → Q (.ref a) H) ∧ (ys ≠ [] → ∀ p, H p = none → Q (.ref p) (upd H p (.tup (xs ++ ys))))
theorem Vals.nil_iff {xs : List V} {us : List Value} (r : Vals xs us) : us = [] ↔ xs = [] := by
  cases r with
  | nil => simp
  | cons _ _ => simp
theorem op_catT : OpR X (binaryOp .Add) (rCatT X.K) := by
  intro pins s σ H x y v u Q I rx ry h
  obtain ⟨a, b, xs, ys, rfl, rfl, ha, hb, hx, hz, q1, q2⟩ := h
  cases rx
  cases ry
  obtain ⟨its, r1, p1, _⟩ := I.tuple ha
  obtain ⟨its2, r2, p2, _⟩ := I.tuple hb
  refine HT.cat_tup p1 p2 (fun z => hx (r1.nil_iff.mp z)) (fun z => ⟨.ref a, H, I, rfl, q1 (r2.nil_iff.mp z)⟩) (fun z => ?_) (by rw [← r1.length, ← r2.length]; exact hz)
  refine ⟨.ref s.heap.objs.size, _, I.laid (t' := s.toks) (o := .tup (xs ++ ys)) (fun b ob q => Heap.get?_push_of_some _ q) (Nat.le_refl _) ?_, rfl, q2 (fun w => z (r2.nil_iff.mpr w)) _ (I.hok.fresh (Nat.le_refl _))⟩
  exact ⟨⟨by rw [List.length_append]; exact hz, NoD.new _ _ _⟩, _, r1.append r2, IsTup.new _ _⟩
end
end L2
namespace L2
open PySem PySem.Spec PyProof.Rows
def ixN (n : Nat) (i : Int) : Option Nat := if 0 ≤ i then (if i < n then some i.toNat else none) else if -(n : Int) ≤ i then some (i + n).toNat else none
def atI {α : Type} (xs : List α) (i : Int) : Option α := (ixN xs.length i).bind fun j => xs[j]?
theorem ixN_seq {n : Nat} {i : Int} {j : Nat} (h : ixN n i = some j) : seqIndex? i n = some j ∧ j < n ∧ -(n : Int) ≤ i ∧ i < n := by
  unfold ixN at h
  by_cases h0 : 0 ≤ i
  · rw [if_pos h0] at h
    by_cases h1 : i < n
    · rw [if_pos h1] at h
      have e : i.toNat = j := Option.some.inj h
      exact ⟨by rw [seqIndex_of h0 h1, e], by omega, by omega, h1⟩
    · rw [if_neg h1] at h; cases h
  · rw [if_neg h0] at h
    by_cases h1 : -(n : Int) ≤ i
    · rw [if_pos h1] at h
      have e : (i + n).toNat = j := Option.some.inj h
      exact ⟨by rw [seqIndex_neg (by omega) h1, e], by omega, h1, by omega⟩
    · rw [if_neg h1] at h; cases h
theorem atI_get {α : Type} {xs : List α} {i : Int} {v : α} (h : atI xs i = some v) : ∃ j, seqIndex? i xs.length = some j ∧ xs[j]? = some v ∧ j < xs.length ∧ -(xs.length : Int) ≤ i ∧ i < xs.length := by
  unfold atI at h
  cases e : ixN xs.length i with
  | none => rw [e] at h; cases h
  | some j =>
    rw [e] at h
    obtain ⟨h1, h2, h3, h4⟩ := ixN_seq e
    exact ⟨j, h1, h, h2, h3, h4⟩
theorem atI_nat {α : Type} {xs : List α} {j : Nat} {v : α} (h : xs[j]? = some v) : atI xs (j : Int) = some v := by
  have hj : j < xs.length := (List.getElem?_eq_some_iff.mp h).1
  have e : ixN xs.length (j : Int) = some j := by
    unfold ixN
    rw [if_pos (by omega), if_pos (by omega)]; simp
  unfold atI; rw [e]; exact h
def PlainIx (b : Expr) : Prop := ∀ o i, subscripted b false o i = operate [o, i] (getItem o i)
def IxR (X : Cx) (r : R2) : Prop :=
  ∀ (value slice : Expr) (pins : List (Addr × Obj)) (s : Shared) (σ : St) (H : Hp) (x y : V) (v u : Value) (Q : VK), Inv X pins σ H s → RelV x v → RelV y u → r x y H Q →
    subscripted slice false v u = operate [v, u] (getItem v u) → wpAny (model X.prog X.w) X.A (subscriptTail value slice v u) (EP X pins σ Q) X.xe s
def MtR (X : Cx) (id : String) (r : V → List V → Hp → VK → Prop) : Prop :=
  ∀ (pins : List (Addr × Obj)) (s : Shared) (σ : St) (H : Hp) (x : V) (xs : List V) (v : Value) (us : List Value) (Q : VK), Inv X pins σ H s → RelV x v → Vals xs us → r x xs H Q →
    wpAny (model X.prog X.w) X.A (call (.builtin id) (v :: us)) (EP X pins σ Q) X.xe s
section
variable {X : Cx} {a b : Expr} {ta tb : TE} {pos : Pos}
theorem IxR.or {r r' : R2} (h : IxR X r) (h' : IxR X r') : IxR X (fun x y H Q => r x y H Q ∨ r' x y H Q) := by
  intro value slice pins s σ H x y v u Q I rx ry q hs
  rcases q with q | q
  · exact h value slice pins s σ H x y v u Q I rx ry q hs
  · exact h' value slice pins s σ H x y v u Q I rx ry q hs
theorem MtR.or {id : String} {r r' : V → List V → Hp → VK → Prop} (h : MtR X id r) (h' : MtR X id r') : MtR X id (fun x xs H Q => r x xs H Q ∨ r' x xs H Q) := by
  intro pins s σ H x xs v us Q I rx rs q
  rcases q with q | q
  · exact h pins s σ H x xs v us Q I rx rs q
  · exact h' pins s σ H x xs v us Q I rx rs q
theorem pe_ix {r : R2} (hr : IxR X r) (ha : PE X a ta) (hb : PE X b tb) (hs : PlainIx b) : PE X (.Subscript a b pos) (tOp r ta tb) := by
  intro pins s σ H Q I h
  exact Subscript_ (binT ha hb I h fun v u s2 x y H2 I2 rx ry q => hr a b pins s2 σ H2 x y v u Q I2 rx ry q (hs _ _))
def rIxL (K : PySem.W.Frag) : R2 := fun x y H Q => ∃ p xs i v, x = .ref p ∧ y = .int i ∧ SqL K H p xs ∧ atI xs i = some v ∧ Q v H
def rIxT (K : PySem.W.Frag) : R2 := fun x y H Q => ∃ p xs i v, x = .ref p ∧ y = .int i ∧ SqT K H p xs ∧ atI xs i = some v ∧ Q v H
def rIxS : R2 := fun x y H Q => ∃ z i c, x = .str z ∧ y = .int i ∧ z.length ≤ sizeLine ∧ atI z.cps.toList i = some c ∧ Q (.str ⟨#[c]⟩) H
theorem ix_list : IxR X (rIxL X.K) := by
  intro value slice pins s σ H x y v u Q I rx ry h hs
  obtain ⟨p, xs, i, z, rfl, rfl, hq, he, q⟩ := h
  cases rx
  obtain ⟨t, rfl⟩ := ry
  obtain ⟨its, r, pl, hz⟩ := I.list hq
  obtain ⟨j, h1, h2, h3, h4, h5⟩ := atI_get he
  obtain ⟨w, ew, rw'⟩ := r.get h2
  have hl := r.length
  have hn := line63
  have fin : EP X pins σ Q w s := ⟨z, H, I, rw', q⟩
  by_cases h0 : 0 ≤ i
  · have hj : i.toNat = j := by
      rw [seqIndex_of h0 h5] at h1
      exact Option.some.inj h1
    exact item_listR pl.isList h0 (by omega) (by rw [hj]; simpa using ew) fin hs
  · have hj : (i + (its.toArray.size : Int)).toNat = j := by
      rw [seqIndex_neg (by omega) h4] at h1
      rw [List.size_toArray, ← hl]
      exact Option.some.inj h1
    exact subscriptTail_builtinR (x := w) pl.isList.typeIs slot_list_getitem.lookup
      (wpAny_getItem_list_neg (Q := fun r s' => r = w ∧ EP X pins σ Q r s') pl.isList (by omega) (by rw [List.size_toArray] <;> omega) (by omega) (by rw [hj]; simpa using ew) ⟨rfl, fin⟩) hs
theorem ix_tup : IxR X (rIxT X.K) := by
  intro value slice pins s σ H x y v u Q I rx ry h hs
  obtain ⟨p, xs, i, z, rfl, rfl, hq, he, q⟩ := h
  cases rx
  obtain ⟨t, rfl⟩ := ry
  obtain ⟨its, r, pl, hz⟩ := I.tuple hq
  obtain ⟨j, h1, h2, h3, h4, h5⟩ := atI_get he
  obtain ⟨w, ew, rw'⟩ := r.get h2
  have hl := r.length
  have hn := line63
  have fin : EP X pins σ Q w s := ⟨z, H, I, rw', q⟩
  exact subscriptTail_builtinR (x := w) pl.typeIs slot_tuple_getitem.lookup
    (getItem_tuple (j := j) (Q := fun r s' => r = w ∧ EP X pins σ Q r s') pl (by omega) (by omega) (by rw [List.size_toArray, ← hl]; exact h1) (by simpa using ew) ⟨rfl, fin⟩) hs
theorem ix_str : IxR X rIxS := by
  intro value slice pins s σ H x y v u Q I rx ry h hs
  obtain ⟨z, i, c, rfl, rfl, hz, he, q⟩ := h
  obtain ⟨t, rfl⟩ := rx
  obtain ⟨t', rfl⟩ := ry
  obtain ⟨j, h1, h2, h3, h4, h5⟩ := atI_get he
  have hl : z.cps.toList.length = z.length := by simp [Str.length]
  rw [hl] at h1 h4 h5
  have hn := line63
  exact tail_any (typeIs_str s z t) slot_str_getitem.lookup (getItem_str (c := c) (by
    have e1 : decide (i < -(2 ^ 63 : Int)) = false := decide_eq_false (by omega)
    have e2 : decide (i ≥ 2 ^ 63) = false := decide_eq_false (by omega)
    rw [e1, e2, Bool.or_false]) (by rw [h1]; simpa using h2) ⟨.str ⟨#[c]⟩, H, I.tok _, ⟨_, rfl⟩, q⟩) hs
def rIx (K : PySem.W.Frag) : R2 := fun x y H Q => rIxL K x y H Q ∨ rIxT K x y H Q ∨ rIxS x y H Q
theorem ix_seq : IxR X (rIx X.K) := ix_list.or (ix_tup.or ix_str)
theorem mapSeq_set (its : List Value) (n j : Nat) (u : Value) : Obj.mapSeq (·.setIfInBounds j u) { cls := .type "list", data := .seq its.toArray n } = { cls := .type "list", data := .seq (its.set j u).toArray n } := by
  simp [Obj.mapSeq]
theorem Inv.lst {pins : List (Addr × Obj)} {σ : St} {H : Hp} {s : Shared} {p : Addr} {xs : List V} (I : Inv X pins σ H s) (h : H p = some (.lst xs)) :
    ∃ (its : List Value) (n : Nat), Vals xs its ∧ s.heap.get? p = some { cls := .type "list", data := .seq its.toArray n } ∧ xs.length ≤ sizeLine := by
  obtain ⟨z, its, n, r, e⟩ := I.hok p _ h
  exact ⟨its, n, r, e, z⟩
theorem Inv.lstUpd {pins : List (Addr × Obj)} {σ : St} {H : Hp} {s : Shared} {p : Addr} {xs ys : List V} {its its' : List Value} {n n' : Nat} {f : Obj → Obj} (I : Inv X pins σ H s) (h : H p = some (.lst xs))
    (ho : s.heap.get? p = some { cls := .type "list", data := .seq its.toArray n }) (hf : f { cls := .type "list", data := .seq its.toArray n } = { cls := .type "list", data := .seq its'.toArray n' }) (r : Vals ys its') (hz : ys.length ≤ sizeLine) (t : Nat) :
    Inv X pins σ (upd H p (.lst ys)) { s with heap := s.heap.update p f, toks := t } := by
  have e : (s.heap.update p f).get? p = some { cls := .type "list", data := .seq its'.toArray n' } := by
    rw [Heap.get?_update_self f ho (by rw [hf] <;> rfl), hf]
  refine I.write (x := p) (e := p) (by rw [h]; trivial) (.inl rfl) (fun b u hb q => (Heap.get?_update_other _ _ (Ne.symm hb)).trans q) ⟨_, e⟩ ?_
  exact ⟨hz, its', n', r, e⟩
def rSetL : V → V → V → Hp → (Hp → Prop) → Prop := fun o i v H Q => ∃ p xs k j, o = .ref p ∧ i = .int k ∧ H p = some (.lst xs) ∧ ixN xs.length k = some j ∧ Q (upd H p (.lst (xs.set j v)))
theorem set_list : PSet X rSetL := by
  intro pins s σ H o i v ov iv u Q I ro ri rv h
  obtain ⟨p, xs, k, j, rfl, rfl, hp, hj, q⟩ := h
  cases ro
  obtain ⟨t, rfl⟩ := ri
  obtain ⟨its, n, r, ho, hz⟩ := I.lst hp
  obtain ⟨h1, h2, h3, h4⟩ := ixN_seq hj
  have hl := r.length
  have hn := line63
  have I' : Inv X pins σ (upd H p (.lst (xs.set j v))) { s with heap := s.heap.update p (Obj.mapSeq (·.setIfInBounds j u)) } :=
    I.lstUpd hp ho (mapSeq_set its n j u) (r.set rv j) (by rw [List.length_set]; exact hz) s.toks
  by_cases h0 : 0 ≤ k
  · have hk : k.toNat = j := by
      rw [seqIndex_of h0 h4] at h1
      exact Option.some.inj h1
    exact PySem.W.ki_setAt ho h0 (by omega) (by rw [List.size_toArray, ← hl]; exact h4) (by rw [hk]; exact ⟨_, I', q⟩)
  · have hk : (k + (its.toArray.size : Int)).toNat = j := by
      rw [seqIndex_neg (by omega) h3] at h1
      rw [List.size_toArray, ← hl]
      exact Option.some.inj h1
    exact PySem.W.ki_setBack ho (by omega) (by rw [List.size_toArray, ← hl]; exact h3) (by omega) (by rw [hk]; exact ⟨_, I', q⟩)
theorem slice_bounds (lo hi : Option Int) (n : Nat) : (sliceBounds lo hi none n).1 = ((HT.sIx n 0 lo : Nat) : Int) ∧ (sliceBounds lo hi none n).2.1 = ((HT.sIx n n hi : Nat) : Int) ∧ (sliceBounds lo hi none n).2.2 = 1 := by
  refine ⟨?_, ?_, rfl⟩
  · cases lo with
    | none => simp [sliceBounds, HT.sIx]
    | some i =>
      simp only [sliceBounds, HT.sIx, Option.getD_none, show (1 : Int) > 0 by decide, if_true]
      by_cases h : i < 0
      · simp only [h, if_true] <;> omega
      · simp only [h, if_false] <;> omega
  · cases hi with
    | none => simp [sliceBounds, HT.sIx]
    | some i =>
      simp only [sliceBounds, HT.sIx, Option.getD_none, show (1 : Int) > 0 by decide, if_true]
      by_cases h : i < 0
      · simp only [h, if_true] <;> omega
      · simp only [h, if_false] <;> omega
theorem slicePick_cut (its : List Value) (lo hi : Option Int) : slicePick its.toArray lo hi none = ((its.drop (HT.sIx its.length 0 lo)).take (HT.sIx its.length its.length hi - HT.sIx its.length 0 lo)).toArray := by
  obtain ⟨h1, h2, h3⟩ := slice_bounds lo hi its.toArray.size
  unfold slicePick
  rw [h1, h2, h3]
  simp only [sliceRange_one, pick_run, List.size_toArray] <;> rfl
def rSlL (K : PySem.W.Frag) : V → Option Int → Option Int → Hp → VK → Prop := fun x lo hi H Q => ∃ a xs, x = .ref a ∧ SqL K H a xs ∧ ∀ p, H p = none → Q (.ref p) (upd H p (.lst (cutV xs lo hi)))
theorem sl_list : SlR X (rSlL X.K) := by
  intro pins s σ H x v vl vu lo hi sl Q I rx hs pl pu h
  obtain ⟨a, xs, rfl, hx, q⟩ := h
  cases rx
  obtain ⟨its, r, ht, hz⟩ := I.list hx
  have hlen := r.length
  refine ⟨"list", _, slot_list_getitem.lookup, ht.isList.typeIs, ?_⟩
  refine wpAny_getItem_list_slice ht.isList hs pl pu .none (by simp) ?_ (by rw [List.size_toArray] <;> omega)
  rw [slicePick_cut, ← hlen]
  refine ⟨.ref s.heap.objs.size, _, I.laid (t' := s.toks) (o := .lst (cutV xs lo hi)) (fun b ob q => Heap.get?_push_of_some _ q) (Nat.le_refl _) ?_, rfl, q _ (I.hok.fresh (Nat.le_refl _))⟩
  exact ⟨Nat.le_trans (cutV_length xs lo hi) hz, _, 0, (r.drop (HT.sIx xs.length 0 lo)).take (HT.sIx xs.length xs.length hi - HT.sIx xs.length 0 lo), Heap.get?_push_size _ rfl⟩
def flatV : V → Bool
  | .non => true
  | .bl _ => true
  | .int _ => true
  | .str _ => true
  | _ => false
def eqV : V → V → Bool
  | .non, .non => true
  | .bl a, .bl b => a == b
  | .bl a, .int b => (if a then 1 else 0) == b
  | .int a, .bl b => a == (if b then 1 else 0)
  | .int a, .int b => a == b
  | .str a, .str b => a == b
  | _, _ => false
theorem eqAt_V {A : Around} {s : Shared} {y x : V} {u v : Value} (ry : RelV y u) (rx : RelV x v) (fy : flatV y = true) (fx : flatV x = true) : SeqAt.EqAt A s u v (eqV y x) := by
  cases y with
  | non =>
    cases ry
    cases x with
    | non => cases rx; exact SeqAt.EqAt.same _
    | bl b => cases rx; exact SeqAt.EqAt.none_bool b
    | int b => obtain ⟨t, rfl⟩ := rx; exact SeqAt.EqAt.none_int b t
    | str b => obtain ⟨t, rfl⟩ := rx; exact SeqAt.EqAt.none_str b t
    | _ => exact absurd (show false = true from fx) Bool.false_ne_true
  | bl a =>
    cases ry
    cases x with
    | non => cases rx; exact SeqAt.EqAt.bool_none a
    | bl b => cases rx; exact SeqAt.EqAt.bool_bool a b
    | int b => obtain ⟨t, rfl⟩ := rx; exact SeqAt.EqAt.bool_int a b t
    | str b => obtain ⟨t, rfl⟩ := rx; exact SeqAt.EqAt.bool_str a b t
    | _ => exact absurd (show false = true from fx) Bool.false_ne_true
  | int a =>
    obtain ⟨t', rfl⟩ := ry
    cases x with
    | non => cases rx; exact SeqAt.EqAt.int_none a t'
    | bl b => cases rx; exact SeqAt.EqAt.int_bool a t' b
    | int b => obtain ⟨t, rfl⟩ := rx; exact SeqAt.EqAt.int_int a t' b t
    | str b => obtain ⟨t, rfl⟩ := rx; exact SeqAt.EqAt.int_str a t' b t
    | _ => exact absurd (show false = true from fx) Bool.false_ne_true
  | str a =>
    obtain ⟨t', rfl⟩ := ry
    cases x with
    | non => cases rx; exact SeqAt.EqAt.str_none a t'
    | bl b => cases rx; exact SeqAt.EqAt.str_bool a t' b
    | int b => obtain ⟨t, rfl⟩ := rx; exact SeqAt.EqAt.str_int a t' b t
    | str b => obtain ⟨t, rfl⟩ := rx; exact SeqAt.EqAt.str_str a t' b t
    | _ => exact absurd (show false = true from fx) Bool.false_ne_true
  | _ => exact absurd (show false = true from fy) Bool.false_ne_true
def eqU (x : V) (u : Value) : Bool := match u with
  | .none => eqV .non x
  | .bool b => eqV (.bl b) x
  | .int i _ => eqV (.int i) x
  | .str z _ => eqV (.str z) x
  | _ => false
theorem eqU_of {x y : V} {u : Value} (r : RelV y u) (f : flatV y = true) : eqU x u = eqV y x := by
  cases y with
  | non => cases r; rfl
  | bl b => cases r; rfl
  | int i => obtain ⟨t, rfl⟩ := r; rfl
  | str z => obtain ⟨t, rfl⟩ := r; rfl
  | _ => exact absurd (show false = true from f) Bool.false_ne_true
theorem any_eqU {x : V} : ∀ {xs : List V} {us : List Value}, Vals xs us → xs.all flatV = true → us.any (eqU x) = xs.any fun y => eqV y x
  | _, _, .nil, _ => rfl
  | y :: xs, u :: us, .cons r t, f => by
    rw [List.all_cons, Bool.and_eq_true] at f
    rw [List.any_cons, List.any_cons, eqU_of r f.1, any_eqU t f.2]
theorem mem_eqAt {A : Around} {s : Shared} {x : V} {v : Value} (rx : RelV x v) (fx : flatV x = true) : ∀ {xs : List V} {us : List Value}, Vals xs us → xs.all flatV = true → ∀ u ∈ us, SeqAt.EqAt A s u v (eqU x u)
  | _, _, .nil, _ => fun u hu => by cases hu
  | y :: xs, u :: us, .cons r t, f => fun u' hu => by
    rw [List.all_cons, Bool.and_eq_true] at f
    rcases List.mem_cons.mp hu with rfl | hu
    · rw [eqU_of r f.1]; exact eqAt_V r rx f.1 fx
    · exact mem_eqAt rx fx t f.2 u' hu
def inV (x : V) (xs : List V) : Bool := xs.any fun y => eqV y x
def rIn (K : PySem.W.Frag) (neg : Bool) : R2 := fun x y H Q => ∃ p xs, y = .ref p ∧ (SqL K H p xs ∨ SqT K H p xs) ∧ flatV x = true ∧ xs.all flatV = true ∧ Q (.bl (if neg then !inV x xs else inV x xs)) H
theorem op_notIn_seq : OpR X (compareOp .NotIn) (rIn X.K true) := by
  intro pins s σ H x y v u Q I rx ry h
  obtain ⟨p, xs, rfl, hq, fx, fs, q⟩ := h
  cases ry
  rcases hq with hq | hq
  · obtain ⟨its, r, pl, hz⟩ := I.list hq
    refine SeqAt.notIn_listAt (eqU x) pl.isList (fun w hw => mem_eqAt rx fx r fs w (by simpa using hw)) ⟨.bl _, H, I, rfl, ?_⟩
    rw [show its.toArray.any (eqU x) = its.any (eqU x) by simp, any_eqU r fs]
    exact q
  · obtain ⟨its, r, pl, hz⟩ := I.tuple hq
    refine SeqAt.notIn_tupleAt (eqU x) pl (fun w hw => mem_eqAt rx fx r fs w (by simpa using hw)) ⟨.bl _, H, I, rfl, ?_⟩
    rw [show its.toArray.any (eqU x) = its.any (eqU x) by simp, any_eqU r fs]
    exact q
theorem call_len_seq : CallR X (.builtin "len") (fun xs H Q => ∃ p ys, xs = [.ref p] ∧ (SqL X.K H p ys ∨ SqT X.K H p ys) ∧ Q (.int ys.length) H) := by
  intro pins s σ H xs us Q I r h
  obtain ⟨p, ys, rfl, hq, q⟩ := h
  obtain ⟨u, rfl, rx⟩ := vals1 r
  cases rx
  have hn := line63
  rcases hq with hq | hq
  · obtain ⟨its, r', pl, hz⟩ := I.list hq
    have hlen := r'.length
    exact Calls.call_len_list pl.isList (by simp only [List.size_toArray] <;> omega) ⟨.int ys.length, H, I.tok _, ⟨s.toks + 1, by rw [List.size_toArray, hlen]⟩, q⟩
  · obtain ⟨its, r', pl, hz⟩ := I.tuple hq
    have hlen := r'.length
    exact len_tuple pl (by simp only [List.size_toArray] <;> omega) ⟨.int ys.length, H, I.tok _, ⟨s.toks + 1, by rw [List.size_toArray, hlen]⟩, q⟩
theorem call_len_str : CallR X (.builtin "len") (fun xs H Q => ∃ z, xs = [.str z] ∧ z.length ≤ sizeLine ∧ Q (.int z.length) H) := by
  intro pins s σ H xs us Q I r h
  obtain ⟨z, rfl, hz, q⟩ := h
  obtain ⟨u, rfl, t, rfl⟩ := vals1 r
  have hn := line63
  exact len_str (by omega) ⟨.int z.length, H, I.tok _, ⟨_, rfl⟩, q⟩
theorem CallR.or {f : Value} {r r' : List V → Hp → VK → Prop} (h : CallR X f r) (h' : CallR X f r') : CallR X f (fun xs H Q => r xs H Q ∨ r' xs H Q) := by
  intro pins s σ H xs us Q I rs q
  rcases q with q | q
  · exact h pins s σ H xs us Q I rs q
  · exact h' pins s σ H xs us Q I rs q
theorem call_list_of : CallR X (.type "list") (fun xs H Q => ∃ p ys, xs = [.ref p] ∧ (SqL X.K H p ys ∨ SqT X.K H p ys) ∧ ∀ l, H l = none → Q (.ref l) (upd H l (.lst ys))) := by
  intro pins s σ H xs us Q I r h
  obtain ⟨p, ys, rfl, hq, q⟩ := h
  obtain ⟨u, rfl, rx⟩ := vals1 r
  cases rx
  have fin : ∀ (its : List Value), Vals ys its → ys.length ≤ sizeLine → ∀ (h' : Heap) (c' : Nat), (∀ b o', s.heap.get? b = some o' → h'.get? b = some o') →
      h'.get? s.heap.objs.size = some { cls := .type "list", dict := none, data := .seq its.toArray c', slots := #[] } → EP X pins σ Q (.ref s.heap.objs.size) { s with heap := h' } := fun its r' hz h' c' kp e =>
    ⟨.ref s.heap.objs.size, _, I.laid (t' := s.toks) kp (Nat.le_refl _) (show ObjOk X.prog X.w _ h' _ (.lst ys) from ⟨hz, its, c', r', e⟩), rfl, q _ (I.hok.fresh (Nat.le_refl _))⟩
  rcases hq with hq | hq
  · obtain ⟨its, r', pl, hz⟩ := I.list hq
    have hlen := r'.length
    obtain ⟨o, ho, hc, n, hd⟩ := pl.isList
    exact call_list_seq p (.inl rfl) ho hc hd (fun h' c' kp e => fin its r' hz h' c' kp e) (by simp only [List.size_toArray] <;> omega)
  · obtain ⟨its, r', pl, hz⟩ := I.tuple hq
    have hlen := r'.length
    obtain ⟨o, ho, hc, n, hd⟩ := pl
    exact call_list_seq p (.inr rfl) ho hc hd (fun h' c' kp e => fin its r' hz h' c' kp e) (by simp only [List.size_toArray] <;> omega)
theorem call_tuple_of : CallR X (.type "tuple") (fun xs H Q => ∃ p ys, xs = [.ref p] ∧ ((SqL X.K H p ys ∧ ∀ l, H l = none → Q (.ref l) (upd H l (.tup ys))) ∨ (SqT X.K H p ys ∧ Q (.ref p) H))) := by
  intro pins s σ H xs us Q I r h
  obtain ⟨p, ys, rfl, h⟩ := h
  obtain ⟨u, rfl, rx⟩ := vals1 r
  cases rx
  rcases h with ⟨hq, q⟩ | ⟨hq, q⟩
  · obtain ⟨its, r', pl, hz⟩ := I.list hq
    have hlen := r'.length
    refine call_tuple_list pl.isList (fun h' kp => ?_) (by simp only [List.size_toArray] <;> omega)
    have I1 : Inv X pins σ H { s with heap := h' } := I.kept (t' := s.toks) kp
    have I2 : Inv X pins σ (upd H h'.objs.size (.tup ys)) { s with heap := h'.push { cls := .type "tuple", data := .seq its.toArray } } :=
      I1.laid (t' := s.toks) (fun b o e => Heap.get?_push_of_some _ e) (Nat.le_refl _) (show ObjOk X.prog X.w _ _ _ (.tup ys) from ⟨⟨hz, NoD.new _ _ _⟩, its, r', IsTup.new _ _⟩)
    exact ⟨.ref h'.objs.size, _, I2, rfl, q _ (I1.hok.fresh (Nat.le_refl _))⟩
  · obtain ⟨its, r', pl, hz⟩ := I.tuple hq
    exact call_tuple_same pl ⟨.ref p, H, I, rfl, q⟩
def tyV (K : PySem.W.Frag) (T : String) (x : V) (H : Hp) : Prop := match x with
  | .str _ => T = "str"
  | .int _ => T = "int"
  | .ref p => (T = "list" ∧ ∃ xs, SqL K H p xs) ∨ (T = "tuple" ∧ ∃ o, K.lookup p = some o ∧ o.cls = .type "tuple" ∧ o.dict = none) ∨
      (T = "dict" ∧ ((∃ kvs, H p = some (.dK kvs)) ∨ ∃ kvs, H p = some (.dT kvs))) ∨ (T = "set" ∧ ∃ S n, H p = some (.set S n))
  | _ => False
theorem tyV_is {pins : List (Addr × Obj)} {σ : St} {H : Hp} {s : Shared} {T : String} {x : V} {v : Value} (I : Inv X pins σ H s) (r : RelV x v) (ty : tyV X.K T x H) :
    s.TypeIs v T ∧ ∀ a, v = .ref a → ∃ ob, s.heap.get? a = some ob ∧ ob.dict = none := by
  cases x with
  | str z =>
    obtain ⟨t, rfl⟩ := r
    cases (show T = "str" from ty)
    exact ⟨typeIs_str s z t, fun _ e => nomatch e⟩
  | int i =>
    obtain ⟨t, rfl⟩ := r
    cases (show T = "int" from ty)
    exact ⟨typeIs_int s i t, fun _ e => nomatch e⟩
  | ref p =>
    cases r
    rcases ty with ⟨rfl, xs, hq⟩ | ⟨rfl, o, hk, hc, hd⟩ | ⟨rfl, hk⟩ | ⟨rfl, S, n, hk⟩
    · obtain ⟨its, _, pl, _⟩ := I.list hq
      refine ⟨pl.isList.typeIs, fun a e => ?_⟩
      cases e
      obtain ⟨o, n, e, c, hd, _⟩ := pl
      exact ⟨o, e, hd⟩
    · refine ⟨⟨o, I.kIn p o hk, hc⟩, fun a e => ?_⟩
      cases e
      exact ⟨o, I.kIn _ o hk, hd⟩
    · have z : ∃ o, s.heap.get? p = some o ∧ o.ExactDict := by
        rcases hk with ⟨kvs, hk⟩ | ⟨kvs, hk⟩
        · obtain ⟨_, _, _, _, o, _, _, e, ex, _⟩ := I.hok p _ hk
          exact ⟨o, e, ex⟩
        · obtain ⟨_, _, _, _, o, _, _, e, ex, _⟩ := I.hok p _ hk
          exact ⟨o, e, ex⟩
      obtain ⟨o, e, ex⟩ := z
      refine ⟨⟨o, e, ex.1⟩, fun a e2 => ?_⟩
      cases e2
      exact ⟨o, e, ex.2.1⟩
    · obtain ⟨o, _, _, _, e, ex, _⟩ := I.hok p _ hk
      refine ⟨⟨o, e, ex.1⟩, fun a e2 => ?_⟩
      cases e2
      exact ⟨o, e, ex.2.1⟩
  | _ => exact False.elim ty
def tBM (K : PySem.W.Frag) (T : String) (r : V → List V → Hp → VK → Prop) (to : TE) (t : TA) : TE := fun σ H Q => to σ H fun x H1 => tyV K T x H1 ∧ t σ H1 fun xs H2 => r x xs H2 Q
variable {o e : Expr} {es : List Expr} {to : TE} {t : TA} {name : Str} {apos cpos : Pos} {T id : String} {r : V → List V → Hp → VK → Prop}
theorem pe_bm (pa : PlainAttrs T) (slot : Slot T name id) (hty : typeOf (.builtin id) = pure (.type "method_descriptor")) (hm : MtR X id r) (ho : PE X o to) (ha : PA X (e :: es) t)
    (hbase : attributeBase o name X.env (eval o X.env) = eval o X.env := by rfl)
    (hfew : ((backTo cpos (starEach (e :: es) X.env)).all (fun x => !x.1) && (backToKw cpos (keywordEach [] X.env)).all (fun x => x.1.isSome)
      && decide ((e :: es).length + ([] : List Keyword).length + (if ([] : List Keyword).isEmpty then 0 else 1) < 30)) = true := by rfl)
    (hline : (apos.endLine == cpos.line) = true := by rfl) (hs : starEach (e :: es) X.env = (false, eval e X.env) :: starEach es X.env := by rfl) (hplain : (backTo cpos (starEach es X.env)).any (·.1) = false := by rfl) :
    PE X (.Call (.Attribute o name apos) (e :: es) [] cpos) (tBM X.K T r to t) := by
  intro pins s σ H Q I h
  refine wpAny_Call_method_late hbase hfew hline rfl (thn (ho pins s σ H _ I h) fun v s1 ⟨x, H1, I1, r1, ty, q1⟩ => ?_)
  obtain ⟨h1, h2⟩ := tyV_is I1 r1 ty
  refine ⟨T, id, pa, slot, hty, h1, h2, ?_⟩
  have hA := ha cpos pins s1 σ H1 _ I1 q1
  rw [hs] at hA ⊢
  refine Calls.callWith_builtin (by show (false || (backTo cpos (starEach es X.env)).any (·.1)) = false; rw [hplain] <;> rfl) (Calls.evalArgs_plain ?_)
  exact thn hA fun us s2 ⟨vs, H2, I2, r2, q2⟩ => hm pins s2 σ H2 x vs v us Q I2 r1 r2 q2
end
end L2
namespace L2
open PySem PySem.Spec PyProof.Rows
def MtM (X : Cx) (id : String) (r : V → List V → Hp → VK → Prop) : Prop :=
  ∀ (pins : List (Addr × Obj)) (s : Shared) (σ : St) (H : Hp) (x : V) (xs : List V) (v : Value) (us : List Value) (Q : VK), Inv X pins σ H s → RelV x v → Vals xs us → r x xs H Q →
    wpAny (model X.prog X.w) X.A (call (.builtin id) (v :: us)) (EP X pins σ Q) X.xe s
theorem Vals.one : ∀ {x : V} {us : List Value}, Vals [x] us → ∃ u, us = [u] ∧ RelV x u
  | _, _, .cons r .nil => ⟨_, rfl, r⟩
theorem Vals.two : ∀ {x y : V} {us : List Value}, Vals [x, y] us → ∃ u v, us = [u, v] ∧ RelV x u ∧ RelV y v
  | _, _, _, .cons r (.cons q .nil) => ⟨_, _, rfl, r, q⟩
theorem Vals.zero : ∀ {us : List Value}, Vals [] us → us = []
  | _, .nil => rfl
theorem Vals.eraseIdx : ∀ {xs : List V} {us : List Value} (i : Nat), Vals xs us → Vals (xs.eraseIdx i) (us.eraseIdx i)
  | _, _, _, .nil => .nil
  | _, _, 0, .cons _ t => t
  | _, _, i + 1, .cons r t => .cons r (Vals.eraseIdx i t)
theorem Vals.reverse {xs : List V} {us : List Value} (h : Vals xs us) : Vals xs.reverse us.reverse := by
  induction h with
  | nil => exact .nil
  | cons r t ih => rw [List.reverse_cons, List.reverse_cons]; exact Vals.append ih (.cons r .nil)
theorem Vals.rep {xs : List V} {us : List Value} (h : Vals xs us) : ∀ k : Nat, Vals (List.replicate k xs).flatten (List.replicate k us).flatten
  | 0 => .nil
  | k + 1 => by
    rw [List.replicate_succ, List.replicate_succ, List.flatten_cons, List.flatten_cons]
    exact Vals.append h (Vals.rep h k)
section
variable {X : Cx} {pins : List (Addr × Obj)} {σ : St} {H : Hp} {s : Shared} {l b : Addr} {xs ys zs : List V}
theorem Inv.lset {its its' : List Value} {n : Nat} {f : Array Value → Array Value} {t' : Nat} (I : Inv X pins σ H s) (hH : H l = some (.lst xs))
    (e : s.heap.get? l = some { cls := .type "list", data := .seq its.toArray n }) (hf : f its.toArray = its'.toArray) (hv : Vals ys its') (hz : ys.length ≤ sizeLine) :
    Inv X pins σ (upd H l (.lst ys)) { s with heap := s.heap.update l (Obj.mapSeq f), toks := t' } := by
  have q := PySem.IsL.update e f
  rw [hf] at q
  refine I.write (x := l) (e := l) (by rw [hH]; exact trivial) (.inl rfl) (fun b' u hb hu => (Heap.get?_update_other s.heap (Obj.mapSeq f) (Ne.symm hb)).trans hu) ⟨_, q⟩ ?_
  exact ⟨hz, its', _, hv, q⟩
theorem Inv.fresh (I : Inv X pins σ H s) : H s.heap.objs.size = none := I.hok.fresh (Nat.le_refl _)
theorem Inv.lstM (I : Inv X pins σ H s) (hH : H l = some (.lst xs)) : xs.length ≤ sizeLine ∧ ∃ (its : List Value) (n : Nat), Vals xs its ∧ xs.length = its.length ∧ s.heap.get? l = some { cls := .type "list", data := .seq its.toArray n } := by
  obtain ⟨z, its, n, r, e⟩ := I.hok l _ hH
  exact ⟨z, its, n, r, r.length, e⟩
end
section
variable {X : Cx}
def rAppend : V → List V → Hp → VK → Prop := fun x vs H Q => ∃ l xs y, x = .ref l ∧ vs = [y] ∧ H l = some (.lst xs) ∧ xs.length < sizeLine ∧ Q .non (upd H l (.lst (xs ++ [y])))
theorem mt_append : MtM X "list.append" rAppend := by
  intro pins s σ H x vs v us Q I rx rv h
  obtain ⟨l, xs, y, rfl, rfl, hH, hz, q⟩ := h
  cases rx
  obtain ⟨u, rfl, ru⟩ := rv.one
  obtain ⟨z, its, n, r, hl, e⟩ := I.lstM hH
  refine call_meets F.slot_list_append ⟨_, e, rfl⟩ F.entry_list_append (F.args_list_append_2 _ _) (PySem.list_append l its.toArray n u (by rw [List.size_toArray]; omega)) ⟨e, ?_⟩
  refine ⟨.non, _, I.lset (its' := its ++ [u]) hH e (by simp) (r.append (.cons ru .nil)) ?_, rfl, q⟩
  rw [List.length_append, List.length_singleton]
  omega
end
section
variable {prog : Program} {w : World} {A : Around} {E : Value → Shared → Prop} {s : Shared}
end
section
variable {X : Cx}
end
end L2
namespace Att
open PySem PySem.W PySem.Calls PyProof.Rows
theorem ints_of_wellAll {P : Params} {h : Heap} : ∀ (ns : List Int) (vs : List Value), WellAll P h vs (ns.map WData.int) → IntsAre vs ns := by
  intro ns
  induction ns with
  | nil =>
    intro vs w
    rw [List.map_nil] at w
    cases w
    exact .nil
  | cons n ns ih =>
    intro vs w
    rw [List.map_cons] at w
    cases w with
    | cons a b =>
      cases a
      exact .cons _ _ (ih _ b)
theorem script_of {l : OpenLaw} {n : Nat} (hn : l.most = some n) {P : Params} {h : Heap} {args : List WData} {vals : List Value}
    (hpre : l.row.toRowW.claim.pre args = true) (hwl : WellAll P h vals args) :
    ∃ a vs ns, vals = [Value.ref a] ∧ args = [WData.list (ns.map WData.int)] ∧ h.get? a = some { cls := .type "list", data := .seq vs.toArray } ∧ IntsAre vs ns ∧ ns.length ≤ n := by
  have hsh : WShape.hasAll [] args [.list .int] = true := (pre_splitW hpre).1
  have hc : l.pre.holds [] { args := args } = true := (pre_splitW hpre).2
  obtain ⟨d, r, rfl, h1, h2⟩ := hasAllW_cons hsh
  obtain rfl := hasAllW_nil h2
  obtain ⟨xs, rfl, h3⟩ := hasW_list h1
  obtain ⟨ns, rfl⟩ := items_int h3
  have hlen : ns.length ≤ n := by
    unfold OpenLaw.pre at hc
    have h4 : (WTm.not (.lt (.lit (.int (n : Int))) (.len (.arg 0)))).holds [] { args := [.list (ns.map .int)] } = true := by
      have h4 := (holds_andW hc).1
      rw [hn] at h4
      exact h4
    have h5 := condW_of h4 (w_not (w_lt w_lit (w_len_list (w_arg rfl))))
    rw [List.length_map] at h5
    refine Nat.le_of_not_lt fun q => ?_
    have q' : (n : Int) < ((ns.length : Nat) : Int) := by omega
    first
      | (rw [decide_eq_true q'] at h5; exact absurd h5 (by decide))
      | (simp at h5; omega)
  cases hwl with
  | cons w1 w2 =>
    cases w2
    cases w1 with
    | list ho hall => exact ⟨_, _, ns, rfl, rfl, ho, ints_of_wellAll ns _ hall, hlen⟩
theorem post_true (l : OpenLaw) (args : List WData) : l.row.toRowW.claim.post args (.bool true) args = true :=
  postW_of (r := l.row.toRowW) (X := (true == true))
    (show WShape.has [] (.bool true) .bool = true by first | rfl | decide | simp [WShape.has, WShape.arms, WShape.armsAll])
    (show (WTm.eq .res (.lit (.bool true))).value [] { args := args, res := some (.bool true), after := args } = some (.bool (true == true)) from w_eq_bool (w_res rfl) w_lit) rfl
theorem attach_call {l : OpenLaw} {n : Nat} {q : Program} {loose : List Str} {XP : (Str → Option Value) → Heap → Prop} {YP : World → Heap → Prop} {d : DefRec}
    (hn : l.most = some n) (hdf : d.params.defaults = [])
    (call : ∀ (w : World) (s₀ s₁ : Shared) (mg mb : Str → Option Value) (fa : Addr) (o : Obj) (pm cd doc : Value) (a : Addr) (vs : List Value) (ns : List Int),
      Ground q loose [] XP w s₀ mg mb s₁.heap → YP w s₁.heap →
      s₁.heap.get? fa = some o → o.data = .func (docDef d.name d.params d.body d.scope pm cd doc) → s₁.heap.CodeRec cd d.name → mg d.name = some (.ref fa) →
      s₁.heap.get? a = some { cls := .type "list", data := .seq vs.toArray } → IntsAre vs ns → ns.length ≤ n → s₁.gens = #[] →
      codeAny (model l.prog w) callerA (.call (.ref fa) ⟨[.ref a], []⟩) (fun r s' => r = .ok (.ret (.bool true)) ∧ OldK s₁.heap s'.heap ∧ s'.os = s₁.os ∧ AllBare s'.gens) s₁) :
    WalkO q loose XP YP l.row.toRowW d [] (fun f vs => PySem.call f vs) := by
  intro w s₀ s₁ mg mb G Y fa o pm cd doc dV kV ho hd hcd hD hmg hg args vals as hpre hlay hrd hwl hlo
  obtain rfl : dV = .none := Dflts.none hD hdf
  obtain rfl : kV = .none := Dflts.noKw hD
  obtain ⟨a, vs, ns, rfl, rfl, hobj, hints, hlen⟩ := script_of hn hpre hwl
  refine enter_call (codeAny_mono (call w s₀ s₁ mg mb fa o pm cd doc a vs ns G Y ho (fd_plain hd) hcd hmg hobj hints hlen hg) fun r s' hq => ?_)
  obtain ⟨rfl, h2, h3, h4⟩ := hq
  exact ⟨.inl ⟨.bool true, .bool true, [], rfl, fun _ => rfl, .bool true, post_true l _, fun _ => ⟨List.Pairwise.nil, fun _ hm => (nomatch hm)⟩⟩, h2, h3, h4⟩
section
variable {prog : Program} {w : World} {A : Around} {E : Value → Shared → Prop} {s : Shared} {K : Frag}
end
end Att
namespace L2
open PySem PySem.Spec PyProof.Rows
theorem vals_ints : ∀ {vs : List Value} {ns : List Int}, IntsAre vs ns → Vals (ns.map V.int) vs
  | _, _, .nil => .nil
  | _, _, .cons n t h => .cons ⟨t, rfl⟩ (vals_ints h)
def Only (H : Hp) : Prop := ∀ b, H b = none ∨ ∃ o xs, H b = some (.frz o (.lst xs))
theorem law_call {P : Program} {w : World} {K : PySem.W.Frag} {mg mb : Str → Option Value} {CX : CXT} {k : Nat} {fa a : Addr} {fd : FuncData} {x : Str} {sp : Sp} {s₁ : Shared} {vs : List Value} {ns : List Int}
    (KX : K.In s₁.heap) (hns : s₁.heap.Ns mainGlobals mg) (hb : s₁.heap.Ns builtinsNs mb) (hbb : ∀ x : Str, x ≠ "__name__" → mb x = bootBuiltins x) (hlim : s₁.heap.NoLimit) (hg : s₁.gens = #[])
    (ha : s₁.heap.get? a = some { cls := .type "list", data := .seq vs.toArray }) (hi : IntsAre vs ns) (hl : ns.length ≤ sizeLine) (hr : Room k callerA)
    (F : ∀ base : Heap, K.In base → base.Ns mainGlobals mg → FnOk P w K mg base CX k fa fd [x] sp) (hbind : ∀ (s : Shared) (u : Value), BindsTo s fd ⟨[u], []⟩ [(x, u)])
    (hsp : ∀ H : Hp, Only H → SqL K H a (ns.map V.int) → sp [.ref a] H (fun v _ => v = .bl true) fun _ _ _ => False)
    (hCX : ∀ H e s', CX [] H s₁ (fun _ _ _ => False) e s' → False) :
    codeAny (model P w) callerA (.call (.ref fa) ⟨[.ref a], []⟩) (fun r s' => r = .ok (.ret (.bool true)) ∧ OldK s₁.heap s'.heap ∧ s'.os = s₁.os ∧ AllBare s'.gens) s₁ := by
  have rv := vals_ints hi
  have lenV := hi.length
  -- from an abstract heap in which nothing but the script may be tracked
  have core : ∀ H : Hp, Only H → SqL K H a (ns.map V.int) → HOk P w H s₁.heap → (∀ b, H b ≠ none → b = a) → (H a ≠ none → K.lookup a = none) →
      codeAny (model P w) callerA (.call (.ref fa) ⟨[.ref a], []⟩) (fun r s' => r = .ok (.ret (.bool true)) ∧ OldK s₁.heap s'.heap ∧ s'.os = s₁.os ∧ AllBare s'.gens) s₁ := by
    intro H hO hS hok hA hK
    have base_of : ∀ {b : Addr} {o : Obj}, s₁.heap.get? b = some o → H b = none → (hidT s₁.heap H).get? b = some o := fun e n => hidT_get e n
    have noA : ∀ {b : Addr} {o : Obj} {es : Array DictEntry} {ep : Nat}, s₁.heap.get? b = some o → o.data = .dict es ep → H b = none := fun {b o es ep} e d => by
      cases q : H b with
      | none => rfl
      | some u =>
        have e' : b = a := hA b (by rw [q]; simp)
        subst e'
        rw [ha] at e; cases e
        have d' : Data.seq vs.toArray _ = Data.dict es ep := d
        cases d'
    have nsK : ∀ {b : Addr} {m : Str → Option Value}, s₁.heap.Ns b m → (hidT s₁.heap H).Ns b m := fun {b m} ⟨o, es, ep, e, d, r⟩ => ⟨o, es, ep, base_of e (noA e d), d, r⟩
    have hKb : K.In (hidT s₁.heap H) := fun b o e => base_of (KX b o e) (by
      cases q : H b with
      | none => rfl
      | some u =>
        have e' : b = a := hA b (by rw [q]; simp)
        subst e'
        rw [hK (by rw [q]; simp)] at e; cases e)
    have hM : Mod K mg (hidT s₁.heap H) := ⟨hKb, nsK hns, ⟨mb, nsK hb, hbb⟩, let ⟨mc, h1, h2⟩ := hlim; ⟨mc, nsK h1, h2⟩⟩
    have e0 : Env0 P w K mg (hidT s₁.heap H) callerA [] s₁ H := ⟨rfl, hM, fun b o e => of_hidT e, Nat.le_of_eq (hidT_size _ _), trivial, fun b hb => absurd (show b ∈ ([] : List Addr) from hb) (by simp), hok, .of_eq hg⟩
    refine codeAny_mono ((F _ hKb (nsK hns)).run callerA [] s₁ H ⟨[.ref a], []⟩ [.ref a] [.ref a] _ _ hr e0 (hbind s₁ (.ref a)) (.cons rfl .nil) (hsp H hO hS)) fun r s' h => ?_
    cases r with
    | error e => exact (hCX H e s' h).elim
    | ok fl =>
      cases fl with
      | next => exact False.elim h
      | brk => exact False.elim h
      | cont => exact False.elim h
      | ret u =>
        obtain ⟨v, H', os, bare, un, hok', r', q⟩ := h
        have q' : v = .bl true := q
        subst q'
        obtain rfl : u = Value.bool true := r'
        refine ⟨rfl, OldK.of_keep fun b o e => ?_, os, bare⟩
        cases q : H b with
        | none => exact un.keep b o e q (by intro z; exact absurd (show b ∈ ([] : List Addr) from z) (by simp)) (by simp)
        | some u =>
          rcases hO b with z | ⟨ob, xs, z⟩
          · rw [q] at z; cases z
          · have z2 := un.frzs b ob _ z
            obtain ⟨e1, _⟩ := hok b _ z
            obtain ⟨e2, _⟩ := hok' b _ z2
            rw [e] at e1; cases e1
            exact e2
  cases hk : K.lookup a with
  | some o =>
    -- the script is one of the module's own objects
    have e := KX a o hk
    rw [ha] at e
    cases e
    refine core (fun _ => none) (fun _ => .inl rfl) (.inr ⟨_, vs.toArray, _, hk, rfl, rfl, rfl, by rw [List.size_toArray, lenV]; exact hl, by simpa using rv⟩) (fun b u z => by have z' : (none : Option HO) = some u := z; cases z') (fun b z => absurd rfl z) fun z => absurd rfl z
  | none =>
    refine core (fun b => if b = a then some (.frz { cls := .type "list", data := .seq vs.toArray } (.lst (ns.map V.int))) else none) (fun b => ?_) (.inl (.inr ⟨{ cls := .type "list", data := .seq vs.toArray }, if_pos rfl⟩)) (fun b u z => ?_) (fun b z => ?_) fun _ => hk
    · by_cases hb : b = a
      · exact .inr ⟨_, _, if_pos hb⟩
      · exact .inl (if_neg hb)
    · by_cases hb : b = a
      · have z' := (if_pos hb).symm.trans z
        cases z'
        subst hb
        exact ⟨ha, by rw [List.length_map]; exact hl, vs, _, rv, ha⟩
      · have z' := (if_neg hb).symm.trans z
        cases z'
    · by_cases hb : b = a
      · exact hb
      · exact absurd (if_neg hb) z
end L2
namespace L2
open PySem PySem.Spec PyProof.Rows
theorem walk_of {l : PySem.W.OpenLaw} {n k : Nat} {q : Program} {loose : List Str} {XP : (Str → Option Value) → Heap → Prop} {YP : World → Heap → Prop} {d : DefRec} {K : Params → PySem.W.Frag} {CX : World → CXT} {sp : World → Sp} {x : Str}
    (hn : l.most = some n) (hn2 : n ≤ sizeLine) (hdf : d.params.defaults = []) (hr : Room k callerA)
    (hY : ∀ (w : World) (h : Heap), YP w h → (K w.params).In h)
    (F : ∀ (w : World) (mg : Str → Option Value) (fa : Addr) (h : Heap), (K w.params).In h → h.Ns mainGlobals mg → mg d.name = some (.ref fa) →
      ∃ fd : FuncData, (∀ (s : Shared) (u : Value), BindsTo s fd ⟨[u], []⟩ [(x, u)]) ∧
        ∀ base : Heap, (K w.params).In base → base.Ns mainGlobals mg → FnOk l.prog w (K w.params) mg base (CX w) k fa fd [x] (sp w))
    (hsp : ∀ (w : World) (H : Hp) (a : Addr) (ns : List Int), ns.length ≤ n → Only H → SqL (K w.params) H a (ns.map V.int) → sp w [.ref a] H (fun v _ => v = .bl true) fun _ _ _ => False)
    (hCX : ∀ (w : World) (H : Hp) (s : Shared) (e : Value) (s' : Shared), CX w [] H s (fun _ _ _ => False) e s' → False) :
    PySem.W.WalkO q loose XP YP l.row.toRowW d [] (fun f vs => PySem.call f vs) := by
  refine Att.attach_call hn hdf fun w s₀ s₁ mg mb fa o pm cd doc a vs ns G Y ho hd hcd hmg hobj hints hlen hg => ?_
  have KX := hY w _ Y
  obtain ⟨fd, hb, hF⟩ := F w mg fa _ KX G.T.g hmg
  exact law_call KX G.T.g G.T.b G.T.builtins G.T.nolimit hg hobj hints (Nat.le_trans hlen hn2) hr hF hb (fun H hO hS => hsp w H a ns hlen hO hS) fun H e s' => hCX w H s₁ e s'
end L2
namespace L2
open PySem PySem.Spec PyProof.Rows
def defArgs (s : Stmt) : Arguments := match s with
  | .FunctionDef _ a _ _ _ _ _ _ _ _ => a
  | _ => { posonlyargs := [], args := [], vararg := none, kwonlyargs := [], kw_defaults := [], kwarg := none, defaults := [] }
def defBody (s : Stmt) : List Stmt := match s with
  | .FunctionDef _ _ b _ _ _ _ _ _ _ => b
  | _ => []
def defScope (s : Stmt) : Scope := match s with
  | .FunctionDef _ _ _ _ _ _ sc _ _ _ => sc
  | _ => { kind := .function, names := [], isGenerator := false, isCoroutine := false }
abbrev CX0 : CXT := fun _ _ _ _ _ _ => False
abbrev E0 : XK := fun _ _ _ => False
theorem pass0 {X : Cx} : Passes CX0 X E0 := fun _ _ _ _ _ _ _ h => h.elim
structure Fun (K : PySem.W.Frag) (x qual : Str) (st : Stmt) (f : Addr) (fd : FuncData) : Prop where
  ex : ∃ (oc : Value) (od : Option Addr) (kV doc pm : Value) (an : Option Addr) (cdv ct : Value) (osl : Array (Option Value)),
    fd = PySem.W.fnOf x qual (defArgs st) (defBody st) (defScope st) .none kV doc pm an cdv ct ∧ K.lookup f = some ⟨oc, od, .func fd, osl⟩ ∧ PySem.W.codeIn K cdv qual = true
  kp : PySem.W.keepIn K (.ref f) = true
section
variable {P : Program} {w : World} {K : PySem.W.Frag} {mg : Str → Option Value} {base : Heap}
theorem Fun.ok {x qual : Str} {st : Stmt} {f : Addr} {fd : FuncData} {N ps : List Str} {k : Nat} {sp : Sp} (F : Fun K x qual st f fd) (S : FnScope N ps (defScope st)) (len : ∀ vs H Q E, sp vs H Q E → vs.length = ps.length)
    (hbody : ∀ (cdv : Value) (A : Around) (outer : List Env) (s : Shared) (H : Hp) (vs : List V) (Q : VK) (E : XK), Room k (A.deeper (envOfC qual (defScope st) s.heap.objs.size f cdv)) → sp vs H Q E →
      ∃ t, PSs (cxOf CX0 P w K mg base N qual (defScope st) f cdv A outer s H E).nox (defBody st) t ∧ t { nx := fun _ H' => Q .non H', rt := Q } (start N vs) H) : FnOk P w K mg base CX0 (k + 1) f fd ps sp := by
  obtain ⟨oc, od, kV, doc, pm, an, cdv, ct, osl, rfl, lk, hcd⟩ := F.ex
  refine fn_of lk hcd S len fun A outer s H vs Q E hr hsp => ?_
  obtain ⟨t, h, q⟩ := hbody cdv A outer s H vs Q E hr hsp
  exact ⟨t, h.nox, q⟩
theorem Fun.binds {x qual : Str} {st : Stmt} {f : Addr} {fd : FuncData} {ps : List Str} (F : Fun K x qual st f fd)
    (h : ∀ (kV doc pm : Value) (an : Option Addr) (cdv ct : Value) (us : List Value), us.length = ps.length → bindArgs (PySem.W.fnOf x qual (defArgs st) (defBody st) (defScope st) .none kV doc pm an cdv ct) ⟨us, []⟩ = pure (ps.zip us)) : Binds K fd ps [] := by
  obtain ⟨oc, od, kV, doc, pm, an, cdv, ct, osl, rfl, lk, hcd⟩ := F.ex
  exact .all (h kV doc pm an cdv ct)
theorem fun_mk {x qual : Str} {st : Stmt} {f : Addr} {oc : Value} {od an : Option Addr} {osl : Array (Option Value)} {kV doc pm cdv ct : Value} (l : K.lookup f = some ⟨oc, od, .func (PySem.W.fnOf x qual (defArgs st) (defBody st) (defScope st) .none kV doc pm an cdv ct), osl⟩)
    (c : PySem.W.codeIn K cdv qual = true) (k : PySem.W.keepIn K (.ref f) = true) : Fun K x qual st f (PySem.W.fnOf x qual (defArgs st) (defBody st) (defScope st) .none kV doc pm an cdv ct) := ⟨⟨oc, od, kV, doc, pm, an, cdv, ct, osl, rfl, l, c⟩, k⟩
end
section
variable {X : Cx}
end
theorem iteF {A B : Prop} (h : B) : if false = true then A else B := by
  rw [if_neg Bool.false_ne_true]
  exact h
theorem iteT {A B : Prop} (h : A) : if true = true then A else B := by
  rw [if_pos rfl]
  exact h
def Same (H H' : Hp) : Prop := ∀ b o, H b = some o → H' b = some o
theorem Same.refl (H : Hp) : Same H H := fun _ _ h => h
theorem Same.trans {H H1 H2 : Hp} (a : Same H H1) (b : Same H1 H2) : Same H H2 := fun c o h => b c o (a c o h)
theorem Same.free {H H' : Hp} (e : Same H H') {l : Addr} (h : H' l = Option.none) : H l = Option.none := by
  cases q : H l with
  | none => rfl
  | some o =>
    rw [e l o q] at h
    cases h
theorem Same.seq {K : PySem.W.Frag} {H H' : Hp} {a : Addr} {xs : List V} (e : Same H H') (h : SqL K H a xs) : SqL K H' a xs := by
  rcases h with (h | ⟨o, h⟩) | h
  · exact .inl (.inl (e _ _ h))
  · exact .inl (.inr ⟨o, e _ _ h⟩)
  · exact .inr h
end L2
set_option Elab.async false
set_option linter.all false
set_option maxRecDepth 100000
namespace L2
open PySem PySem.Spec PyProof.Rows
section
variable {κ : Type} [DecidableEq κ]
def valV (kvs : List (κ × V)) (k : κ) : Option V := (kvs.find? fun kv => decide (kv.1 = k)).map (·.2)
def putK (kvs : List (κ × V)) (k : κ) (v : V) : List (κ × V) :=
  if (kvs.any fun kv => decide (kv.1 = k)) = true then kvs.map (fun kv => if kv.1 = k then (kv.1, v) else kv) else kvs ++ [(k, v)]
def dropK (kvs : List (κ × V)) (k : κ) : List (κ × V) := kvs.filter fun kv => decide (kv.1 ≠ k)
theorem valV_pos {p : κ × V} {r : List (κ × V)} {k : κ} (e : p.1 = k) : valV (p :: r) k = some p.2 := by simp [valV, List.find?_cons, e]
theorem valV_neg {p : κ × V} {r : List (κ × V)} {k : κ} (e : ¬ p.1 = k) : valV (p :: r) k = valV r k := by simp [valV, List.find?_cons, e]
theorem valV_any (k : κ) : ∀ kvs : List (κ × V), (kvs.any fun kv => decide (kv.1 = k)) = (valV kvs k).isSome
  | [] => rfl
  | p :: r => by
    rw [List.any_cons]
    by_cases e : p.1 = k
    · simp only [valV_pos e, decide_eq_true e, Bool.true_or, Option.isSome_some]
    · rw [valV_neg e, decide_eq_false e, Bool.false_or]; exact valV_any k r
theorem RelO.isSome_eq {o : Option V} {u : Option Value} (r : RelO o u) : o.isSome = u.isSome := by
  cases o with
  | none => cases u with
    | none => rfl
    | some _ => exact (show False from r).elim
  | some _ => cases u with
    | none => exact (show False from r).elim
    | some _ => rfl
theorem RelO.getD {o : Option V} {u : Option Value} {d : V} {d' : Value} (r : RelO o u) (rd : RelV d d') : RelV (o.getD d) (u.getD d') := by
  cases o with
  | none => cases u with
    | none => exact rd
    | some _ => exact (show False from r).elim
  | some _ => cases u with
    | none => exact (show False from r).elim
    | some _ => exact r
theorem KV.val {kvs : List (κ × V)} {vs : List (κ × Value)} (r : KV kvs vs) (k : κ) : RelO (valV kvs k) (valueAt vs k) := by
  unfold KV at r
  induction r with
  | nil => exact True.intro
  | @cons p q ps qs h t ih =>
    obtain ⟨h1, h2⟩ := h
    by_cases e : p.1 = k
    · have e' : q.1 = k := h1.symm.trans e
      have b : valueAt (q :: qs) k = some q.2 := by simp [valueAt, List.find?_cons, e']
      rw [valV_pos e, b]; exact h2
    · have e' : ¬ q.1 = k := fun z => e (h1.trans z)
      have b : valueAt (q :: qs) k = valueAt qs k := by simp [valueAt, List.find?_cons, e']
      rw [valV_neg e, b]; exact ih
theorem KV.any {kvs : List (κ × V)} {vs : List (κ × Value)} (r : KV kvs vs) (k : κ) : (kvs.any fun kv => decide (kv.1 = k)) = vs.any fun kv => decide (kv.1 = k) := by
  unfold KV at r
  induction r with
  | nil => rfl
  | cons h t ih => rw [List.any_cons, List.any_cons, ih, h.1]
theorem KV.repl {kvs : List (κ × V)} {vs : List (κ × Value)} (r : KV kvs vs) (k : κ) {y : V} {u : Value} (ry : RelV y u) :
    KV (kvs.map fun kv => if kv.1 = k then (kv.1, y) else kv) (vs.map fun kv => if kv.1 = k then (kv.1, u) else kv) := by
  unfold KV at r ⊢
  induction r with
  | nil => exact .nil
  | @cons p q ps qs h t ih =>
    rw [List.map_cons, List.map_cons]
    refine .cons ?_ ih
    obtain ⟨h1, h2⟩ := h
    by_cases e : p.1 = k
    · rw [if_pos e, if_pos (h1.symm.trans e)]; exact ⟨h1, ry⟩
    · rw [if_neg e, if_neg (fun z => e (h1.trans z))]; exact ⟨h1, h2⟩
theorem KV.put {kvs : List (κ × V)} {vs : List (κ × Value)} (r : KV kvs vs) (k : κ) {y : V} {u : Value} (ry : RelV y u) : KV (putK kvs k y) (stored vs k u) := by
  unfold putK stored
  rw [r.any k]
  by_cases e : (vs.any fun kv => decide (kv.1 = k)) = true
  · rw [if_pos e, if_pos e]; exact r.repl k ry
  · rw [if_neg e, if_neg e]; exact Paired.snoc r ⟨rfl, ry⟩
theorem KV.drop {kvs : List (κ × V)} {vs : List (κ × Value)} (r : KV kvs vs) (k : κ) : KV (dropK kvs k) (without vs k) := by
  unfold KV at r ⊢
  unfold dropK without
  induction r with
  | nil => exact .nil
  | @cons p q ps qs h t ih =>
    obtain ⟨h1, h2⟩ := h
    rw [List.filter_cons, List.filter_cons]
    by_cases e : p.1 = k
    · have a : ¬ decide (p.1 ≠ k) = true := by simp [e]
      have b : ¬ decide (q.1 ≠ k) = true := by simp [h1.symm.trans e]
      rw [if_neg a, if_neg b]; exact ih
    · have e' : ¬ q.1 = k := fun z => e (h1.trans z)
      have a : decide (p.1 ≠ k) = true := by simp [e]
      have b : decide (q.1 ≠ k) = true := by simp [e']
      rw [if_pos a, if_pos b]; exact .cons ⟨h1, h2⟩ ih
theorem KV.keys {kvs : List (κ × V)} {vs : List (κ × Value)} (r : KV kvs vs) : kvs.map (·.1) = vs.map (·.1) := by
  unfold KV at r
  induction r with
  | nil => rfl
  | cons h t ih => rw [List.map_cons, List.map_cons, ih, h.1]
theorem KV.length {kvs : List (κ × V)} {vs : List (κ × Value)} (r : KV kvs vs) : kvs.length = vs.length := Paired.length r
end
theorem kV_is {P : Program} {w : World} {k : Key} {u : Value} (r : RelV (kV k) u) : (mixKind P w).is k u = true := by
  cases k with
  | inl i => obtain ⟨t, e⟩ := (show ∃ t, u = Value.int i t from r); subst e; exact mixKind_int P w i t
  | inr x => obtain ⟨t, e⟩ := (show ∃ t, u = Value.str x t from r); subst e; exact mixKind_str P w x t
theorem items_are {P : Program} {w : World} : ∀ {ks : List Key} {us : List Value}, Vals (ks.map kV) us → ItemsAre (mixKind P w) ks us
  | [], _, r => by rw [List.map_nil] at r; cases r; exact .nil
  | k :: ks, _, r => by
    rw [List.map_cons] at r
    cases r with
    | cons h t => exact .cons (kV_is h) (items_are t)
abbrev KT (H : Hp) : List (List Key × V) → List (List Key × Addr × Value) → Prop := Paired fun p q => p.1 = q.1 ∧ H q.2.1 = some (.tup (p.1.map kV)) ∧ RelV p.2 q.2.2
theorem KT.val {H : Hp} {kvs : List (List Key × V)} {xs : List (List Key × Addr × Value)} (r : KT H kvs xs) (k : List Key) : RelO (valV kvs k) ((atKey xs k).map (·.2)) := by
  induction r with
  | nil => exact True.intro
  | @cons p q ps qs h t ih =>
    obtain ⟨h1, _, h2⟩ := h
    by_cases e : p.1 = k
    · have e' : q.1 = k := h1.symm.trans e
      have b : atKey (q :: qs) k = some q.2 := by simp [atKey, List.find?_cons, e']
      rw [valV_pos e, b]; exact h2
    · have e' : ¬ q.1 = k := fun z => e (h1.trans z)
      have b : atKey (q :: qs) k = atKey qs k := by simp [atKey, List.find?_cons, e']
      rw [valV_neg e, b]; exact ih
theorem KT.repl {H : Hp} {kvs : List (List Key × V)} {xs : List (List Key × Addr × Value)} (r : KT H kvs xs) (k : List Key) {y : V} {u : Value} (ry : RelV y u) :
    KT H (kvs.map fun kv => if kv.1 = k then (kv.1, y) else kv) (xs.map (putAt k u)) := by
  induction r with
  | nil => exact .nil
  | @cons p q ps qs h t ih =>
    rw [List.map_cons, List.map_cons]
    refine .cons ?_ ih
    obtain ⟨h1, h2, h3⟩ := h
    unfold putAt
    by_cases e : p.1 = k
    · rw [if_pos e, if_pos (h1.symm.trans e)]; exact ⟨h1, h2, ry⟩
    · rw [if_neg e, if_neg (fun z => e (h1.trans z))]; exact ⟨h1, h2, h3⟩
theorem KT.put {H : Hp} {kvs : List (List Key × V)} {xs : List (List Key × Addr × Value)} (r : KT H kvs xs) (k : List Key) {b : Addr} {y : V} {u : Value} (hb : H b = some (.tup (k.map kV))) (ry : RelV y u) :
    KT H (putK kvs k y) (storedH xs k b u) := by
  have e : (kvs.any fun kv => decide (kv.1 = k)) = (atKey xs k).isSome := by
    rw [valV_any, (r.val k).isSome_eq, Option.isSome_map]
  unfold putK storedH
  rw [e]
  by_cases q : (atKey xs k).isSome = true
  · rw [if_pos q, if_pos q]; exact r.repl k ry
  · rw [if_neg q, if_neg q]; exact Paired.snoc r ⟨rfl, hb, ry⟩
theorem KT.keeps {H H' : Hp} {kvs : List (List Key × V)} {xs : List (List Key × Addr × Value)} (r : KT H kvs xs) (ht : ∀ b ys, H b = some (.tup ys) → H' b = some (.tup ys)) : KT H' kvs xs :=
  Paired.mapP r fun _ _ z => ⟨z.1, ht _ _ z.2.1, z.2.2⟩
section
variable {P : Program} {w : World} {H : Hp} {h : Heap} {a : Addr}
theorem rd_of {u : HO} (ok : HOk P w H h) (e : Rd H a u) : ObjOk P w H h a u := e.ok ok
theorem dk_rd {kvs : List (Key × V)} (ok : HOk P w H h) (e : Rd H a (.dK kvs)) : kvs.length ≤ sizeLine ∧ (a == sysModules) = false ∧ ∃ vs, KV kvs vs ∧ h.DictOf (mixKind P w) a vs :=
  show ObjOk P w H h a (.dK kvs) from rd_of ok e
theorem key_of {ks : List Key} (ok : HOk P w H h) (e : H a = some (.tup (ks.map kV))) : (tupleKind (mixKind P w)).is h ks a := by
  obtain ⟨_, its, r, o, h1, h2, n, h3⟩ := (show ObjOk P w H h a (.tup (ks.map kV)) from ok a _ e)
  exact ⟨o, its.toArray, n, h1, h2, h3, by simpa using items_are r⟩
theorem dt_rd {kvs : List (List Key × V)} (ok : HOk P w H h) (e : Rd H a (.dT kvs)) : kvs.length ≤ sizeLine ∧ (a == sysModules) = false ∧
    ∃ xs, KT H kvs xs ∧ h.DictOfH (tupleKind (mixKind P w)) a xs := by
  obtain ⟨z, y, xs, r, o, es, ep, h1, h2, h3, h4, h5⟩ := (show ObjOk P w H h a (.dT kvs) from rd_of ok e)
  refine ⟨z, y, xs, r, o, es, ep, h1, h2, h3, h4, fun x hx => ?_, h5⟩
  have all : ∀ {l : List (List Key × V)} {m : List (List Key × Addr × Value)}, KT H l m → ∀ x ∈ m, (tupleKind (mixKind P w)).is h x.1 x.2.1 := by
    intro l m q
    induction q with
    | nil => intro x hx; exact nomatch hx
    | @cons p q ps qs hq t ih =>
      intro x hx
      rcases List.mem_cons.mp hx with e | hx
      · subst e
        exact key_of ok (by rw [← hq.1]; exact hq.2.1)
      · exact ih x hx
  exact all r x hx
end
def DGet (H : Hp) (a : Addr) (y : V) (r : Option V) : Prop :=
  (∃ kvs k, Rd H a (.dK kvs) ∧ y = kV k ∧ r = valV kvs k) ∨ ∃ kvs k b, Rd H a (.dT kvs) ∧ y = .ref b ∧ H b = some (.tup (k.map kV)) ∧ r = valV kvs k
def DPut (H : Hp) (a : Addr) (y v : V) (H' : Hp) : Prop :=
  (∃ kvs k, H a = some (.dK kvs) ∧ y = kV k ∧ kvs.length < sizeLine ∧ H' = upd H a (.dK (putK kvs k v))) ∨
  ∃ kvs k b, H a = some (.dT kvs) ∧ y = .ref b ∧ H b = some (.tup (k.map kV)) ∧ kvs.length < sizeLine ∧ H' = upd H a (.dT (putK kvs k v))
theorem DGet.k {H : Hp} {a : Addr} {kvs : List (Key × V)} {k : Key} (e : H a = some (.dK kvs)) : DGet H a (kV k) (valV kvs k) := .inl ⟨kvs, k, .inl e, rfl, rfl⟩
theorem DGet.t {H : Hp} {a b : Addr} {kvs : List (List Key × V)} {k : List Key} (e : H a = some (.dT kvs)) (eb : H b = some (.tup (k.map kV))) : DGet H a (.ref b) (valV kvs k) := .inr ⟨kvs, k, b, .inl e, rfl, eb, rfl⟩
theorem DPut.k {H : Hp} {a : Addr} {kvs : List (Key × V)} {k : Key} {v : V} (e : H a = some (.dK kvs)) (hl : kvs.length < sizeLine) : DPut H a (kV k) v (upd H a (.dK (putK kvs k v))) := .inl ⟨kvs, k, e, rfl, hl, rfl⟩
theorem DPut.t {H : Hp} {a b : Addr} {kvs : List (List Key × V)} {k : List Key} {v : V} (e : H a = some (.dT kvs)) (eb : H b = some (.tup (k.map kV))) (hl : kvs.length < sizeLine) :
    DPut H a (.ref b) v (upd H a (.dT (putK kvs k v))) := .inr ⟨kvs, k, b, e, rfl, eb, hl, rfl⟩
section
variable {X : Cx} {pins : List (Addr × Obj)} {σ : St} {H : Hp} {s : Shared} {a : Addr} {y v : V} {u r : Value} {o : Option V} {A : Around} {E : Value → Shared → Prop}
theorem Inv.big (I : Inv X pins σ H s) : sysModules < s.heap.objs.size := by
  have h : mainGlobals < s.heap.objs.size := (I.mod.glob.keeps I.bk).lt
  exact Nat.lt_trans (by decide) h
theorem d_getItem {Q : Value → Shared → Prop} (hu : A.units + 1 < cLine) (I : Inv X pins σ H s) (g : DGet H a y (some v)) (ry : RelV y u) (h : ∀ w' s', Inv X pins σ H s' → RelV v w' → Q w' s') :
    wpAny (model X.prog X.w) A (getItem (.ref a) u) Q E s := by
  rcases g with ⟨kvs, k, e, ey, l⟩ | ⟨kvs, k, b, e, ey, eb, l⟩
  · subst ey
    obtain ⟨z, hd, vs, rel, dd⟩ := dk_rd I.hok e
    obtain ⟨w', hw, rw'⟩ := RelO.some_of (v := v) (o := valueAt vs k) (by rw [l]; exact rel.val k)
    exact wpAny_getItem_of (kV_is ry) dd.mapOf hw (h w' _ (I.tok _) rw')
  · subst ey
    cases (show u = Value.ref b from ry)
    obtain ⟨z, hd, xs, rel, dd⟩ := dt_rd I.hok e
    obtain ⟨w', hw, rw'⟩ := RelO.some_of (v := v) (o := (atKey xs k).map (·.2)) (by rw [l]; exact rel.val k)
    obtain ⟨p, hp, hp2⟩ := Option.map_eq_some_iff.mp hw
    refine wpAny_getItem_heap (tupleKind_room_in1 hu) (key_of I.hok eb) dd hp ?_
    rw [hp2]
    exact h w' _ (I.tok _) rw'
end
section
variable {X : Cx} {pins : List (Addr × Obj)} {σ : St} {H : Hp} {s : Shared} {a : Addr} {kvs : List (Key × V)} {k : Key} {u : Value} {A : Around} {E : Value → Shared → Prop}
end
def NoSl (i : Expr) : Prop := ∀ ov iv, subscripted i false ov iv = operate [ov, iv] (getItem ov iv)
theorem subD_of {prog : Program} {w : World} {A : Around} {E : Value → Shared → Prop} {s : Shared} {env : Env} {value slice : Expr} {pos : Pos} {T id : String} {Q : Value → Shared → Prop}
    (hl : typeLookup (.type T) "__getitem__" = pure (some (.builtin id))) (hs : NoSl slice)
    (h : wpAny (model prog w) A (eval value env) (fun o s₁ => wpAny (model prog w) A (eval slice env) (fun i s₂ => s₂.TypeIs o T ∧ wpAny (model prog w) A (getItem o i) Q E s₂) E s₁) E s) :
    wpAny (model prog w) A (eval (.Subscript value slice pos) env) Q E s := by
  refine Subscript_ (wpAny_mono h (fun o s₁ h₁ => wpAny_mono h₁ (fun i s₂ h₂ => ?_) fun _ _ x => x) fun _ _ x => x)
  obtain ⟨hT, h₂⟩ := h₂
  unfold subscriptTail
  refine wpAny_bind ?_
  rw [getitemInPython_of_ne hT.not_modules]
  refine wpAny_bind (wpAny_specialOf hT hl ?_)
  have fin : wpAny (model prog w) A (subscripted slice false o i) (fun r s₃ => wpAny (model prog w) A (letTemporaryGo value o r >>= fun _ => pure r) Q E s₃) E s₂ := by
    rw [hs o i]
    exact wpAny_operating (wpAny_mono h₂ (fun r s₃ h₃ => wpAny_bind (wpAny_letTemporaryGo (wpAny_pure h₃))) fun _ _ x => x)
  first
    | exact wpAny_pure (wpAny_bind fin)
    | exact wpAny_bind (wpAny_pure (wpAny_bind fin))
    | exact wpAny_bind fin
theorem dict_typeIs {X : Cx} {pins : List (Addr × Obj)} {σ : St} {H : Hp} {s : Shared} {a : Addr} {y : V} {o : Option V} (I : Inv X pins σ H s) (g : DGet H a y o) : s.TypeIs (.ref a) "dict" := by
  rcases g with ⟨kvs, k, e, _, _⟩ | ⟨kvs, k, b, e, _, _, _⟩
  · obtain ⟨_, _, vs, _, dd⟩ := dk_rd I.hok e
    exact dd.typeIs
  · obtain ⟨_, _, xs, _, dd⟩ := dt_rd I.hok e
    exact dd.typeIs
def tDGet (td ty : TE) : TE := fun σ H Q => td σ H fun x H1 => ty σ H1 fun y H2 => ∃ a v, x = .ref a ∧ DGet H2 a y (some v) ∧ Q v H2
section
variable {X : Cx} {o i e value : Expr} {pos pos' tpos : Pos} {td ty tv : TE}
theorem pe_dget (hu : X.A.units + 1 < cLine) (ho : PE X o td) (hi : PE X i ty) (hs : NoSl i) : PE X (.Subscript o i pos) (tDGet td ty) := by
  intro pins s σ H Q I h
  refine subD_of PySem.F.slot_dict_getitem.lookup hs (thn (ho pins s σ H _ I h) fun u s1 ⟨x, H1, I1, rx, q1⟩ => thn (hi pins s1 σ H1 _ I1 q1) fun iv s2 ⟨y, H2, I2, ry, a, v, ex, g, q2⟩ => ?_)
  subst ex
  obtain rfl : u = Value.ref a := rx
  exact ⟨dict_typeIs I2 g, d_getItem hu I2 g ry fun w' s3 I3 rw' => ⟨v, H2, I3, rw', q2⟩⟩
end
section
variable {X : Cx} {pos : Pos}
end
section
variable {X : Cx} {pins : List (Addr × Obj)} {σ : St} {H : Hp} {s : Shared} {a : Addr} {y d : V} {u r : Value} {o : Option V} {A : Around} {E : Value → Shared → Prop}
end
section
variable {X : Cx} {o e f : Expr} {apos cpos : Pos} {td ty tx : TE}
end
section
variable {X : Cx} {pins : List (Addr × Obj)} {σ : St} {H : Hp} {s : Shared} {a : Addr} {kvs : List (Key × V)} {A : Around} {E : Value → Shared → Prop}
end
section
variable {X : Cx} {pins : List (Addr × Obj)} {σ : St} {H : Hp} {s : Shared} {a : Addr} {y : V} {u : Value} {A : Around} {E : Value → Shared → Prop}
end
end L2
set_option Elab.async false
set_option linter.all false
set_option maxRecDepth 100000
set_option maxHeartbeats 4000000
namespace DL
open PySem PySem.Spec PyProof.Rows L2
inductive D where
  | dat (p : PyData)
  | cel (a : Addr)
inductive Cel where
  | l (xs : List PyData)
  | d (kvs : List (Key × PyData))
  | t (kvs : List (List Key × PyData))
  | dl (kas : List (Key × Addr))
  | fd (kvs : List (Key × PyData))
  | ft (kvs : List (List Key × PyData))
@[simp] def isF : Option Cel → Bool
  | some (.fd _) => true
  | some (.ft _) => true
  | _ => false
abbrev Mu := Addr → Option Cel
abbrev St2 := List (Option D)
mutual
def RP (K : PySem.W.Frag) (Z : Addr → Prop) (m : Mu) (H : Hp) : PyData → V → Prop
  | .none, v => v = .non
  | .bool b, v => v = .bl b
  | .int i, v => v = .int i
  | .str x, v => v = .str x
  | .tuple xs, v => ∃ a vs, v = .ref a ∧ SqT K H a vs ∧ RPs K Z m H xs vs
  | .list xs, v => ∃ a vs, v = .ref a ∧ (m a = none ∧ ¬ Z a) ∧ SqL K H a vs ∧ RPs K Z m H xs vs
  | .dict _, _ => False
def RPs (K : PySem.W.Frag) (Z : Addr → Prop) (m : Mu) (H : Hp) : List PyData → List V → Prop
  | [], vs => vs = []
  | x :: xs, vs => ∃ v r, vs = v :: r ∧ RP K Z m H x v ∧ RPs K Z m H xs r
end
def RD (K : PySem.W.Frag) (Z : Addr → Prop) (m : Mu) (H : Hp) : D → V → Prop
  | .dat p, v => RP K Z m H p v
  | .cel a, v => v = .ref a ∧ (m a).isSome = true
def RDs (K : PySem.W.Frag) (Z : Addr → Prop) (m : Mu) (H : Hp) : List D → List V → Prop
  | [], vs => vs = []
  | x :: xs, vs => ∃ v r, vs = v :: r ∧ RD K Z m H x v ∧ RDs K Z m H xs r
def RKV {κ : Type} (K : PySem.W.Frag) (Z : Addr → Prop) (m : Mu) (H : Hp) : List (κ × PyData) → List (κ × V) → Prop
  | [], vs => vs = []
  | (k, p) :: xs, vs => ∃ v r, vs = (k, v) :: r ∧ RP K Z m H p v ∧ RKV K Z m H xs r
def RC (K : PySem.W.Frag) (Z : Addr → Prop) (m : Mu) (H : Hp) : Cel → HO → Prop
  | .l xs, .lst vs => RPs K Z m H xs vs
  | .d kvs, .dK vs => RKV K Z m H kvs vs
  | .t kvs, .dT vs => RKV K Z m H kvs vs
  | .dl kas, .dK vs => vs = kas.map fun x => (x.1, V.ref x.2)
  | .fd kvs, .frz _ (.dK vs) => RKV K Z m H kvs vs
  | .ft kvs, .frz _ (.dT vs) => RKV K Z m H kvs vs
  | _, _ => False
structure Ok (K : PySem.W.Frag) (Z : Addr → Prop) (m : Mu) (H : Hp) : Prop where
  g : ∀ a c, m a = some c → ∃ o, H a = some o ∧ RC K Z m H c o
  z : ∀ a, Z a → m a = none ∧ H a ≠ none
structure Ext (K : PySem.W.Frag) (Z : Addr → Prop) (m : Mu) (H : Hp) (m' : Mu) (H' : Hp) : Prop where
  t : ∀ a vs, SqT K H a vs → SqT K H' a vs
  l : ∀ a vs, (m a = none ∧ ¬ Z a) → SqL K H a vs → m' a = none ∧ SqL K H' a vs
  z : ∀ a, Z a → H' a = H a
  c : ∀ a, (m a).isSome = true → (m' a).isSome = true
  fz : ∀ a o u, H a = some (.frz o u) → H' a = some (.frz o u)
  fm : ∀ a, isF (m a) = true → m' a = m a
section
variable {K : PySem.W.Frag} {Z : Addr → Prop} {m m' m2 : Mu} {H H' H2 : Hp}
theorem Ext.refl : Ext K Z m H m H := ⟨fun _ _ h => h, fun _ _ h1 h2 => ⟨h1.1, h2⟩, fun _ _ => rfl, fun _ h => h, fun _ _ _ h => h, fun _ _ => rfl⟩
theorem Ext.trans (a : Ext K Z m H m' H') (b : Ext K Z m' H' m2 H2) : Ext K Z m H m2 H2 :=
  ⟨fun x vs h => b.t x vs (a.t x vs h), fun x vs h1 h2 => let ⟨q1, q2⟩ := a.l x vs h1 h2; b.l x vs ⟨q1, h1.2⟩ q2, fun x h => (b.z x h).trans (a.z x h), fun x h => b.c x (a.c x h), fun x o u h => b.fz x o u (a.fz x o u h), fun x h => by
    have q := a.fm x h
    rw [b.fm x (by rw [q]; exact h), q]⟩
mutual
theorem RP.ext (e : Ext K Z m H m' H') : ∀ (p : PyData) (v : V), RP K Z m H p v → RP K Z m' H' p v
  | .none, v, h => by simpa only [RP] using h
  | .bool _, v, h => by simpa only [RP] using h
  | .int _, v, h => by simpa only [RP] using h
  | .str _, v, h => by simpa only [RP] using h
  | .tuple xs, v, h => by
    simp only [RP] at h ⊢
    obtain ⟨a, vs, h1, h2, h3⟩ := h
    exact ⟨a, vs, h1, e.t a vs h2, RPs.ext e xs vs h3⟩
  | .list xs, v, h => by
    simp only [RP] at h ⊢
    obtain ⟨a, vs, h1, h2, h3, h4⟩ := h
    obtain ⟨q1, q2⟩ := e.l a vs h2 h3
    exact ⟨a, vs, h1, ⟨q1, h2.2⟩, q2, RPs.ext e xs vs h4⟩
  | .dict _, v, h => by simp only [RP] at h
theorem RPs.ext (e : Ext K Z m H m' H') : ∀ (xs : List PyData) (vs : List V), RPs K Z m H xs vs → RPs K Z m' H' xs vs
  | [], vs, h => by simpa only [RPs] using h
  | x :: xs, vs, h => by
    simp only [RPs] at h ⊢
    obtain ⟨v, r, h1, h2, h3⟩ := h
    exact ⟨v, r, h1, RP.ext e x v h2, RPs.ext e xs r h3⟩
end
theorem RD.ext (e : Ext K Z m H m' H') {d : D} {v : V} (h : RD K Z m H d v) : RD K Z m' H' d v := by
  cases d with
  | dat p => exact RP.ext e p v h
  | cel a => exact ⟨h.1, e.c a h.2⟩
theorem RDs.ext (e : Ext K Z m H m' H') : ∀ {xs : List D} {vs : List V}, RDs K Z m H xs vs → RDs K Z m' H' xs vs
  | [], _, h => h
  | _ :: _, _, ⟨v, r, h1, h2, h3⟩ => ⟨v, r, h1, h2.ext e, RDs.ext e h3⟩
theorem RKV.lift {κ : Type} {Z' : Addr → Prop} (tr : ∀ p v, RP K Z m H p v → RP K Z' m' H' p v) : ∀ {xs : List (κ × PyData)} {vs : List (κ × V)}, RKV K Z m H xs vs → RKV K Z' m' H' xs vs
  | [], _, h => h
  | _ :: _, _, ⟨v, r, h1, h2, h3⟩ => ⟨v, r, h1, tr _ _ h2, RKV.lift tr h3⟩
theorem RPs.lift {Z' : Addr → Prop} (tr : ∀ p v, RP K Z m H p v → RP K Z' m' H' p v) : ∀ {ps : List PyData} {vs : List V}, RPs K Z m H ps vs → RPs K Z' m' H' ps vs
  | [], _, h => by simpa only [RPs] using h
  | _ :: _, _, h => by
    simp only [RPs] at h ⊢
    obtain ⟨v, r, h1, h2, h3⟩ := h
    exact ⟨v, r, h1, tr _ _ h2, RPs.lift tr h3⟩
theorem RC.lift {Z' : Addr → Prop} {c : Cel} {o : HO} (tr : ∀ p v, RP K Z m H p v → RP K Z' m' H' p v) (h : RC K Z m H c o) : RC K Z' m' H' c o := by
  cases c <;> cases o <;> first | exact RPs.lift tr h | exact RKV.lift tr h | exact h | (rename_i ob u; cases u <;> first | exact RKV.lift tr h | exact h)
theorem RC.ext {c : Cel} {o : HO} (e : Ext K Z m H m' H') (h : RC K Z m H c o) : RC K Z m' H' c o := h.lift fun p v q => RP.ext e p v q
theorem RC.mut {c : Cel} {o : HO} (h : RC K Z m H c o) (nf : isF (some c) = false) : (∀ xs, o ≠ .tup xs) ∧ (∀ a b, o ≠ .frz a b) := by
  cases c with
  | fd _ => cases nf
  | ft _ => cases nf
  | dl _ => cases o <;> first | exact h.elim | exact ⟨fun _ e => (nomatch e), fun _ _ e => (nomatch e)⟩
  | l _ => cases o <;> first | exact h.elim | exact ⟨fun _ e => (nomatch e), fun _ _ e => (nomatch e)⟩
  | d _ => cases o <;> first | exact h.elim | exact ⟨fun _ e => (nomatch e), fun _ _ e => (nomatch e)⟩
  | t _ => cases o <;> first | exact h.elim | exact ⟨fun _ e => (nomatch e), fun _ _ e => (nomatch e)⟩
theorem Ok.l {a : Addr} {xs : List PyData} (ok : Ok K Z m H) (h : m a = some (.l xs)) : ∃ vs, H a = some (.lst vs) ∧ RPs K Z m H xs vs := by
  obtain ⟨o, h1, h2⟩ := ok.g a _ h
  cases o <;> first | exact ⟨_, h1, h2⟩ | exact h2.elim
theorem Ok.d {a : Addr} {xs : List (Key × PyData)} (ok : Ok K Z m H) (h : m a = some (.d xs)) : ∃ vs, H a = some (.dK vs) ∧ RKV K Z m H xs vs := by
  obtain ⟨o, h1, h2⟩ := ok.g a _ h
  cases o <;> first | exact ⟨_, h1, h2⟩ | exact h2.elim
theorem Ok.t {a : Addr} {xs : List (List Key × PyData)} (ok : Ok K Z m H) (h : m a = some (.t xs)) : ∃ vs, H a = some (.dT vs) ∧ RKV K Z m H xs vs := by
  obtain ⟨o, h1, h2⟩ := ok.g a _ h
  cases o <;> first | exact ⟨_, h1, h2⟩ | exact h2.elim
theorem RPs.length : ∀ {xs : List PyData} {vs : List V}, RPs K Z m H xs vs → vs.length = xs.length
  | [], _, h => by simp only [RPs] at h; subst h; rfl
  | _ :: xs, _, h => by
    simp only [RPs] at h
    obtain ⟨v, r, h1, _, h3⟩ := h
    subst h1
    rw [List.length_cons, List.length_cons, RPs.length h3]
theorem RDs.length : ∀ {xs : List D} {vs : List V}, RDs K Z m H xs vs → vs.length = xs.length
  | [], _, h => by cases (show _ = [] from h); rfl
  | _ :: xs, _, ⟨v, r, h1, _, h3⟩ => by
    subst h1
    rw [List.length_cons, List.length_cons, RDs.length h3]
theorem RPs.get : ∀ {xs : List PyData} {vs : List V} {i : Nat} {p : PyData}, RPs K Z m H xs vs → xs[i]? = some p → ∃ v, vs[i]? = some v ∧ RP K Z m H p v
  | [], _, _, _, _, e => by simp at e
  | x :: xs, _, 0, p, h, e => by
    simp only [RPs] at h
    obtain ⟨v, r, h1, h2, _⟩ := h
    simp at e
    subst h1 e
    exact ⟨v, rfl, h2⟩
  | x :: xs, _, i + 1, p, h, e => by
    simp only [RPs] at h
    obtain ⟨v, r, h1, _, h3⟩ := h
    obtain ⟨u, q1, q2⟩ := RPs.get (i := i) (p := p) h3 (by simpa using e)
    subst h1
    exact ⟨u, by simpa using q1, q2⟩
theorem RPs.set : ∀ {xs : List PyData} {vs : List V} {i : Nat} {p : PyData} {v : V}, RPs K Z m H xs vs → RP K Z m H p v → RPs K Z m H (xs.set i p) (vs.set i v)
  | [], _, _, _, _, h, _ => by simp only [RPs] at h; subst h; simp [RPs]
  | x :: xs, _, 0, p, v, h, q => by
    simp only [RPs] at h
    obtain ⟨w, r, h1, _, h3⟩ := h
    subst h1
    simp only [List.set_cons_zero, RPs]
    exact ⟨v, r, rfl, q, h3⟩
  | x :: xs, _, i + 1, p, v, h, q => by
    simp only [RPs] at h
    obtain ⟨w, r, h1, h2, h3⟩ := h
    subst h1
    simp only [List.set_cons_succ, RPs]
    exact ⟨w, _, rfl, h2, RPs.set h3 q⟩
theorem RPs.append : ∀ {xs ys : List PyData} {vs ws : List V}, RPs K Z m H xs vs → RPs K Z m H ys ws → RPs K Z m H (xs ++ ys) (vs ++ ws)
  | [], _, _, _, h, q => by simp only [RPs] at h; subst h; simpa using q
  | x :: xs, _, _, _, h, q => by
    simp only [RPs] at h
    obtain ⟨w, r, h1, h2, h3⟩ := h
    subst h1
    simp only [List.cons_append, RPs]
    exact ⟨w, _, rfl, h2, RPs.append h3 q⟩
theorem RPs.drop : ∀ {xs : List PyData} {vs : List V} (n : Nat), RPs K Z m H xs vs → RPs K Z m H (xs.drop n) (vs.drop n)
  | _, _, 0, h => by simpa using h
  | [], _, n + 1, h => by simp only [RPs] at h; subst h; simp [RPs]
  | x :: xs, _, n + 1, h => by
    simp only [RPs] at h
    obtain ⟨w, r, h1, h2, h3⟩ := h
    subst h1
    simpa using RPs.drop n h3
theorem RPs.take : ∀ {xs : List PyData} {vs : List V} (n : Nat), RPs K Z m H xs vs → RPs K Z m H (xs.take n) (vs.take n)
  | _, _, 0, h => by simp [RPs]
  | [], _, n + 1, h => by simp only [RPs] at h; subst h; simp [RPs]
  | x :: xs, _, n + 1, h => by
    simp only [RPs] at h
    obtain ⟨w, r, h1, h2, h3⟩ := h
    subst h1
    simp only [List.take_succ_cons, RPs]
    exact ⟨w, _, rfl, h2, RPs.take n h3⟩
theorem RPs.reverse : ∀ {xs : List PyData} {vs : List V}, RPs K Z m H xs vs → RPs K Z m H xs.reverse vs.reverse
  | [], _, h => by simp only [RPs] at h; subst h; simp [RPs]
  | x :: xs, _, h => by
    simp only [RPs] at h
    obtain ⟨w, r, h1, h2, h3⟩ := h
    subst h1
    rw [List.reverse_cons, List.reverse_cons]
    exact (RPs.reverse h3).append (by simp only [RPs]; exact ⟨w, [], rfl, h2, rfl⟩)
@[simp] def pds : List D → Option (List PyData)
  | [] => some []
  | .dat p :: r => (pds r).map (p :: ·)
  | .cel _ :: _ => none
theorem RDs.pds : ∀ {xs : List D} {vs : List V} {ps : List PyData}, RDs K Z m H xs vs → DL.pds xs = some ps → RPs K Z m H ps vs
  | [], vs, ps, h, e => by
    cases (show vs = [] from h)
    cases (show some [] = some ps from e)
    simp [RPs]
  | .dat p :: r, vs, ps, ⟨v, w, h1, h2, h3⟩, e => by
    simp only [DL.pds] at e
    cases q : DL.pds r with
    | none => rw [q] at e; cases e
    | some qs =>
      rw [q] at e
      cases e
      simp only [RPs]
      exact ⟨v, w, h1, h2, RDs.pds h3 q⟩
  | .cel a :: r, _, _, _, e => by simp only [DL.pds] at e; cases e
theorem SqT.same {a : Addr} {xs : List V} (e : Same H H') (h : SqT K H a xs) : SqT K H' a xs := by
  rcases h with (h | ⟨o, h⟩) | h
  · exact .inl (.inl (e _ _ h))
  · exact .inl (.inr ⟨o, e _ _ h⟩)
  · exact .inr h
theorem Ext.grow (s : Same H H') (hz : ∀ a, Z a → H a ≠ none) : Ext K Z m H m H' := ⟨fun _ _ h => SqT.same s h, fun _ _ h1 h2 => ⟨h1.1, s.seq h2⟩, fun a h => by
  cases q : H a with
  | none => exact absurd q (hz a h)
  | some o => exact s a o q, fun _ h => h, fun a o u h => s _ _ h, fun _ _ => rfl⟩
theorem Ok.grow (s : Same H H') (ok : Ok K Z m H) : Ok K Z m H' := by
  have e : Ext K Z m H m H' := Ext.grow s fun a h => (ok.z a h).2
  refine ⟨fun a c h => ?_, fun a h => ⟨(ok.z a h).1, by rw [e.z a h]; exact (ok.z a h).2⟩⟩
  obtain ⟨o, h1, h2⟩ := ok.g a c h
  exact ⟨o, s _ _ h1, h2.ext e⟩
theorem Ok.ext (s : Same H H') (ok : Ok K Z m H) : Ext K Z m H m H' := Ext.grow s fun a h => (ok.z a h).2
theorem same_new {p : Addr} {o : HO} (h : H p = none) : Same H (upd H p o) := fun b u q => by rw [upd_ne (ne_of_none q h)]; exact q
def updM (m : Mu) (a : Addr) (c : Cel) : Mu := fun b => if b = a then some c else m b
theorem updM_same {a : Addr} {c : Cel} : updM m a c a = some c := by unfold updM; rw [if_pos rfl]
theorem updM_ne {a b : Addr} {c : Cel} (h : b ≠ a) : updM m a c b = m b := by unfold updM; rw [if_neg h]
theorem updM_updM {a : Addr} {x y : Cel} : updM (updM m a x) a y = updM m a y := by funext b; unfold updM; split <;> rfl
theorem SqL.ne {p a : Addr} {xs : List V} (hp : H p = none) (hk : K.lookup p = none) (h : SqL K H a xs) : a ≠ p := by
  rintro rfl
  rcases h with (h | ⟨o, h⟩) | ⟨o, _, _, h, _⟩
  · rw [hp] at h; cases h
  · rw [hp] at h; cases h
  · rw [hk] at h; cases h
theorem Ext.cell {p : Addr} {o : HO} {c : Cel} (ok : Ok K Z m H) (hp : H p = none) (hk : K.lookup p = none) : Ext K Z m H (updM m p c) (upd H p o) := by
  refine ⟨fun _ _ h => SqT.same (same_new hp) h, fun a xs h1 h2 => ?_, fun a h => ?_, fun a h => ?_, fun a o u h => same_new hp _ _ h, fun a h => ?_⟩
  · have ne := SqL.ne hp hk h2
    exact ⟨by rw [updM_ne ne]; exact h1.1, (same_new hp).seq h2⟩
  · have ne : a ≠ p := fun e => (ok.z a h).2 (by rw [e]; exact hp)
    exact upd_ne ne
  · by_cases e : a = p
    · subst e; rw [updM_same]; rfl
    · rw [updM_ne e]; exact h
  · have ne : a ≠ p := by
      rintro rfl
      cases q : m a with
      | none => rw [q] at h; cases h
      | some x =>
        obtain ⟨w, h1, _⟩ := ok.g a x q
        rw [hp] at h1
        cases h1
    exact updM_ne ne
theorem Ok.updC {p : Addr} {o : HO} {c : Cel} (ok : Ok K Z m H) (hz : ¬ Z p) (e : Ext K Z m H (updM m p c) (upd H p o)) (r : RC K Z m H c o) : Ok K Z (updM m p c) (upd H p o) := by
  refine ⟨fun a x h => ?_, fun a h => ?_⟩
  · by_cases q : a = p
    · subst q
      rw [updM_same] at h
      cases h
      exact ⟨o, upd_same, r.ext e⟩
    · rw [updM_ne q] at h
      obtain ⟨w, h1, h2⟩ := ok.g a x h
      exact ⟨w, by rw [upd_ne q]; exact h1, h2.ext e⟩
  · have ne : a ≠ p := fun e => hz (e ▸ h)
    exact ⟨by rw [updM_ne ne]; exact (ok.z a h).1, by rw [upd_ne ne]; exact (ok.z a h).2⟩
theorem Ok.cell {p : Addr} {o : HO} {c : Cel} (ok : Ok K Z m H) (hp : H p = none) (hk : K.lookup p = none) (r : RC K Z m H c o) : Ok K Z (updM m p c) (upd H p o) :=
  ok.updC (fun h => (ok.z p h).2 hp) (Ext.cell ok hp hk) r
theorem Ext.put {a : Addr} {o o0 : HO} {c c0 : Cel} (ok : Ok K Z m H) (hm : m a = some c0) (hH : H a = some o0) (nf : isF (some c0) = false := by rfl) : Ext K Z m H (updM m a c) (upd H a o) := by
  have mu : (∀ xs, o0 ≠ .tup xs) ∧ (∀ a b, o0 ≠ .frz a b) := by
    obtain ⟨w, h1, h2⟩ := ok.g a c0 hm
    rw [hH] at h1
    cases h1
    exact h2.mut nf
  refine ⟨fun b xs h => ?_, fun b xs h1 h2 => ?_, fun b h => ?_, fun b h => ?_, fun b w u h => ?_, fun b h => ?_⟩
  · rcases h with (h | ⟨w, h⟩) | h
    · have ne : b ≠ a := by rintro rfl; rw [hH] at h; cases h; exact absurd rfl (mu.1 _)
      exact .inl (.inl (by rw [upd_ne ne]; exact h))
    · have ne : b ≠ a := by rintro rfl; rw [hH] at h; cases h; exact absurd rfl (mu.2 _ _)
      exact .inl (.inr ⟨w, by rw [upd_ne ne]; exact h⟩)
    · exact .inr h
  · have ne : b ≠ a := by rintro rfl; rw [hm] at h1; cases h1.1
    refine ⟨by rw [updM_ne ne]; exact h1.1, ?_⟩
    rcases h2 with (h | ⟨w, h⟩) | h
    · exact .inl (.inl (by rw [upd_ne ne]; exact h))
    · exact .inl (.inr ⟨w, by rw [upd_ne ne]; exact h⟩)
    · exact .inr h
  · have ne : b ≠ a := by rintro rfl; have := (ok.z b h).1; rw [hm] at this; cases this
    exact upd_ne ne
  · by_cases e : b = a
    · subst e; rw [updM_same]; rfl
    · rw [updM_ne e]; exact h
  · have ne : b ≠ a := by rintro rfl; rw [hH] at h; cases h; exact absurd rfl (mu.2 _ _)
    rw [upd_ne ne]
    exact h
  · have ne : b ≠ a := by rintro rfl; rw [hm, nf] at h; cases h
    exact updM_ne ne
theorem Ok.put {a : Addr} {o o0 : HO} {c c0 : Cel} (ok : Ok K Z m H) (hm : m a = some c0) (hH : H a = some o0) (r : RC K Z m H c o) (nf : isF (some c0) = false := by rfl) : Ok K Z (updM m a c) (upd H a o) :=
  ok.updC (fun h => by have := (ok.z a h).1; rw [hm] at this; cases this) (Ext.put ok hm hH nf) r
def RS (K : PySem.W.Frag) (Z : Addr → Prop) (m : Mu) (H : Hp) (d : St2) (s : L2.St) : Prop := d.length = s.length ∧ ∀ (i : Nat) (x : D), d[i]? = some (some x) → ∃ v, s[i]? = some (some v) ∧ RD K Z m H x v
theorem RS.ext {d : St2} {s : L2.St} (r : RS K Z m H d s) (e : Ext K Z m H m' H') : RS K Z m' H' d s := ⟨r.1, fun i x h => let ⟨v, h1, h2⟩ := r.2 i x h; ⟨v, h1, h2.ext e⟩⟩
theorem RS.set {d : St2} {s : L2.St} {i : Nat} {x : D} {v : V} (r : RS K Z m H d s) (h : RD K Z m H x v) : RS K Z m H (d.set i (some x)) (s.set i (some v)) := by
  refine ⟨by rw [List.length_set, List.length_set]; exact r.1, fun j y q => ?_⟩
  by_cases e : j = i
  · subst e
    rw [List.getElem?_set] at q
    simp only [if_true] at q
    split at q
    · rename_i hl
      cases q
      refine ⟨v, ?_, h⟩
      rw [List.getElem?_set]
      simp only [if_true]
      rw [if_pos (by rw [← r.1]; exact hl)]
    · cases q
  · rw [List.getElem?_set_ne (Ne.symm e)] at q
    obtain ⟨w, h1, h2⟩ := r.2 j y q
    exact ⟨w, by rw [List.getElem?_set_ne (Ne.symm e)]; exact h1, h2⟩
end
abbrev DK := D → Mu → Prop
abbrev DE := St2 → Mu → DK → Prop
abbrev DT := St2 → Mu → (Bool → Mu → Prop) → Prop
abbrev DA := St2 → Mu → (List D → Mu → Prop) → Prop
structure Ends2 where
  nx : St2 → Mu → Prop
  rt : DK
  bk : St2 → Mu → Prop := fun _ _ => False
  ct : St2 → Mu → Prop := fun _ _ => False
abbrev DS := Ends2 → St2 → Mu → Prop
def LE (K : PySem.W.Frag) (f : DE) : TE := fun s H Q => ∃ (Z : Addr → Prop) (d : St2) (m : Mu) (R : DK), Ok K Z m H ∧ RS K Z m H d s ∧ f d m R ∧
  ∀ x m' v H', R x m' → Ext K Z m H m' H' → Ok K Z m' H' → RD K Z m' H' x v → Q v H'
def LT (K : PySem.W.Frag) (f : DT) : TT := fun s H Q => ∃ (Z : Addr → Prop) (d : St2) (m : Mu) (R : Bool → Mu → Prop), Ok K Z m H ∧ RS K Z m H d s ∧ f d m R ∧
  ∀ b m' H', R b m' → Ext K Z m H m' H' → Ok K Z m' H' → Q b H'
def LA (K : PySem.W.Frag) (f : DA) : TA := fun s H Q => ∃ (Z : Addr → Prop) (d : St2) (m : Mu) (R : List D → Mu → Prop), Ok K Z m H ∧ RS K Z m H d s ∧ f d m R ∧
  ∀ xs m' vs H', R xs m' → Ext K Z m H m' H' → Ok K Z m' H' → RDs K Z m' H' xs vs → Q vs H'
def LS (K : PySem.W.Frag) (f : DS) : TS := fun E s H => ∃ (Z : Addr → Prop) (d : St2) (m : Mu) (R : Ends2), Ok K Z m H ∧ RS K Z m H d s ∧ f R d m ∧
  (∀ d' m' s' H', R.nx d' m' → Ext K Z m H m' H' → Ok K Z m' H' → RS K Z m' H' d' s' → E.nx s' H') ∧
  (∀ x m' v H', R.rt x m' → Ext K Z m H m' H' → Ok K Z m' H' → RD K Z m' H' x v → E.rt v H') ∧
  (∀ d' m' s' H', R.bk d' m' → Ext K Z m H m' H' → Ok K Z m' H' → RS K Z m' H' d' s' → E.bk s' H') ∧
  (∀ d' m' s' H', R.ct d' m' → Ext K Z m H m' H' → Ok K Z m' H' → RS K Z m' H' d' s' → E.ct s' H')
theorem PE.imp {X : Cx} {e : Expr} {t t' : TE} (h : PE X e t) (q : ∀ s H Q, t' s H Q → t s H Q) : PE X e t' := fun pins s d H Q I w => h pins s d H Q I (q _ _ _ w)
theorem PT.imp {X : Cx} {e : Expr} {t t' : TT} (h : PT X e t) (q : ∀ s H Q, t' s H Q → t s H Q) : PT X e t' := fun pins s d H Q I w => h pins s d H Q I (q _ _ _ w)
theorem PA.imp {X : Cx} {e : List Expr} {t t' : TA} (h : PA X e t) (q : ∀ s H Q, t' s H Q → t s H Q) : PA X e t' := fun pos pins s d H Q I w => h pos pins s d H Q I (q _ _ _ w)
theorem PS.imp {X : Cx} {e : Stmt} {t t' : TS} (h : PS X e t) (q : ∀ E s H, t' E s H → t E s H) : PS X e t' := fun pins s d H E I w => h pins s d H E I (q _ _ _ w)
theorem PSs.imp {X : Cx} {e : List Stmt} {t t' : TS} (h : PSs X e t) (q : ∀ E s H, t' E s H → t E s H) : PSs X e t' := fun pins s d H E I w => h pins s d H E I (q _ _ _ w)
section
variable {X : Cx} {pos : Pos}
@[simp] def dVar (i : Nat) : DE := fun d m Q => ∃ x, d[i]? = some (some x) ∧ Q x m
theorem le_var (i : Nat) {x : Str} (hN : X.N[i]? = some x := by rfl) (hv : Vis X.env.scope x := by first | exact Or.inl rfl | exact Or.inr (Or.inl rfl) | exact Or.inr (Or.inr rfl)) (hd : (x == ("__debug__" : Str)) = false := by decide)
    (hcd : (x == ("__classdict__" : Str)) = false := by decide) : PE X (.Name x pos) (LE X.K (dVar i)) :=
  PE.imp (pe_var hN hv hd hcd) fun s H Q h => by
    obtain ⟨Z, d, m, R, ok, rs, ⟨x, h1, h2⟩, k⟩ := h
    obtain ⟨v, q1, q2⟩ := rs.2 i x h1
    exact ⟨v, q1, k x m v H h2 Ext.refl ok q2⟩
@[simp] def dCon (p : PyData) : DE := fun _ m Q => Q (.dat p) m
theorem le_con {e : Expr} {p : PyData} {v : V} (h : PE X e (tC v)) (r : ∀ Z m H, RP X.K Z m H p v) : PE X e (LE X.K (dCon p)) :=
  PE.imp h fun s H Q ⟨Z, d, m, R, ok, rs, h2, k⟩ => k _ m v H h2 Ext.refl ok (r Z m H)
theorem le_int {i : Int} {j : Nat} : PE X (.Constant (.int i) j pos) (LE X.K (dCon (.int i))) := le_con pe_int fun Z m H => by simp only [RP]
theorem le_bl {b : Bool} {j : Nat} : PE X (.Constant (.bool b) j pos) (LE X.K (dCon (.bool b))) := le_con pe_bl fun Z m H => by simp only [RP]
theorem le_non {j : Nat} : PE X (.Constant .none j pos) (LE X.K (dCon .none)) := le_con pe_non fun Z m H => by simp only [RP]
theorem le_str {x : Str} {j : Nat} : PE X (.Constant (.str x) j pos) (LE X.K (dCon (.str x))) := le_con pe_str fun Z m H => by simp only [RP]
end
end DL
set_option Elab.async false
set_option linter.all false
set_option maxRecDepth 100000
set_option maxHeartbeats 4000000
namespace DL
open PySem PySem.Spec PyProof.Rows L2
section
variable {X : Cx} {pins : List (Addr × Obj)} {σ : L2.St} {H : Hp} {s : Shared} {Z : Addr → Prop} {m : Mu}
mutual
theorem RP.reads (I : Inv X pins σ H s) : ∀ (p : PyData) (v : V) (u : Value), RP X.K Z m H p v → RelV v u → ∃ as, Reads s.heap u p as
  | .none, v, u, h, r => by simp only [RP] at h; subst h; cases r; exact ⟨_, .none⟩
  | .bool b, v, u, h, r => by simp only [RP] at h; subst h; cases r; exact ⟨_, .bool b⟩
  | .int i, v, u, h, r => by simp only [RP] at h; subst h; obtain ⟨t, rfl⟩ := r; exact ⟨_, .int i t⟩
  | .str x, v, u, h, r => by simp only [RP] at h; subst h; obtain ⟨t, rfl⟩ := r; exact ⟨_, .str x t⟩
  | .tuple xs, v, u, h, r => by
    simp only [RP] at h
    obtain ⟨a, vs, rfl, h2, h3⟩ := h
    cases r
    obtain ⟨its, rv, ⟨o, e, c, n, d⟩, _⟩ := I.tuple h2
    obtain ⟨as, q⟩ := RPs.reads I xs vs its h3 rv
    exact ⟨_, .tuple e c d (by simpa using q)⟩
  | .list xs, v, u, h, r => by
    simp only [RP] at h
    obtain ⟨a, vs, rfl, _, h2, h3⟩ := h
    cases r
    obtain ⟨its, rv, ⟨o, n, e, c, _, d⟩, _⟩ := I.list h2
    obtain ⟨as, q⟩ := RPs.reads I xs vs its h3 rv
    exact ⟨_, .list e c d (by simpa using q)⟩
  | .dict _, v, u, h, r => by simp only [RP] at h
theorem RPs.reads (I : Inv X pins σ H s) : ∀ (xs : List PyData) (vs : List V) (us : List Value), RPs X.K Z m H xs vs → Vals vs us → ∃ as, ReadsAll s.heap us xs as
  | [], vs, us, h, r => by simp only [RPs] at h; subst h; cases r; exact ⟨_, .nil⟩
  | x :: xs, vs, us, h, r => by
    simp only [RPs] at h
    obtain ⟨v, w, rfl, h1, h2⟩ := h
    cases r with
    | cons r1 r2 =>
      obtain ⟨as, q1⟩ := RP.reads I x v _ h1 r1
      obtain ⟨bs, q2⟩ := RPs.reads I xs w _ h2 r2
      exact ⟨_, .cons q1 q2⟩
end
theorem RP.noDict (K : PySem.W.Frag) : ∀ (p : PyData) (v : V), RP K Z m H p v → p.hasDict = false
  | .none, _, _ => rfl
  | .bool _, _, _ => rfl
  | .int _, _, _ => rfl
  | .str _, _, _ => rfl
  | .tuple xs, v, h => by
    simp only [RP] at h
    obtain ⟨_, vs, _, _, h⟩ := h
    simp only [PyData.hasDict]
    exact go xs vs h
  | .list xs, v, h => by
    simp only [RP] at h
    obtain ⟨_, vs, _, _, _, h⟩ := h
    simp only [PyData.hasDict]
    exact go xs vs h
  | .dict _, v, h => by simp only [RP] at h
where go : ∀ (xs : List PyData) (vs : List V), RPs K Z m H xs vs → PyData.hasDictAll xs = false
  | [], _, _ => rfl
  | x :: xs, vs, h => by
    simp only [RPs] at h
    obtain ⟨v, w, rfl, h1, h2⟩ := h
    simp only [PyData.hasDictAll, RP.noDict K x v h1, go xs w h2, Bool.or_self]
end
abbrev D2 := D → D → Mu → DK → Prop
def OpD (X : Cx) (op : Value → Value → Sem Value) (r : D2) : Prop :=
  ∀ (pins : List (Addr × Obj)) (s : Shared) (σ : L2.St) (H : Hp) (Z : Addr → Prop) (m : Mu) (x y : V) (dx dy : D) (v u : Value) (R : DK) (Q : VK), Inv X pins σ H s → Ok X.K Z m H → RelV x v → RelV y u → RD X.K Z m H dx x → RD X.K Z m H dy y → r dx dy m R →
    (∀ d m' v' H', R d m' → Ext X.K Z m H m' H' → Ok X.K Z m' H' → RD X.K Z m' H' d v' → Q v' H') → wpAny (model X.prog X.w) X.A (op v u) (EP X pins σ Q) X.xe s
@[simp] def dBin (r : D2) (f g : DE) : DE := fun d m Q => f d m fun x m1 => g d m1 fun y m2 => r x y m2 Q
section
variable {X : Cx} {a b c : Expr} {f g : DE} {pos : Pos}
theorem le2 {op : Value → Value → Sem Value} {r : D2} (ho : OpD X op r) (ha : PE X a (LE X.K f)) (hb : PE X b (LE X.K g)) {pins : List (Addr × Obj)} {s : Shared} {σ : L2.St} {H : Hp} {Q : VK} (I : Inv X pins σ H s)
    (h : LE X.K (dBin r f g) σ H Q) :
    wpAny (model X.prog X.w) X.A (eval a X.env) (fun v s₁ => wpAny (model X.prog X.w) X.A (eval b X.env) (fun u s₂ => wpAny (model X.prog X.w) X.A (op v u) (EP X pins σ Q) X.xe s₂) X.xe s₁) X.xe s := by
  obtain ⟨Z, d, m, R, ok, rs, hf, k⟩ := h
  refine binT ha hb I (R := fun x y H2 => ∃ m2 dx dy, Ok X.K Z m2 H2 ∧ Ext X.K Z m H m2 H2 ∧ RD X.K Z m2 H2 dx x ∧ RD X.K Z m2 H2 dy y ∧ r dx dy m2 R) ?_ fun v u s2 x y H2 I2 rx ry ⟨m2, dx, dy, ok2, e2, r1, r2, q⟩ => ?_
  · exact ⟨Z, d, m, _, ok, rs, hf, fun x m1 v H1 q e1 ok1 r1 => ⟨Z, d, m1, _, ok1, rs.ext e1, q, fun y m2 v2 H2 q2 e2 ok2 r2 => ⟨m2, x, y, ok2, e1.trans e2, r1.ext e2, r2, q2⟩⟩⟩
  · exact ho pins s2 σ H2 Z m2 x y dx dy v u R Q I2 ok2 rx ry r1 r2 q fun d' m' v' H' h1 h2 h3 h4 => k d' m' v' H' h1 (e2.trans h2) h3 h4
theorem le_bin {op : Operator} {r : D2} (ho : OpD X (binaryOp op) r) (ha : PE X a (LE X.K f)) (hb : PE X b (LE X.K g)) : PE X (.BinOp a op b pos) (LE X.K (dBin r f g)) :=
  fun _ _ _ _ _ I h => wpAny_BinOp (le2 ho ha hb I h)
theorem le_cmp {op : CmpOp} {r : D2} (ho : OpD X (compareOp op) r) (ha : PE X a (LE X.K f)) (hb : PE X b (LE X.K g)) (hm : behindInMarks op b = false := by exact nomark _) : PE X (.Compare a [op] [b] pos) (LE X.K (dBin r f g)) :=
  fun _ _ _ _ _ I h => wpAny_Compare1 (le2 ho ha hb I h) hm
@[simp] def dTst (f : DE) : DT := fun d m Q => f d m fun x m1 => ∃ b, x = .dat (.bool b) ∧ Q b m1
theorem LT.le {K : PySem.W.Frag} {σ : L2.St} {H : Hp} {Q : Bool → Hp → Prop} (h : LT K (dTst f) σ H Q) : LE K f σ H (fun x H' => ∃ k, x = .bl k ∧ Q k H') := by
  obtain ⟨Z, d, m, R, ok, rs, hf, k⟩ := h
  refine ⟨Z, d, m, _, ok, rs, hf, fun x m' v H' ⟨b, e, q⟩ e1 ok1 rd => ⟨b, ?_, k b m' H' q e1 ok1⟩⟩
  subst e
  simpa only [RD, RP] using rd
theorem lt_cmp {op : CmpOp} {r : D2} (ho : OpD X (compareOp op) r) (ha : PE X a (LE X.K f)) (hb : PE X b (LE X.K g)) (hm : behindInMarks op b = false := by exact nomark _) : PT X (.Compare a [op] [b] pos) (LT X.K (dTst (dBin r f g))) := by
  intro pins s σ H Q I h
  refine wpAny_isTrue_Compare1 (thn (le2 ho ha hb I h.le) fun v s1 h1 => thn h1 fun u s2 h2 => thn h2 fun c s3 ⟨z, H3, I3, r3, k, e, q3⟩ => ?_) hm
  subst e
  cases r3
  exact wpAny_truthy_bool ⟨H3, I3, q3⟩
theorem lt_val (h : PE X a (LE X.K f)) (he : ∀ whole, isTrue a X.env whole = (do let v ← whole; standAt a.pos; holding [v] (truthy v)) := by intro _; rfl) : PT X a (LT X.K (dTst f)) :=
  PT.imp (pt_val h he) fun _ _ _ q => q.le
end
section
variable {X : Cx} {a b c : Expr} {rest : List Expr} {f g : DE} {t u : DT} {pos : Pos}
@[simp] def dAndT (t u : DT) : DT := fun d m Q => t d m fun k m1 => if k = true then u d m1 Q else Q false m1
@[simp] def dOrT (t u : DT) : DT := fun d m Q => t d m fun k m1 => if k = true then Q true m1 else u d m1 Q
@[simp] def dNotT (t : DT) : DT := fun d m Q => t d m fun k m1 => Q (!k) m1
theorem PW.imp {e : Expr} {t t' : TT} (h : PW X e t) (q : ∀ s H Q, t' s H Q → t s H Q) : PW X e t' := fun wh pins s d H Q I w => h wh pins s d H Q I (q _ _ _ w)
theorem lw_and1 (ha : PT X a (LT X.K t)) : PW X (.BoolOp .And [a] pos) (LT X.K t) := pw_and1 ha
theorem lw_or1 (ha : PT X a (LT X.K t)) : PW X (.BoolOp .Or [a] pos) (LT X.K t) := pw_or1 ha
theorem lw_and (ha : PT X a (LT X.K t)) (hb : PW X (.BoolOp .And (b :: rest) pos) (LT X.K u)) : PW X (.BoolOp .And (a :: b :: rest) pos) (LT X.K (dAndT t u)) :=
  PW.imp (pw_and ha hb) fun s H Q ⟨Z, d, m, R, ok, rs, h, k⟩ => ⟨Z, d, m, _, ok, rs, h, fun b m1 H1 q e1 ok1 => by
    cases b with
    | true => rw [if_pos rfl] at q ⊢; exact ⟨Z, d, m1, R, ok1, rs.ext e1, q, fun b' m2 H2 q2 e2 ok2 => k b' m2 H2 q2 (e1.trans e2) ok2⟩
    | false => rw [if_neg Bool.false_ne_true] at q ⊢; exact k false m1 H1 q e1 ok1⟩
theorem lw_or (ha : PT X a (LT X.K t)) (hb : PW X (.BoolOp .Or (b :: rest) pos) (LT X.K u)) : PW X (.BoolOp .Or (a :: b :: rest) pos) (LT X.K (dOrT t u)) :=
  PW.imp (pw_or ha hb) fun s H Q ⟨Z, d, m, R, ok, rs, h, k⟩ => ⟨Z, d, m, _, ok, rs, h, fun b m1 H1 q e1 ok1 => by
    cases b with
    | false => rw [if_neg Bool.false_ne_true] at q ⊢; exact ⟨Z, d, m1, R, ok1, rs.ext e1, q, fun b' m2 H2 q2 e2 ok2 => k b' m2 H2 q2 (e1.trans e2) ok2⟩
    | true => rw [if_pos rfl] at q ⊢; exact k true m1 H1 q e1 ok1⟩
theorem lt_not (ha : PT X a (LT X.K t)) : PT X (.UnaryOp .Not a pos) (LT X.K (dNotT t)) :=
  PT.imp (pt_not ha) fun s H Q ⟨Z, d, m, R, ok, rs, h, k⟩ => ⟨Z, d, m, _, ok, rs, h, fun b m1 H1 q e1 ok1 => k (!b) m1 H1 q e1 ok1⟩
@[simp] def dAnd (f g : DE) : DE := fun d m Q => f d m fun x m1 => ∃ b, x = .dat (.bool b) ∧ if b = true then g d m1 Q else Q (.dat (.bool false)) m1
@[simp] def dNot (f : DE) : DE := fun d m Q => f d m fun x m1 => ∃ b, x = .dat (.bool b) ∧ Q (.dat (.bool (!b))) m1
theorem RD.bl {K : PySem.W.Frag} {Z : Addr → Prop} {m : Mu} {H : Hp} {b : Bool} {v : V} (h : RD K Z m H (.dat (.bool b)) v) : v = .bl b := by simpa only [RD, RP] using h
theorem RD.ofBl {K : PySem.W.Frag} {Z : Addr → Prop} {m : Mu} {H : Hp} {b : Bool} : RD K Z m H (.dat (.bool b)) (.bl b) := by simp only [RD, RP]
theorem le_one {op : BoolOp} (h : PE X a (LE X.K f)) : PE X (.BoolOp op [a] pos) (LE X.K f) := pe_one h
theorem le_and (ha : PE X a (LE X.K f)) (hb : PE X (.BoolOp .And (b :: rest) pos) (LE X.K g)) : PE X (.BoolOp .And (a :: b :: rest) pos) (LE X.K (dAnd f g)) :=
  PE.imp (pe_and ha hb) fun s H Q ⟨Z, d, m, R, ok, rs, h, k⟩ => ⟨Z, d, m, _, ok, rs, h, fun x m1 v H1 ⟨b, e, q⟩ e1 ok1 rd => by
    subst e
    refine ⟨b, rd.bl, ?_⟩
    cases b with
    | true => rw [if_pos rfl] at q ⊢; exact ⟨Z, d, m1, R, ok1, rs.ext e1, q, fun x2 m2 v2 H2 q2 e2 ok2 r2 => k x2 m2 v2 H2 q2 (e1.trans e2) ok2 r2⟩
    | false => rw [if_neg Bool.false_ne_true] at q ⊢; exact k _ m1 _ H1 q e1 ok1 .ofBl⟩
theorem le_not (ha : PE X a (LE X.K f)) : PE X (.UnaryOp .Not a pos) (LE X.K (dNot f)) :=
  PE.imp (pe_not ha) fun s H Q ⟨Z, d, m, R, ok, rs, h, k⟩ => ⟨Z, d, m, _, ok, rs, h, fun x m1 v H1 ⟨b, e, q⟩ e1 ok1 rd => by
    subst e
    exact ⟨b, rd.bl, k _ m1 _ H1 q e1 ok1 .ofBl⟩⟩
@[simp] def dIte (t : DT) (f g : DE) : DE := fun d m Q => t d m fun k m1 => if k = true then f d m1 Q else g d m1 Q
theorem le_ite (hc : PT X c (LT X.K t)) (ha : PE X a (LE X.K f)) (hb : PE X b (LE X.K g)) : PE X (.IfExp c a b pos) (LE X.K (dIte t f g)) :=
  PE.imp (pe_ifExp hc ha hb) fun s H Q ⟨Z, d, m, R, ok, rs, h, k⟩ => ⟨Z, d, m, _, ok, rs, h, fun b m1 H1 q e1 ok1 => by
    cases b with
    | true => rw [if_pos rfl] at q ⊢; exact ⟨Z, d, m1, R, ok1, rs.ext e1, q, fun x2 m2 v2 H2 q2 e2 ok2 r2 => k x2 m2 v2 H2 q2 (e1.trans e2) ok2 r2⟩
    | false => rw [if_neg Bool.false_ne_true] at q ⊢; exact ⟨Z, d, m1, R, ok1, rs.ext e1, q, fun x2 m2 v2 H2 q2 e2 ok2 r2 => k x2 m2 v2 H2 q2 (e1.trans e2) ok2 r2⟩⟩
end
section
variable {X : Cx} {e : Expr} {es : List Expr} {f : DE} {g : DA} {pos : Pos}
@[simp] def dNil : DA := fun _ m Q => Q [] m
@[simp] def dCons (f : DE) (g : DA) : DA := fun d m Q => f d m fun x m1 => g d m1 fun xs m2 => Q (x :: xs) m2
theorem la_nil : PA X [] (LA X.K dNil) := PA.imp pa_nil fun s H Q ⟨Z, d, m, R, ok, rs, h, k⟩ => k [] m [] H h Ext.refl ok rfl
theorem la_cons (ha : PE X e (LE X.K f)) (hr : PA X es (LA X.K g)) (hs : starEach (e :: es) X.env = (false, eval e X.env) :: starEach es X.env := by rfl) : PA X (e :: es) (LA X.K (dCons f g)) :=
  PA.imp (pa_cons ha hr hs) fun s H Q ⟨Z, d, m, R, ok, rs, h, k⟩ => ⟨Z, d, m, _, ok, rs, h, fun x m1 v H1 q e1 ok1 r1 => ⟨Z, d, m1, _, ok1, rs.ext e1, q, fun xs m2 vs H2 q2 e2 ok2 r2 =>
    k (x :: xs) m2 (v :: vs) H2 q2 (e1.trans e2) ok2 ⟨v, vs, rfl, r1.ext e2, r2⟩⟩⟩
@[simp] def dTup (g : DA) : DE := fun d m Q => g d m fun xs m1 => ∃ ps, pds xs = some ps ∧ ps.length ≤ sizeLine ∧ Q (.dat (.tuple ps)) m1
theorem le_tup {j : Nat} (h : PA X es (LA X.K g)) : PE X (.Tuple es j pos) (LE X.K (dTup g)) :=
  PE.imp (pe_tup h) fun s H Q ⟨Z, d, m, R, ok, rs, h, k⟩ => ⟨Z, d, m, _, ok, rs, h, fun xs m1 vs H1 ⟨ps, e, hz, q⟩ e1 ok1 r1 => by
    have rp := r1.pds e
    refine ⟨by rw [rp.length]; exact hz, fun p hp => ?_⟩
    have sm : Same H1 (upd H1 p (.tup vs)) := same_new hp
    refine k _ m1 _ _ q (e1.trans (ok1.ext sm)) (ok1.grow sm) ?_
    simp only [RD, RP]
    exact ⟨p, vs, rfl, .inl (.inl upd_same), RPs.ext (ok1.ext sm) _ _ rp⟩⟩
@[simp] def dLst (g : DA) : DE := fun d m Q => g d m fun xs m1 => ∃ ps, pds xs = some ps ∧ ps.length ≤ sizeLine ∧ Q (.dat (.list ps)) m1
@[simp] def dLstC (g : DA) : DE := fun d m Q => g d m fun xs m1 => ∃ ps, pds xs = some ps ∧ ps.length ≤ sizeLine ∧ ∀ a, m1 a = none → Q (.cel a) (updM m1 a (.l ps))
theorem pe_lstK {t : TA} (h : PA X es t) : PE X (.List es pos) (fun s H Q => t s H fun xs H1 => xs.length ≤ sizeLine ∧ ∀ p, H1 p = none → X.K.lookup p = none → Q (.ref p) (upd H1 p (.lst xs))) := by
  intro pins s σ H Q I hq
  refine wpAny_List_spliced (thn (h pos pins s σ H _ I hq) fun us s1 ⟨xs, H1, I1, r, z, q⟩ => ⟨by rw [← r.length]; exact z, ?_⟩)
  have hf : H1 s1.heap.objs.size = none := I1.hok.fresh (Nat.le_refl _)
  have hk : X.K.lookup s1.heap.objs.size = none := by
    cases e : X.K.lookup s1.heap.objs.size with
    | none => rfl
    | some o => exact absurd (Heap.lt_size (I1.kIn _ o e)) (Nat.lt_irrefl _)
  refine ⟨.ref s1.heap.objs.size, upd H1 s1.heap.objs.size (.lst xs), I1.laid (t' := s1.toks) (fun b u e => Heap.get?_push_of_some _ e) (Nat.le_refl _) ?_, rfl, q _ hf hk⟩
  exact ⟨z, us, 0, r, Heap.get?_push_size _ rfl⟩
theorem ok_none {K : PySem.W.Frag} {Z : Addr → Prop} {m : Mu} {H : Hp} {p : Addr} (ok : Ok K Z m H) (hp : H p = none) : m p = none ∧ ¬ Z p := by
  refine ⟨?_, fun h => (ok.z p h).2 hp⟩
  cases e : m p with
  | none => rfl
  | some ds =>
    obtain ⟨vs, h1, _⟩ := ok.g p ds e
    rw [hp] at h1
    cases h1
theorem le_lst (h : PA X es (LA X.K g)) : PE X (.List es pos) (LE X.K (dLst g)) :=
  PE.imp (pe_lstK h) fun s H Q ⟨Z, d, m, R, ok, rs, h, k⟩ => ⟨Z, d, m, _, ok, rs, h, fun xs m1 vs H1 ⟨ps, e, hz, q⟩ e1 ok1 r1 => by
    have rp := r1.pds e
    refine ⟨by rw [rp.length]; exact hz, fun p hp hk => ?_⟩
    have sm : Same H1 (upd H1 p (.lst vs)) := same_new hp
    refine k _ m1 _ _ q (e1.trans (ok1.ext sm)) (ok1.grow sm) ?_
    simp only [RD, RP]
    exact ⟨p, vs, rfl, ok_none ok1 hp, .inl (.inl upd_same), RPs.ext (ok1.ext sm) _ _ rp⟩⟩
theorem le_lstC (h : PA X es (LA X.K g)) : PE X (.List es pos) (LE X.K (dLstC g)) :=
  PE.imp (pe_lstK h) fun s H Q ⟨Z, d, m, R, ok, rs, h, k⟩ => ⟨Z, d, m, _, ok, rs, h, fun xs m1 vs H1 ⟨ps, e, hz, q⟩ e1 ok1 r1 => by
    have rp := r1.pds e
    refine ⟨by rw [rp.length]; exact hz, fun p hp hk => ?_⟩
    refine k _ _ _ _ (q p (ok_none ok1 hp).1) (e1.trans (Ext.cell ok1 hp hk)) (ok1.cell hp hk rp) ⟨rfl, ?_⟩
    rw [updM_same]
    rfl⟩
end
end DL
set_option Elab.async false
set_option linter.all false
set_option maxRecDepth 100000
set_option maxHeartbeats 4000000
namespace DL
open PySem PySem.Spec PyProof.Rows L2
theorem noFill_tuple_mul : fillsNumberSlot (.type "tuple") "mul" = pure false := PySem.fillsNumberSlot_seq (id := "tuple.__mul__") (r := some (.builtin "tuple.__rmul__")) PySem.F.slot_tuple_mul.lookup (by decide +kernel) PySem.F.slot_tuple_rmul.lookup (by decide +kernel)
theorem repeat_tuple : seqRepeat? (.type "tuple") = pure (some (.builtin "tuple.__mul__")) := by
  unfold seqRepeat?
  rw [PySem.seqSlot_of (T := "tuple") (name := "__mul__") (id := "tuple.__mul__") PySem.F.slot_tuple_mul.lookup (by decide +kernel), PySem.seqSlot_of (T := "tuple") (name := "__rmul__") (id := "tuple.__rmul__") PySem.F.slot_tuple_rmul.lookup (by decide +kernel)]
  rfl
theorem rmul_tuple (a : Int) (t : Tok) (l : Addr) (its : Array Value) (n : Nat) (dd : Option Addr) (sl : Array (Option Value)) : Meets (Builtin.«int.__rmul__» ⟨[.int a t, .ref l], []⟩) (fun _ R s => s.heap.get? l = some { cls := .type "tuple", dict := dd, data := .seq its n, slots := sl } ∧ R (.ok (.ret Value.notImplemented)) s) :=
  .of_wp fun prog w A R s hs => by
    obtain ⟨hp, g, d, tk, os⟩ := s; obtain ⟨hl, h⟩ := hs
    wp_walk
    exact ⟨_, rfl, h⟩
theorem fold_rep (vs : List Value) : ∀ (n : Nat) (acc : List Value), (List.replicate n vs.toArray).foldl (· ++ ·) acc.toArray = (acc ++ (List.replicate n vs).flatten).toArray
  | 0, acc => by simp
  | n + 1, acc => by
    rw [List.replicate_succ, List.foldl_cons, List.replicate_succ, List.flatten_cons]
    have := fold_rep vs n (acc ++ vs)
    rw [← List.append_assoc, ← this]
    simp
theorem len_rep' {α : Type} (xs : List α) : ∀ n : Nat, (List.replicate n xs).flatten.length = xs.length * n
  | 0 => by simp
  | n + 1 => by rw [List.replicate_succ, List.flatten_cons, List.length_append, len_rep' xs n, Nat.mul_succ, Nat.add_comm]
theorem tup_mul_meets (t : Addr) (its : Array Value) (k : Int) (tok : Tok) (h1 : its.size ≠ 0) (h2 : 2 ≤ k) (h3 : k ≤ 100) (h4 : its.size * k.toNat ≤ sizeLine) : Meets (Builtin.«tuple.__mul__» ⟨[.ref t, .int k tok], []⟩)
    (fun _ R s => IsTup s.heap t its ∧ R (.ok (.ret (.ref s.heap.objs.size))) { s with heap := s.heap.push { cls := .type "tuple", data := .seq ((List.replicate k.toNat its).foldl (· ++ ·) #[]) } }) :=
  .of_wp fun prog w A R s hs => by
    obtain ⟨ht, h⟩ := hs
    show wpAny _ _ (asIndex (.int k tok) >>= _) _ _ _
    refine wpAny_bind (wpAny_pure ?_)
    show wpAny _ _ (if (decide (k < -(2 ^ 63)) || decide (k ≥ 2 ^ 63)) = true then _ else _) _ _ _
    rw [if_neg (by simp; omega)]
    show wpAny _ _ (Builtin.Tuple.tupleItemsOf (.ref t) >>= _) _ _ _
    refine wpAny_bind (tupleItemsOf_ ht ?_)
    have e1 : its.isEmpty = false := by
      rw [Array.isEmpty_eq_false_iff]
      rintro rfl
      exact h1 rfl
    have e2 : (k == 1) = false := by
      rw [beq_eq_false_iff_ne]
      omega
    show wpAny _ _ (if (its.isEmpty || k == 1) = true then _ else _) _ _ _
    rw [e1, e2, if_neg (by simp)]
    show wpAny _ _ (if (decide (k ≤ 0) || false) = true then _ else _) _ _ _
    rw [if_neg (by simp; omega)]
    have hk : ((its.size : Nat) : Int) * k = ((its.size * k.toNat : Nat) : Int) := by
      push_cast
      rw [Int.toNat_of_nonneg (by omega)]
    have hs := line63
    show wpAny _ _ (if ((its.size : Nat) : Int) * k > (2 ^ 63 - 1) / 8 then _ else _) _ _ _
    rw [if_neg ?c1]
    case c1 =>
      rw [hk]
      have : (sizeLine : Nat) ≤ (2 ^ 63 - 1) / 8 := by decide
      omega
    show wpAny _ _ (if (decide (((its.size : Nat) : Int) * k > (sizeLine : Int))) = true then _ else _) _ _ _
    rw [if_neg ?c2]
    case c2 =>
      rw [hk]
      intro q
      have q' := of_decide_eq_true q
      omega
    show wpAny _ _ (Builtin.Tuple.tupleExact ((List.replicate k.toNat its).foldl (· ++ ·) #[]) >>= _) _ _ _
    refine wpAny_bind (m := Builtin.Tuple.tupleExact _) (wpAny_newObj_type (wpAny_pure ⟨_, rfl, h⟩) ?_)
    show ((List.replicate k.toNat its).foldl (· ++ ·) #[]).size ≤ sizeLine
    have e := fold_rep its.toList k.toNat []
    rw [List.nil_append] at e
    have e' : (List.replicate k.toNat its).foldl (· ++ ·) #[] = (List.replicate k.toNat its.toList).flatten.toArray := e
    rw [e', List.size_toArray, len_rep', Array.length_toList]
    exact h4
theorem Vals.rep {xs : List V} {us : List Value} (h : Vals xs us) : ∀ n : Nat, Vals (List.replicate n xs).flatten (List.replicate n us).flatten
  | 0 => .nil
  | n + 1 => by
    rw [List.replicate_succ, List.replicate_succ, List.flatten_cons, List.flatten_cons]
    exact h.append (Vals.rep h n)
theorem RPs.rep {K : PySem.W.Frag} {Z : Addr → Prop} {m : Mu} {H : Hp} {xs : List PyData} {vs : List V} (h : RPs K Z m H xs vs) : ∀ n : Nat, RPs K Z m H (List.replicate n xs).flatten (List.replicate n vs).flatten
  | 0 => by simp [RPs]
  | n + 1 => by
    rw [List.replicate_succ, List.replicate_succ, List.flatten_cons, List.flatten_cons]
    exact h.append (RPs.rep h n)
section
variable {X : Cx}
theorem rep_tup {pins : List (Addr × Obj)} {s : Shared} {σ : L2.St} {H : Hp} {Q : VK} {a : Addr} {xs : List V} {k : Int} {t : Tok} (I : Inv X pins σ H s) (ha : SqT X.K H a xs) (h1 : xs ≠ []) (h2 : 2 ≤ k) (h3 : k ≤ 100) (h4 : xs.length * k.toNat ≤ sizeLine)
    (q : ∀ p, H p = none → Q (.ref p) (upd H p (.tup (List.replicate k.toNat xs).flatten))) : wpAny (model X.prog X.w) X.A (binaryOp .Mult (.ref a) (.int k t)) (EP X pins σ Q) X.xe s := by
  obtain ⟨its, r, p, hz⟩ := I.tuple ha
  have hl := r.length
  obtain ⟨⟨cls, dd, data, sl⟩, ho, hc, n, hd⟩ := id p
  simp only at hc hd
  subst hc hd
  refine wpAny_binaryOp_repeat_ref (T := "tuple") (U := "int") (by decide) ⟨_, ho, rfl⟩ (fun s' => typeIs_int s' k t) noFill_tuple_mul PySem.F.fills_int_mul PySem.F.slot_int_rmul repeat_tuple PySem.F.slot_int_index.lookup
    (call_meets PySem.F.slot_int_rmul (typeIs_int s k t) PySem.F.entry_int_rmul (PySem.F.args_int_rmul_2 _ _) (rmul_tuple k t a its.toArray n dd sl) ⟨ho, rfl, ⟨_, ho, rfl⟩, call_meets PySem.F.slot_tuple_mul ⟨_, ho, rfl⟩ PySem.F.entry_tuple_mul (PySem.F.args_tuple_mul_2 _ _) (tup_mul_meets a its.toArray k t ?_ h2 h3 ?_) ⟨p, ?_⟩⟩)
  · rw [List.size_toArray, ← hl]
    intro e
    exact h1 (List.length_eq_zero_iff.mp e)
  · rw [List.size_toArray, ← hl]
    exact h4
  · have e := fold_rep its k.toNat []
    rw [List.nil_append] at e
    rw [e]
    exact ⟨.ref s.heap.objs.size, _, I.laid (t' := s.toks) (o := .tup (List.replicate k.toNat xs).flatten) (fun b ob q => Heap.get?_push_of_some _ q) (Nat.le_refl _) ⟨⟨by rw [len_rep']; exact h4, NoD.new _ _ _⟩, _, Vals.rep r k.toNat, IsTup.new _ _⟩, rfl, q _ (I.hok.fresh (Nat.le_refl _))⟩
end
end DL
set_option Elab.async false
set_option linter.all false
set_option maxRecDepth 100000
set_option maxHeartbeats 4000000
namespace DL
open PySem PySem.Spec PyProof.Rows L2
@[simp] def aAdd : D2
  | .dat (.int i), .dat (.int j), m, Q => Q (.dat (.int (i + j))) m
  | .dat (.str a), .dat (.str b), m, Q => a.length + b.length ≤ sizeLine ∧ Q (.dat (.str (a ++ b))) m
  | .dat (.tuple a), .dat (.tuple b), m, Q => a.length + b.length ≤ sizeLine ∧ Q (.dat (.tuple (a ++ b))) m
  | .dat (.list a), .dat (.list b), m, Q => a.length + b.length ≤ sizeLine ∧ Q (.dat (.list (a ++ b))) m
  | .cel c, .dat (.list b), m, Q => ∃ a, m c = some (.l a) ∧ a.length + b.length ≤ sizeLine ∧ Q (.dat (.list (a ++ b))) m
  | _, _, _, _ => False
@[simp] def aSub : D2
  | .dat (.int i), .dat (.int j), m, Q => Q (.dat (.int (i - j))) m
  | _, _, _, _ => False
@[simp] def aMul : D2
  | .dat (.int i), .dat (.int j), m, Q => IntMulOk i j ∧ Q (.dat (.int (i * j))) m
  | .dat (.tuple a), .dat (.int k), m, Q => a ≠ [] ∧ 2 ≤ k ∧ k ≤ 100 ∧ a.length * k.toNat ≤ sizeLine ∧ Q (.dat (.tuple (List.replicate k.toNat a).flatten)) m
  | _, _, _, _ => False
@[simp] def aDiv : D2
  | .dat (.int i), .dat (.int j), m, Q => j ≠ 0 ∧ j.natAbs.log2 < 9000 ∧ Q (.dat (.int (i.fdiv j))) m
  | _, _, _, _ => False
@[simp] def aMod : D2
  | .dat (.int i), .dat (.int j), m, Q => j ≠ 0 ∧ Q (.dat (.int (i.fmod j))) m
  | _, _, _, _ => False
@[simp] def aPow : D2
  | .dat (.int i), .dat (.int j), m, Q => (0 ≤ j ∧ j ≤ 1000000 ∧ i.natAbs < 2 ^ 64) ∧ Q (.dat (.int (i ^ j.toNat))) m
  | _, _, _, _ => False
@[simp] def aLt : D2
  | .dat (.int i), .dat (.int j), m, Q => Q (.dat (.bool (decide (i < j)))) m
  | _, _, _, _ => False
@[simp] def aLe : D2
  | .dat (.int i), .dat (.int j), m, Q => Q (.dat (.bool (decide (i ≤ j)))) m
  | _, _, _, _ => False
@[simp] def aGt : D2
  | .dat (.int i), .dat (.int j), m, Q => Q (.dat (.bool (decide (j < i)))) m
  | _, _, _, _ => False
@[simp] def aEq : D2
  | .dat (.str a), .dat (.str b), m, Q => Q (.dat (.bool (decide (a = b)))) m
  | .dat p, .dat q, m, Q => p.canLay0 = true ∧ q.canLay0 = true ∧ p.depth ≤ 100 ∧ Q (.dat (.bool (PyData.eqv p q))) m
  | _, _, _, _ => False
@[simp] def aNe : D2
  | .dat (.str a), .dat (.str b), m, Q => Q (.dat (.bool (!decide (a = b)))) m
  | .dat p, .dat q, m, Q => p.canLay0 = true ∧ q.canLay0 = true ∧ p.depth ≤ 100 ∧ Q (.dat (.bool (!PyData.eqv p q))) m
  | _, _, _, _ => False
section
variable {X : Cx}
theorem RD.int {K : PySem.W.Frag} {Z : Addr → Prop} {m : Mu} {H : Hp} {i : Int} {v : V} (h : RD K Z m H (.dat (.int i)) v) : v = .int i := by simpa only [RD, RP] using h
theorem RD.ofInt {K : PySem.W.Frag} {Z : Addr → Prop} {m : Mu} {H : Hp} {i : Int} : RD K Z m H (.dat (.int i)) (.int i) := by simp only [RD, RP]
theorem RD.str {K : PySem.W.Frag} {Z : Addr → Prop} {m : Mu} {H : Hp} {i : Str} {v : V} (h : RD K Z m H (.dat (.str i)) v) : v = .str i := by simpa only [RD, RP] using h
theorem RD.ofStr {K : PySem.W.Frag} {Z : Addr → Prop} {m : Mu} {H : Hp} {i : Str} : RD K Z m H (.dat (.str i)) (.str i) := by simp only [RD, RP]
theorem od_sub : OpD X (binaryOp .Sub) aSub := by
  intro pins s σ H Z m x y dx dy v u R Q I ok rx ry r1 r2 h k
  unfold aSub at h
  split at h
  · cases r1.int; cases r2.int
    exact op_sub pins s σ H _ _ v u Q I rx ry ⟨_, _, rfl, rfl, k _ m _ H h Ext.refl ok .ofInt⟩
  · exact h.elim
theorem od_mul : OpD X (binaryOp .Mult) aMul := by
  intro pins s σ H Z m x y dx dy v u R Q I ok rx ry r1 r2 h k
  unfold aMul at h
  split at h
  · cases r1.int; cases r2.int
    obtain ⟨t, rfl⟩ := rx
    obtain ⟨t', rfl⟩ := ry
    exact mul_int ⟨.int _, H, I.tok _, ⟨_, rfl⟩, k _ m _ H h.2 Ext.refl ok .ofInt⟩ h.1
  · rename_i a j
    obtain ⟨h1, h2, h3, h4, h5⟩ := h
    cases r2.int
    simp only [RD, RP] at r1
    obtain ⟨p, vs, rfl, g1, g2⟩ := r1
    cases rx
    obtain ⟨t', rfl⟩ := ry
    have hl := g2.length
    refine rep_tup I g1 (fun e => h1 ?_) h2 h3 (by rw [hl]; exact h4) fun t ht => ?_
    · subst e
      cases a with
      | nil => rfl
      | cons _ _ => simp at hl
    · have sm : Same H (upd H t (.tup (List.replicate j.toNat vs).flatten)) := same_new ht
      refine k _ m _ _ h5 (ok.ext sm) (ok.grow sm) ?_
      simp only [RD, RP]
      exact ⟨t, _, rfl, .inl (.inl upd_same), RPs.ext (ok.ext sm) _ _ (g2.rep _)⟩
  · exact h.elim
theorem od_div : OpD X (binaryOp .FloorDiv) aDiv := by
  intro pins s σ H Z m x y dx dy v u R Q I ok rx ry r1 r2 h k
  unfold aDiv at h
  split at h
  · cases r1.int; cases r2.int
    obtain ⟨t, rfl⟩ := rx
    obtain ⟨t', rfl⟩ := ry
    exact floordiv_int h.1 ⟨.int _, H, I.tok _, ⟨_, rfl⟩, k _ m _ H h.2.2 Ext.refl ok .ofInt⟩ (.inl (PyProof.noPylong_of_log2 h.2.1))
  · exact h.elim
theorem od_mod : OpD X (binaryOp .Mod) aMod := by
  intro pins s σ H Z m x y dx dy v u R Q I ok rx ry r1 r2 h k
  unfold aMod at h
  split at h
  · cases r1.int; cases r2.int
    exact op_modN pins s σ H _ _ v u Q I rx ry ⟨_, _, rfl, rfl, h.1, k _ m _ H h.2 Ext.refl ok .ofInt⟩
  · exact h.elim
theorem od_pow : OpD X (binaryOp .Pow) aPow := by
  intro pins s σ H Z m x y dx dy v u R Q I ok rx ry r1 r2 h k
  unfold aPow at h
  split at h
  · cases r1.int; cases r2.int
    exact op_pow pins s σ H _ _ v u Q I rx ry ⟨_, _, rfl, rfl, h.1, k _ m _ H h.2 Ext.refl ok .ofInt⟩
  · exact h.elim
theorem od_lt : OpD X (compareOp .Lt) aLt := by
  intro pins s σ H Z m x y dx dy v u R Q I ok rx ry r1 r2 h k
  unfold aLt at h
  split at h
  · cases r1.int; cases r2.int
    exact op_lt pins s σ H _ _ v u Q I rx ry ⟨_, _, rfl, rfl, k _ m _ H h Ext.refl ok .ofBl⟩
  · exact h.elim
theorem od_le : OpD X (compareOp .LtE) aLe := by
  intro pins s σ H Z m x y dx dy v u R Q I ok rx ry r1 r2 h k
  unfold aLe at h
  split at h
  · cases r1.int; cases r2.int
    exact op_le pins s σ H _ _ v u Q I rx ry ⟨_, _, rfl, rfl, k _ m _ H h Ext.refl ok .ofBl⟩
  · exact h.elim
theorem od_gt : OpD X (compareOp .Gt) aGt := by
  intro pins s σ H Z m x y dx dy v u R Q I ok rx ry r1 r2 h k
  unfold aGt at h
  split at h
  · cases r1.int; cases r2.int
    exact op_gt pins s σ H _ _ v u Q I rx ry ⟨_, _, rfl, rfl, k _ m _ H h Ext.refl ok .ofBl⟩
  · exact h.elim
theorem od_eq (hu : X.A.units + 100 < cLine) : OpD X (compareOp .Eq) aEq := by
  intro pins s σ H Z m x y dx dy v u R Q I ok rx ry r1 r2 h k
  unfold aEq at h
  split at h
  · cases r1.str; cases r2.str
    refine op_eq pins s σ H _ _ v u Q I rx ry ⟨rfl, ?_⟩
    have e : ∀ a b : Str, decide (V.str a = V.str b) = decide (a = b) := fun a b => by
      rw [Bool.eq_iff_iff]
      simp
    rw [e]
    exact k _ m _ H h Ext.refl ok .ofBl
  · rename_i p q hne
    obtain ⟨h1, h2, h3, h4⟩ := h
    obtain ⟨as, ra⟩ := RP.reads I p x v r1 rx
    obtain ⟨bs, rb⟩ := RP.reads I q y u r2 ry
    exact SeqAt.compareEq_reads ra rb h1 h2 (by omega) ⟨.bl _, H, I, rfl, k _ m _ H h4 Ext.refl ok .ofBl⟩
  · exact h.elim
theorem od_ne (hu : X.A.units + 100 < cLine) : OpD X (compareOp .NotEq) aNe := by
  intro pins s σ H Z m x y dx dy v u R Q I ok rx ry r1 r2 h k
  unfold aNe at h
  split at h
  · cases r1.str; cases r2.str
    refine op_ne pins s σ H _ _ v u Q I rx ry ⟨rfl, ?_⟩
    have e : ∀ a b : Str, decide (V.str a = V.str b) = decide (a = b) := fun a b => by
      rw [Bool.eq_iff_iff]
      simp
    rw [e]
    exact k _ m _ H h Ext.refl ok .ofBl
  · rename_i p q hne
    obtain ⟨h1, h2, h3, h4⟩ := h
    obtain ⟨as, ra⟩ := RP.reads I p x v r1 rx
    obtain ⟨bs, rb⟩ := RP.reads I q y u r2 ry
    exact SeqAt.compareNe_reads ra rb h1 h2 (by omega) ⟨.bl _, H, I, rfl, k _ m _ H h4 Ext.refl ok .ofBl⟩
  · exact h.elim
theorem cat_tup0 {pins : List (Addr × Obj)} {s : Shared} {σ : L2.St} {H : Hp} {Q : VK} {a b : Addr} {ys : List V} (I : Inv X pins σ H s) (ha : SqT X.K H a []) (hb : SqT X.K H b ys) (q : Q (.ref b) H) :
    wpAny (model X.prog X.w) X.A (binaryOp .Add (.ref a) (.ref b)) (EP X pins σ Q) X.xe s := by
  obtain ⟨its, r1, p1, _⟩ := I.tuple ha
  obtain ⟨its2, r2, p2, _⟩ := I.tuple hb
  cases r1
  obtain ⟨⟨cls, dd, data, sl⟩, ho, hc, n, hd⟩ := id p1
  obtain ⟨⟨cls2, dd2, data2, sl2⟩, ho2, hc2, n2, hd2⟩ := id p2
  simp only at hc hd hc2 hd2
  subst hc hd hc2 hd2
  exact concat_meets ⟨_, ho, rfl⟩ ⟨_, ho2, rfl⟩ noFill_tuple_add seq_tuple_add PySem.F.slot_tuple_add PySem.F.entry_tuple_add (PySem.F.args_tuple_add_2 _ _)
      (tuple_addW0 a b _ _ n n2 dd dd2 sl sl2 (by simp)) ⟨ho, ho2, ⟨.ref b, H, I, rfl, q⟩⟩
theorem op_catS : OpR X (binaryOp .Add) (fun x y H Q => ∃ a b xs ys, x = .ref a ∧ y = .ref b ∧ SqL X.K H a xs ∧ SqL X.K H b ys ∧ xs.length + ys.length ≤ sizeLine ∧ ∀ p, H p = none → Q (.ref p) (upd H p (.lst (xs ++ ys)))) := by
  intro pins s σ H x y v u Q I rx ry h
  obtain ⟨a, b, xs, ys, rfl, rfl, ha, hb, hz, q⟩ := h
  cases rx
  cases ry
  obtain ⟨its, r1, p1, _⟩ := I.list ha
  obtain ⟨its2, r2, p2, _⟩ := I.list hb
  obtain ⟨⟨cls, dd, data, sl⟩, ho, hc, n, hd⟩ := id p1.isList
  obtain ⟨⟨cls2, dd2, data2, sl2⟩, ho2, hc2, n2, hd2⟩ := id p2.isList
  simp only at hc hd hc2 hd2
  subst hc hd hc2 hd2
  have l1 := r1.length
  have l2 := r2.length
  have e : its.toArray ++ its2.toArray = (its ++ its2).toArray := by simp
  refine concat_meets ⟨_, ho, rfl⟩ ⟨_, ho2, rfl⟩ noFill_list_add seq_list_add PySem.F.slot_list_add PySem.F.entry_list_add (PySem.F.args_list_add_2 _ _)
      (list_addW a b its.toArray its2.toArray n n2 dd dd2 sl sl2 (by rw [List.size_toArray, List.size_toArray]; omega)) ⟨ho, ho2, ?_⟩
  rw [e]
  exact ⟨.ref s.heap.objs.size, _, I.laid (t' := s.toks) (o := .lst (xs ++ ys)) (fun b ob q => Heap.get?_push_of_some _ q) (Nat.le_refl _) ⟨by rw [List.length_append]; omega, _, 0, r1.append r2, Heap.get?_push_size _ rfl⟩, rfl, q _ (I.hok.fresh (Nat.le_refl _))⟩
theorem od_add : OpD X (binaryOp .Add) aAdd := by
  intro pins s σ H Z m x y dx dy v u R Q I ok rx ry r1 r2 h k
  unfold aAdd at h
  split at h
  · cases r1.int; cases r2.int
    exact op_add pins s σ H _ _ v u Q I rx ry ⟨_, _, rfl, rfl, k _ m _ H h Ext.refl ok .ofInt⟩
  · cases r1.str; cases r2.str
    exact op_add_str pins s σ H _ _ v u Q I rx ry ⟨_, _, rfl, rfl, h.1, k _ m _ H h.2 Ext.refl ok .ofStr⟩
  · rename_i a b
    simp only [RD, RP] at r1 r2
    obtain ⟨p, vs, rfl, h1, h2⟩ := r1
    obtain ⟨q, ws, rfl, g1, g2⟩ := r2
    have l1 := h2.length
    have l2 := g2.length
    by_cases e1 : a = []
    · subst e1
      simp only [RPs] at h2
      subst h2
      cases rx; cases ry
      refine cat_tup0 I h1 g1 (k _ m _ H h.2 Ext.refl ok ?_)
      simp only [RD, RP]
      exact ⟨q, ws, rfl, g1, by simpa using g2⟩
    · refine op_catT pins s σ H _ _ v u Q I rx ry ⟨p, q, vs, ws, rfl, rfl, h1, g1, ?_, by omega, fun e2 => ?_, fun e2 t ht => ?_⟩
      · rintro rfl
        cases a with
        | nil => exact e1 rfl
        | cons _ _ => simp at l1
      · subst e2
        have e3 : b = [] := by cases b with | nil => rfl | cons _ _ => simp at l2
        subst e3
        refine k _ m _ H h.2 Ext.refl ok ?_
        simp only [RD, RP]
        exact ⟨p, vs, rfl, h1, by simpa using h2⟩
      · have sm : Same H (upd H t (.tup (vs ++ ws))) := same_new ht
        refine k _ m _ _ h.2 (ok.ext sm) (ok.grow sm) ?_
        simp only [RD, RP]
        exact ⟨t, _, rfl, .inl (.inl upd_same), RPs.ext (ok.ext sm) _ _ (h2.append g2)⟩
  · rename_i a b
    simp only [RD, RP] at r1 r2
    obtain ⟨p, vs, rfl, h0, h1, h2⟩ := r1
    obtain ⟨q, ws, rfl, g0, g1, g2⟩ := r2
    have l1 := h2.length
    have l2 := g2.length
    refine op_catS pins s σ H _ _ v u Q I rx ry ⟨p, q, vs, ws, rfl, rfl, h1, g1, by omega, fun t ht => ?_⟩
    have sm : Same H (upd H t (.lst (vs ++ ws))) := same_new ht
    refine k _ m _ _ h.2 (ok.ext sm) (ok.grow sm) ?_
    simp only [RD, RP]
    exact ⟨t, _, rfl, ok_none ok ht, .inl (.inl upd_same), RPs.ext (ok.ext sm) _ _ (h2.append g2)⟩
  · rename_i c b
    obtain ⟨aa, hm, hz, hq⟩ := h
    obtain ⟨rfl, _⟩ := r1
    obtain ⟨vs, g0, g3⟩ := ok.l hm
    simp only [RD, RP] at r2
    obtain ⟨q, ws, rfl, _, g1, g2⟩ := r2
    have l1 := g3.length
    have l2 := g2.length
    refine op_catS pins s σ H _ _ v u Q I rx ry ⟨c, q, vs, ws, rfl, rfl, .inl (.inl g0), g1, by omega, fun t ht => ?_⟩
    have sm : Same H (upd H t (.lst (vs ++ ws))) := same_new ht
    refine k _ m _ _ hq (ok.ext sm) (ok.grow sm) ?_
    simp only [RD, RP]
    exact ⟨t, _, rfl, ok_none ok ht, .inl (.inl upd_same), RPs.ext (ok.ext sm) _ _ (g3.append g2)⟩
  · exact h.elim
end
end DL
set_option Elab.async false
set_option linter.all false
set_option maxRecDepth 100000
set_option maxHeartbeats 4000000
namespace DL
open PySem PySem.Spec PyProof.Rows L2
section
variable {X : Cx} {a b c e : Expr} {es : List Expr} {f g : DE} {ga : DA} {pos p2 p : Pos}
@[simp] def dNeg (f : DE) : DE := fun d m Q => f d m fun x m1 => ∃ i, x = .dat (.int i) ∧ Q (.dat (.int (-i))) m1
theorem le_neg (ha : PE X a (LE X.K f)) : PE X (.UnaryOp .USub a pos) (LE X.K (dNeg f)) :=
  PE.imp (pe_un un_neg ha) fun s H Q h => by
    obtain ⟨Z, d, m, R, ok, rs, h, k⟩ := h
    refine ⟨Z, d, m, _, ok, rs, h, fun x m1 v H1 ⟨i, e, q⟩ e1 ok1 rd => ?_⟩
    subst e
    exact ⟨i, rd.int, k _ m1 _ H1 q e1 ok1 .ofInt⟩
@[simp] def aIx : D2
  | .dat (.tuple xs), .dat (.int i), m, Q => ∃ p, atI xs i = some p ∧ Q (.dat p) m
  | .dat (.list xs), .dat (.int i), m, Q => ∃ p, atI xs i = some p ∧ Q (.dat p) m
  | .cel a, .dat (.int i), m, Q => ∃ xs p, m a = some (.l xs) ∧ atI xs i = some p ∧ Q (.dat p) m
  | .dat (.str z), .dat (.int i), m, Q => ∃ c, z.length ≤ sizeLine ∧ atI z.cps.toList i = some c ∧ Q (.dat (.str ⟨#[c]⟩)) m
  | _, _, _, _ => False
theorem RPs.at {K : PySem.W.Frag} {Z : Addr → Prop} {m : Mu} {H : Hp} {xs : List PyData} {vs : List V} {i : Int} {p : PyData} (h : RPs K Z m H xs vs) (e : atI xs i = some p) : ∃ v, atI vs i = some v ∧ RP K Z m H p v := by
  unfold atI at e ⊢
  rw [h.length]
  cases q : ixN xs.length i with
  | none => rw [q] at e; cases e
  | some j =>
    rw [q] at e
    exact h.get (i := j) e
theorem le_ix (ha : PE X a (LE X.K f)) (hb : PE X b (LE X.K g)) (hs : PlainIx b := by exact fun _ _ => rfl) : PE X (.Subscript a b pos) (LE X.K (dBin aIx f g)) :=
  PE.imp (pe_ix ix_seq ha hb hs) fun s H Q h => by
    obtain ⟨Z, d, m, R, ok, rs, h, k⟩ := h
    refine ⟨Z, d, m, _, ok, rs, h, fun x m1 v H1 q e1 ok1 rx => ⟨Z, d, m1, _, ok1, rs.ext e1, q, fun y m2 w H2 q2 e2 ok2 ry => ?_⟩⟩
    have rx2 := rx.ext e2
    have e12 := e1.trans e2
    unfold aIx at q2
    split at q2
    · obtain ⟨p, ep, q⟩ := q2
      cases ry.int
      simp only [RD, RP] at rx2
      obtain ⟨a, vs, rfl, h1, h2⟩ := rx2
      obtain ⟨z, ez, rz⟩ := h2.at ep
      exact .inr (.inl ⟨a, vs, _, z, rfl, rfl, h1, ez, k _ m2 z H2 q e12 ok2 rz⟩)
    · obtain ⟨p, ep, q⟩ := q2
      cases ry.int
      simp only [RD, RP] at rx2
      obtain ⟨a, vs, rfl, _, h1, h2⟩ := rx2
      obtain ⟨z, ez, rz⟩ := h2.at ep
      exact .inl ⟨a, vs, _, z, rfl, rfl, h1, ez, k _ m2 z H2 q e12 ok2 rz⟩
    · obtain ⟨xs, p, hm, ep, q⟩ := q2
      cases ry.int
      obtain ⟨rfl, _⟩ := rx2
      obtain ⟨vs, h1, h2⟩ := ok2.l hm
      obtain ⟨z, ez, rz⟩ := h2.at ep
      exact .inl ⟨_, vs, _, z, rfl, rfl, .inl (.inl h1), ez, k _ m2 z H2 q e12 ok2 rz⟩
    · obtain ⟨c, hz, ec, q⟩ := q2
      cases ry.int
      cases rx2.str
      exact .inr (.inr ⟨_, _, c, rfl, rfl, hz, ec, k _ m2 _ H2 q e12 ok2 .ofStr⟩)
    · exact q2.elim
abbrev DO := St2 → Mu → (Option Int → Mu → Prop) → Prop
def LO (K : PySem.W.Frag) (f : DO) : TO := fun s H Q => ∃ (Z : Addr → Prop) (d : St2) (m : Mu) (R : Option Int → Mu → Prop), Ok K Z m H ∧ RS K Z m H d s ∧ f d m R ∧
  ∀ x m' H', R x m' → Ext K Z m H m' H' → Ok K Z m' H' → Q x H'
@[simp] def dNoP : DO := fun _ m Q => Q none m
@[simp] def dPart (f : DE) : DO := fun d m Q => f d m fun x m1 => ∃ i, x = .dat (.int i) ∧ Q (some i) m1
theorem PO.imp {e : Option Expr} {t t' : TO} (h : PO X e t) (q : ∀ s H Q, t' s H Q → t s H Q) : PO X e t' := fun pins s d H Q I w => h pins s d H Q I (q _ _ _ w)
theorem lo_none : PO X none (LO X.K dNoP) := PO.imp po_none fun s H Q h => by
  obtain ⟨Z, d, m, R, ok, rs, h, k⟩ := h
  exact k none m H h Ext.refl ok
theorem lo_some (ha : PE X a (LE X.K f)) : PO X (some a) (LO X.K (dPart f)) := PO.imp (po_some ha) fun s H Q h => by
  obtain ⟨Z, d, m, R, ok, rs, h, k⟩ := h
  refine ⟨Z, d, m, _, ok, rs, h, fun x m1 v H1 ⟨i, e, q⟩ e1 ok1 rd => ?_⟩
  subst e
  exact ⟨i, rd.int, k _ m1 H1 q e1 ok1⟩
def cutP {α : Type} (xs : List α) (lo hi : Option Int) : List α := (xs.drop (HT.sIx xs.length 0 lo)).take (HT.sIx xs.length xs.length hi - HT.sIx xs.length 0 lo)
theorem cutP_le {α : Type} (xs : List α) (lo hi : Option Int) : (cutP xs lo hi).length ≤ xs.length := by
  unfold cutP
  rw [List.length_take, List.length_drop]
  omega
theorem RPs.cut {K : PySem.W.Frag} {Z : Addr → Prop} {m : Mu} {H : Hp} {xs : List PyData} {vs : List V} {lo hi : Option Int} (h : RPs K Z m H xs vs) : RPs K Z m H (cutP xs lo hi) (cutV vs lo hi) := by
  unfold cutP cutV
  rw [h.length]
  exact (h.drop _).take _
theorem cut_whole {α : Type} (xs : List α) {lo hi : Option Int} (h : HT.sIx xs.length 0 lo = 0 ∧ HT.sIx xs.length xs.length hi = xs.length) : cutP xs lo hi = xs := by
  unfold cutP
  rw [h.1, h.2]
  simp
def rSlW (K : PySem.W.Frag) : V → Option Int → Option Int → Hp → VK → Prop := fun x lo hi H Q => ∃ a xs, x = .ref a ∧ SqT K H a xs ∧
  (HT.sIx xs.length 0 lo = 0 ∧ HT.sIx xs.length xs.length hi = xs.length) ∧ Q (.ref a) H
theorem getItem_tuple_whole {prog : Program} {w : World} {A : Around} {E : Value → Shared → Prop} {s : Shared} {t sl : Addr} {items : Array Value} {vl vu : Value} {lo hi : Option Int} {Q : Value → Shared → Prop} (ht : IsTup s.heap t items) (hs : s.heap.IsSliceOf sl vl vu .none) (pl : IsPart vl lo) (pu : IsPart vu hi)
    (hw : HT.sIx items.size 0 lo = 0 ∧ HT.sIx items.size items.size hi = items.size)
    (h : Q (.ref t) s) : wpAny (model prog w) A (getItem (.ref t) (.ref sl)) Q E s := by
  obtain ⟨os, hos, hcs, hds⟩ := id hs
  have hTs : s.TypeIs (.ref sl) "slice" := ⟨os, hos, hcs⟩
  unfold getItem
  try with_reducible refine wpAny_holding ?_
  first | refine wpAny_bind (wpAny_pure ?_) | skip
  refine wpAny_bind (wpAny_sequenceKey ht.typeIs (by decide) ?_)
  refine wpAny_bind (wpAny_callSpecial?_slot (name := Str.ofString "__getitem__") ht.typeIs PyProof.Rows.slot_tuple_getitem
    (wpAny_call_entry PyProof.Rows.slot_tuple_getitem ht.typeIs entry_tuple_getitem ?_ (args_tuple_getitem _ _)))
  show wpAny _ _ (Builtin.Tuple.tupleItemsOf (.ref t) >>= _) _ _ s
  refine wpAny_bind (tupleItemsOf_ ht ?_)
  refine wpAny_bind (wpAny_typeOf hTs ?_)
  rw [if_pos (by decide)]
  refine wpAny_bind (HT.sliceApplied_gen hs pl pu ?_)
  have hyes : (((HT.sIx items.size 0 lo : Nat) : Int) == 0 && (1 : Int) == 1 && (HT.sIx items.size items.size hi - HT.sIx items.size 0 lo) == items.size) = true := by
    rw [hw.1, hw.2]
    simp
  show wpAny _ _ (if (((HT.sIx items.size 0 lo : Nat) : Int) == 0 && (1 : Int) == 1 && (HT.sIx items.size items.size hi - HT.sIx items.size 0 lo) == items.size) = true then _ else _) _ _ s
  rw [if_pos hyes]
  refine wpAny_bind ?_
  unfold Builtin.Tuple.tupleIsExact
  refine wpAny_bind (wpAny_typeOf ht.typeIs (wpAny_pure ?_))
  rw [if_pos (by decide)]
  first
    | exact wpAny_bind (wpAny_rule (wpAny_pure ⟨_, rfl, wpAny_pure h⟩))
    | exact wpAny_bind (wpAny_rule (wpAny_bind (wpAny_pure (wpAny_pure ⟨_, rfl, wpAny_pure h⟩))))
theorem sl_whole : SlR X (rSlW X.K) := by
  intro pins s σ H x v vl vu lo hi sl Q I rx hs pl pu h
  obtain ⟨a, xs, rfl, hx, hw, q⟩ := h
  cases rx
  obtain ⟨its, r, ht, hz⟩ := I.tuple hx
  have hlen : its.toArray.size = xs.length := by rw [List.size_toArray]; exact r.length.symm
  refine ⟨"tuple", _, PyProof.Rows.slot_tuple_getitem.lookup, ht.typeIs, ?_⟩
  exact getItem_tuple_whole ht hs pl pu (by rw [hlen]; exact hw) ⟨.ref a, H, I, rfl, q⟩
abbrev DC := List D → Mu → DK → Prop
def CallD (X : Cx) (fn : Value) (r : DC) : Prop :=
  ∀ (pins : List (Addr × Obj)) (s : Shared) (σ : L2.St) (H : Hp) (Z : Addr → Prop) (m : Mu) (xs : List V) (ds : List D) (us : List Value) (R : DK) (Q : VK), Inv X pins σ H s → Ok X.K Z m H → Vals xs us → RDs X.K Z m H ds xs → r ds m R →
    (∀ d m' v' H', R d m' → Ext X.K Z m H m' H' → Ok X.K Z m' H' → RD X.K Z m' H' d v' → Q v' H') → wpAny (model X.prog X.w) X.A (call fn us) (EP X pins σ Q) X.xe s
theorem CallD.cr {fn : Value} {r : DC} (h : CallD X fn r) : CallR X fn (fun vs H Q => ∃ Z m ds R, Ok X.K Z m H ∧ RDs X.K Z m H ds vs ∧ r ds m R ∧ ∀ d m' v' H', R d m' → Ext X.K Z m H m' H' → Ok X.K Z m' H' → RD X.K Z m' H' d v' → Q v' H') := by
  intro pins s σ H xs us Q I r1 ⟨Z, m, ds, R, ok, rd, q, k⟩
  exact h pins s σ H Z m xs ds us R Q I ok r1 rd q k
@[simp] def dCallB (r : DC) (g : DA) : DE := fun d m Q => g d m fun xs m1 => r xs m1 Q
theorem LE.call {r : DC} {H : Hp} {σ : L2.St} {Q : VK} (h : LE X.K (dCallB r ga) σ H Q) :
    LA X.K ga σ H fun vs H1 => ∃ Z m ds R, Ok X.K Z m H1 ∧ RDs X.K Z m H1 ds vs ∧ r ds m R ∧ ∀ d m' v' H', R d m' → Ext X.K Z m H1 m' H' → Ok X.K Z m' H' → RD X.K Z m' H' d v' → Q v' H' := by
  obtain ⟨Z, d, m, R, ok, rs, h, k⟩ := h
  exact ⟨Z, d, m, _, ok, rs, h, fun xs m1 vs H1 q e1 ok1 r1 => ⟨Z, m1, xs, R, ok1, r1, q, fun d' m' v' H' h1 h2 h3 h4 => k d' m' v' H' h1 (e1.trans h2) h3 h4⟩⟩
theorem le_callB {x : Str} {id : String} {r : DC} (hc : CallD X (.builtin id) r) (hg : Gl X x) (hm : X.mg x = none) (hv : bootBuiltins x = some (.builtin id)) (ha : PA X (e :: es) (LA X.K ga)) (hn : x ≠ "__name__" := by decide) (hdb : (x == ("__debug__" : Str)) = false := by decide)
    (he : starEach (e :: es) X.env = (false, eval e X.env) :: starEach es X.env := by rfl) (hpl : (backTo pos (starEach es X.env)).any (·.1) = false := by rfl) : PE X (.Call (.Name x p) (e :: es) [] pos) (LE X.K (dCallB r ga)) :=
  PE.imp (pe_callB hc.cr hg hm hv ha hn hdb he hpl) fun s H Q h => h.call
theorem le_callTy {x : Str} {T : String} {r : DC} (hc : CallD X (.type T) r) (hg : Gl X x) (hm : X.mg x = none) (hv : bootBuiltins x = some (.type T)) (ha : PA X (e :: es) (LA X.K ga)) (hn : x ≠ "__name__" := by decide) (hdb : (x == ("__debug__" : Str)) = false := by decide)
    (he : starEach (e :: es) X.env = (false, eval e X.env) :: starEach es X.env := by rfl) (hpl : (backTo pos (starEach es X.env)).any (·.1) = false := by rfl) : PE X (.Call (.Name x p) (e :: es) [] pos) (LE X.K (dCallB r ga)) :=
  PE.imp (pe_callTy hc.cr hg hm hv ha hn hdb he hpl) fun s H Q h => h.call
theorem RDs.one {K : PySem.W.Frag} {Z : Addr → Prop} {m : Mu} {H : Hp} {x : D} {vs : List V} (h : RDs K Z m H [x] vs) : ∃ v, vs = [v] ∧ RD K Z m H x v := by
  obtain ⟨v, r, h1, h2, h3⟩ := h
  cases (show r = [] from h3)
  exact ⟨v, h1, h2⟩
theorem RDs.two {K : PySem.W.Frag} {Z : Addr → Prop} {m : Mu} {H : Hp} {x y : D} {vs : List V} (h : RDs K Z m H [x, y] vs) : ∃ v w, vs = [v, w] ∧ RD K Z m H x v ∧ RD K Z m H y w := by
  obtain ⟨v, r, h1, h2, h3⟩ := h
  obtain ⟨w, rfl, h4⟩ := RDs.one h3
  exact ⟨v, w, h1, h2, h4⟩
@[simp] def bLen : DC
  | [.dat (.tuple xs)], m, Q => Q (.dat (.int xs.length)) m
  | [.dat (.list xs)], m, Q => Q (.dat (.int xs.length)) m
  | [.dat (.str z)], m, Q => z.length ≤ sizeLine ∧ Q (.dat (.int z.length)) m
  | [.cel a], m, Q => ∃ xs, m a = some (.l xs) ∧ Q (.dat (.int xs.length)) m
  | _, _, _ => False
theorem cd_len : CallD X (.builtin "len") bLen := by
  intro pins s σ H Z m xs ds us R Q I ok rv rd h k
  unfold bLen at h
  split at h
  · obtain ⟨v, rfl, r1⟩ := rd.one
    simp only [RD, RP] at r1
    obtain ⟨a, vs, rfl, h1, h2⟩ := r1
    refine call_len_seq pins s σ H _ us Q I rv ⟨a, vs, rfl, .inr h1, ?_⟩
    rw [h2.length]
    exact k _ m _ H h Ext.refl ok .ofInt
  · obtain ⟨v, rfl, r1⟩ := rd.one
    simp only [RD, RP] at r1
    obtain ⟨a, vs, rfl, _, h1, h2⟩ := r1
    refine call_len_seq pins s σ H _ us Q I rv ⟨a, vs, rfl, .inl h1, ?_⟩
    rw [h2.length]
    exact k _ m _ H h Ext.refl ok .ofInt
  · obtain ⟨v, rfl, r1⟩ := rd.one
    cases r1.str
    exact call_len_str pins s σ H _ us Q I rv ⟨_, rfl, h.1, k _ m _ H h.2 Ext.refl ok .ofInt⟩
  · obtain ⟨v, rfl, r1⟩ := rd.one
    obtain ⟨rfl, _⟩ := r1
    obtain ⟨ys, hm, q⟩ := h
    obtain ⟨vs, h1, h2⟩ := ok.l hm
    refine call_len_seq pins s σ H _ us Q I rv ⟨_, vs, rfl, .inl (.inl (.inl h1)), ?_⟩
    rw [h2.length]
    exact k _ m _ H q Ext.refl ok .ofInt
  · exact h.elim
@[simp] def bMax : DC
  | [.dat (.int i), .dat (.int j)], m, Q => Q (.dat (.int (if j > i then j else i))) m
  | _, _, _ => False
theorem cd_max (hc : X.calm = true) : CallD X (.builtin "max") bMax := by
  intro pins s σ H Z m xs ds us R Q I ok rv rd h k
  unfold bMax at h
  split at h
  · obtain ⟨v, w, rfl, r1, r2⟩ := rd.two
    cases r1.int
    cases r2.int
    exact call_max2 hc pins s σ H _ us Q I rv ⟨_, _, rfl, k _ m _ H h Ext.refl ok .ofInt⟩
  · exact h.elim
@[simp] def bInt : DC
  | [.dat (.int i)], m, Q => Q (.dat (.int i)) m
  | [.dat (.bool b)], m, Q => Q (.dat (.int (if b then 1 else 0))) m
  | _, _, _ => False
theorem cd_int : CallD X (.type "int") bInt := by
  intro pins s σ H Z m xs ds us R Q I ok rv rd h k
  unfold bInt at h
  split at h
  · obtain ⟨v, rfl, r1⟩ := rd.one
    cases r1.int
    exact call_int1 pins s σ H _ us Q I rv (.inl ⟨_, rfl, k _ m _ H h Ext.refl ok .ofInt⟩)
  · obtain ⟨v, rfl, r1⟩ := rd.one
    cases r1.bl
    exact call_int1 pins s σ H _ us Q I rv (.inr ⟨_, rfl, k _ m _ H h Ext.refl ok .ofInt⟩)
  · exact h.elim
@[simp] def bStr : DC
  | [.dat (.int i)], m, Q => i.natAbs.log2 < 1920 ∧ Q (.dat (.str (toString i))) m
  | _, _, _ => False
theorem cd_str : CallD X (.type "str") bStr := by
  intro pins s σ H Z m xs ds us R Q I ok rv rd h k
  unfold bStr at h
  split at h
  · obtain ⟨v, rfl, r1⟩ := rd.one
    cases r1.int
    exact call_str_int pins s σ H _ us Q I rv ⟨_, rfl, h.1, k _ m _ H h.2 Ext.refl ok .ofStr⟩
  · exact h.elim
@[simp] def bList : DC
  | [.dat (.tuple xs)], m, Q => Q (.dat (.list xs)) m
  | [.dat (.list xs)], m, Q => Q (.dat (.list xs)) m
  | _, _, _ => False
theorem cd_list : CallD X (.type "list") bList := by
  intro pins s σ H Z m xs ds us R Q I ok rv rd h k
  unfold bList at h
  split at h
  · obtain ⟨v, rfl, r1⟩ := rd.one
    simp only [RD, RP] at r1
    obtain ⟨a, vs, rfl, h1, h2⟩ := r1
    refine call_list_of pins s σ H _ us Q I rv ⟨a, vs, rfl, .inr h1, fun l hl => ?_⟩
    have sm : Same H (upd H l (.lst vs)) := same_new hl
    refine k _ m _ _ h (ok.ext sm) (ok.grow sm) ?_
    simp only [RD, RP]
    exact ⟨l, vs, rfl, ok_none ok hl, .inl (.inl upd_same), RPs.ext (ok.ext sm) _ _ h2⟩
  · obtain ⟨v, rfl, r1⟩ := rd.one
    simp only [RD, RP] at r1
    obtain ⟨a, vs, rfl, _, h1, h2⟩ := r1
    refine call_list_of pins s σ H _ us Q I rv ⟨a, vs, rfl, .inl h1, fun l hl => ?_⟩
    have sm : Same H (upd H l (.lst vs)) := same_new hl
    refine k _ m _ _ h (ok.ext sm) (ok.grow sm) ?_
    simp only [RD, RP]
    exact ⟨l, vs, rfl, ok_none ok hl, .inl (.inl upd_same), RPs.ext (ok.ext sm) _ _ h2⟩
  · exact h.elim
@[simp] def bRepr : DC
  | [.dat p], m, Q => p.showable = true ∧ p.shown.length ≤ sizeLine ∧ p.depth ≤ 100 ∧ Q (.dat (.str p.shown)) m
  | _, _, _ => False
theorem cd_repr (hu : X.A.units + 200 < cLine) (hg : X.A.guards = some []) : CallD X (.builtin "repr") bRepr := by
  intro pins s σ H Z m xs ds us R Q I ok rv rd h k
  unfold bRepr at h
  split at h
  · rename_i p
    obtain ⟨v, rfl, r1⟩ := rd.one
    obtain ⟨u, rfl, ru⟩ := vals1 rv
    obtain ⟨h1, h2, h3, h4⟩ := h
    have fin : ∀ (tk tk' : Nat), EP X pins σ Q (.str p.shown tk) { s with toks := tk' } := fun tk tk' => ⟨.str p.shown, H, I.tok _, ⟨_, rfl⟩, k _ m _ H h4 Ext.refl ok .ofStr⟩
    obtain ⟨as, rd⟩ := RP.reads I p v u r1 ru
    have nd := RP.noDict X.K p v r1
    cases rd with
    | none => exact PySem.P.repr_of_none (fin _ _)
    | bool b => exact PySem.P.repr_of_bool (by simpa only [PyData.shown] using fin _ _)
    | int i t => exact PySem.P.repr_of_int (by simpa [PyData.showable] using h1) (by simpa only [PyData.shown] using fin _ _)
    | str x t => exact PySem.P.repr_of_str (by simpa only [PyData.shown] using fin _ _) (by simpa only [PyData.shown] using h2)
    | list q1 q2 q3 q4 =>
      refine repr_of_reads' (.list q1 q2 q3 q4) h1 (PyData.noDict_hsm nd) hg (by omega) (fun _ _ e => e) (fun h' u tk kp => ⟨.str _, H, I.kept kp, ⟨_, rfl⟩, k _ m _ H h4 Ext.refl ok .ofStr⟩) h2
    | tuple q1 q2 q3 q4 =>
      refine repr_of_reads' (.tuple q1 q2 q3 q4) h1 (PyData.noDict_hsm nd) hg (by omega) (fun _ _ e => e) (fun h' u tk kp => ⟨.str _, H, I.kept kp, ⟨_, rfl⟩, k _ m _ H h4 Ext.refl ok .ofStr⟩) h2
    | dict q1 q2 q3 q4 q5 => simp only [PyData.hasDict] at nd; cases nd
  · exact h.elim
end
end DL
set_option Elab.async false
set_option linter.all false
set_option maxRecDepth 100000
set_option maxHeartbeats 4000000
namespace DL
open PySem PySem.Spec PyProof.Rows L2
section
variable {X : Cx} {st : Stmt} {rest body orelse : List Stmt} {t u b : DS} {e c tg iter : Expr} {f : DE} {tc : DT} {pos : Pos}
@[simp] def dNext : DS := fun E d m => E.nx d m
@[simp] def dSeq (t u : DS) : DS := fun E d m => t { E with nx := u E } d m
theorem lss_nil : PSs X [] (LS X.K dNext) := PSs.imp pss_nil fun E s H h => by
  obtain ⟨Z, d, m, R, ok, rs, h, k, _⟩ := h
  exact k d m s H h Ext.refl ok rs
theorem lss_cons (h1 : PS X st (LS X.K t)) (h2 : PSs X rest (LS X.K u)) : PSs X (st :: rest) (LS X.K (dSeq t u)) := PSs.imp (pss_cons h1 h2) fun E s H h => by
  obtain ⟨Z, d, m, R, ok, rs, h, kn, kr, kb, kc⟩ := h
  refine ⟨Z, d, m, _, ok, rs, h, fun d' m' s' H' q e1 ok1 rs1 => ⟨Z, d', m', R, ok1, rs1, q, ?_, ?_, ?_, ?_⟩, kr, kb, kc⟩
  · exact fun d2 m2 s2 H2 q2 e2 ok2 rs2 => kn d2 m2 s2 H2 q2 (e1.trans e2) ok2 rs2
  · exact fun x m2 v H2 q2 e2 ok2 r2 => kr x m2 v H2 q2 (e1.trans e2) ok2 r2
  · exact fun d2 m2 s2 H2 q2 e2 ok2 rs2 => kb d2 m2 s2 H2 q2 (e1.trans e2) ok2 rs2
  · exact fun d2 m2 s2 H2 q2 e2 ok2 rs2 => kc d2 m2 s2 H2 q2 (e1.trans e2) ok2 rs2
@[simp] def dRet (f : DE) : DS := fun E d m => f d m E.rt
theorem ls_ret (he : PE X e (LE X.K f)) : PS X (.Return (some e) pos) (LS X.K (dRet f)) := PS.imp (ps_ret he) fun E s H h => by
  obtain ⟨Z, d, m, R, ok, rs, h, _, kr, _⟩ := h
  exact ⟨Z, d, m, _, ok, rs, h, fun x m1 v H1 q e1 ok1 r1 => kr x m1 v H1 q e1 ok1 r1⟩
@[simp] def dIf (c : DT) (t u : DS) : DS := fun E d m => c d m fun k m1 => if k = true then t E d m1 else u E d m1
theorem ls_if (hc : PT X c (LT X.K tc)) (h1 : PSs X body (LS X.K t)) (h2 : PSs X orelse (LS X.K u)) : PS X (.If c body orelse pos) (LS X.K (dIf tc t u)) := PS.imp (ps_if hc h1 h2) fun E s H h => by
  obtain ⟨Z, d, m, R, ok, rs, h, kn, kr, kb, kc⟩ := h
  refine ⟨Z, d, m, _, ok, rs, h, fun k m1 H1 q e1 ok1 => ?_⟩
  have mk : ∀ {z : DS}, z R d m1 → LS X.K z E s H1 := fun q => ⟨Z, d, m1, R, ok1, rs.ext e1, q,
    fun d2 m2 s2 H2 q2 e2 ok2 rs2 => kn d2 m2 s2 H2 q2 (e1.trans e2) ok2 rs2, fun x m2 v H2 q2 e2 ok2 r2 => kr x m2 v H2 q2 (e1.trans e2) ok2 r2,
    fun d2 m2 s2 H2 q2 e2 ok2 rs2 => kb d2 m2 s2 H2 q2 (e1.trans e2) ok2 rs2, fun d2 m2 s2 H2 q2 e2 ok2 rs2 => kc d2 m2 s2 H2 q2 (e1.trans e2) ok2 rs2⟩
  cases k with
  | true => exact iteT (mk (by simpa using q))
  | false => exact iteF (mk (by simpa using q))
@[simp] def dSet (i : Nat) (f : DE) : DS := fun E d m => f d m fun x m1 => E.nx (d.set i (some x)) m1
theorem ls_set (i : Nat) {x : Str} {pos' : Pos} (hN : X.N.Nodup) (he : PE X e (LE X.K f)) (hi : X.N[i]? = some x := by rfl) (hx : Loc X.env.scope x := by first | exact Or.inl rfl | exact Or.inr rfl)
    (hs : swapsWith e (some (.Name x pos')) pos.line X.env = pure false := by rfl) (hf : X.fn x = true ∨ X.env.scope.names.lookup x = some .local := by first | exact .inl rfl | exact .inr rfl) :
    PS X (.Assign [.Name x pos'] e pos) (LS X.K (dSet i f)) := PS.imp (ps_set hN hi hx he hs hf) fun E s H h => by
  obtain ⟨Z, d, m, R, ok, rs, h, k, _⟩ := h
  exact ⟨Z, d, m, _, ok, rs, h, fun x m1 v H1 q e1 ok1 r1 => k _ m1 _ H1 q e1 ok1 ((rs.ext e1).set r1)⟩
abbrev DG := D → St2 → Mu → (St2 → Mu → Prop) → Prop
abbrev DGs := List PyData → St2 → Mu → (St2 → Mu → Prop) → Prop
def LG (K : PySem.W.Frag) (g : DG) : TG := fun v s H Q => ∃ Z x d m R, Ok K Z m H ∧ RS K Z m H d s ∧ RD K Z m H x v ∧ g x d m R ∧ ∀ d' m' s' H', R d' m' → Ext K Z m H m' H' → Ok K Z m' H' → RS K Z m' H' d' s' → Q s' H'
def LGs (K : PySem.W.Frag) (g : DGs) : TGs := fun vs s H Q => ∃ Z ps d m R, Ok K Z m H ∧ RS K Z m H d s ∧ RPs K Z m H ps vs ∧ g ps d m R ∧ ∀ d' m' s' H', R d' m' → Ext K Z m H m' H' → Ok K Z m' H' → RS K Z m' H' d' s' → Q s' H'
theorem PG.imp {t t' : TG} (h : PG X e t) (q : ∀ v s H Q, t' v s H Q → t v s H Q) : PG X e t' := fun pins s d H v u Q I r w => h pins s d H v u Q I r (q _ _ _ _ w)
theorem PGs.imp {es : List Expr} {t t' : TGs} (h : PGs X es t) (q : ∀ v s H Q, t' v s H Q → t v s H Q) : PGs X es t' := fun pins s d H v u Q I r w => h pins s d H v u Q I r (q _ _ _ _ w)
@[simp] def gN (i : Nat) : DG := fun x d m Q => Q (d.set i (some x)) m
theorem lg_name (i : Nat) {x : Str} (hN : X.N.Nodup) (hi : X.N[i]? = some x := by rfl) (hx : Loc X.env.scope x := by first | exact Or.inl rfl | exact Or.inr rfl)
    (hf : X.fn x = true ∨ X.env.scope.names.lookup x = some .local := by first | exact .inl rfl | exact .inr rfl) : PG X (.Name x pos) (LG X.K (gN i)) := PG.imp (pg_name hN hi hx hf) fun v s H Q h => by
  obtain ⟨Z, x, d, m, R, ok, rs, rd, h, k⟩ := h
  exact k _ m _ H h Ext.refl ok (rs.set rd)
@[simp] def gN0 : DGs := fun ps d m Q => ps = [] ∧ Q d m
@[simp] def gNs (g : DG) (r : DGs) : DGs
  | p :: qs, d, m, Q => g (.dat p) d m fun d' m' => r qs d' m' Q
  | [], _, _, _ => False
theorem lgs_nil : PGs X [] (LGs X.K gN0) := PGs.imp pgs_nil fun vs s H Q h => by
  obtain ⟨Z, ps, d, m, R, ok, rs, rp, ⟨rfl, h⟩, k⟩ := h
  simp only [RPs] at rp
  exact ⟨rp, k d m s H h Ext.refl ok rs⟩
theorem lgs_cons {es : List Expr} {g : DG} {r : DGs} (h1 : PG X e (LG X.K g)) (h2 : PGs X es (LGs X.K r)) (hs : (assignEach (e :: es) X.env).map (·.2) = assign e X.env :: (assignEach es X.env).map (·.2) := by rfl) :
    PGs X (e :: es) (LGs X.K (gNs g r)) := PGs.imp (pgs_cons h1 h2 hs) fun vs s H Q h => by
  obtain ⟨Z, ps, d, m, R, ok, rs, rp, h, k⟩ := h
  match ps, rp, h with
  | [], _, h => exact h.elim
  | p :: qs, rp, h =>
  simp only [RPs] at rp
  obtain ⟨v, w, rfl, r1, r2⟩ := rp
  exact ⟨v, w, rfl, Z, .dat p, d, m, _, ok, rs, r1, h, fun d' m' s' H' q e1 ok1 rs1 => ⟨Z, qs, d', m', R, ok1, rs1, RPs.ext e1 _ _ r2, q, fun d2 m2 s2 H2 q2 e2 ok2 rs2 => k d2 m2 s2 H2 q2 (e1.trans e2) ok2 rs2⟩⟩
@[simp] def gT (n : Nat) (g : DGs) : DG := fun x d m Q => ∃ ps, x = .dat (.tuple ps) ∧ ps.length = n ∧ g ps d m Q
theorem lg_tup {es : List Expr} {j n : Nat} {g : DGs} (hc : X.calm = true) (h : PGs X es (LGs X.K g)) (hn : (assignEach es X.env).length = n := by rfl) (hst : (assignEach es X.env).findIdx? (·.1) = none := by rfl) :
    PG X (.Tuple es j pos) (LG X.K (gT n g)) := PG.imp (pg_tup hc h hn hst) fun v s H Q h => by
  obtain ⟨Z, x, d, m, R, ok, rs, rd, ⟨ps, rfl, hl, h⟩, k⟩ := h
  simp only [RD, RP] at rd
  obtain ⟨a, vs, rfl, h1, h2⟩ := rd
  exact ⟨a, vs, rfl, h1, by rw [h2.length]; exact hl, Z, ps, d, m, R, ok, rs, h2, h, k⟩
@[simp] def dAsg (f : DE) (g : DG) : DS := fun E d m => f d m fun x m1 => g x d m1 E.nx
theorem ls_asg {g : DG} (he : PE X e (LE X.K f)) (hg : PG X tg (LG X.K g)) (hs : swapsWithSole [tg] e pos.line X.env = pure false := by rfl) (hw : swappedStores [tg] e X.env = pure none := by rfl)
    (h1 : (assignEach [tg] X.env).map (·.2) = [assign tg X.env] := by rfl) : PS X (.Assign [tg] e pos) (LS X.K (dAsg f g)) := PS.imp (ps_asg he hg hs hw h1) fun E s H h => by
  obtain ⟨Z, d, m, R, ok, rs, h, k, _⟩ := h
  exact ⟨Z, d, m, _, ok, rs, h, fun x m1 v H1 q e1 ok1 r1 => ⟨Z, x, d, m1, _, ok1, rs.ext e1, r1, q, fun d2 m2 s2 H2 q2 e2 ok2 rs2 => k d2 m2 s2 H2 q2 (e1.trans e2) ok2 rs2⟩⟩
@[simp] def dPut (fo fi f : DE) : DS := fun E d m => f d m fun x m1 => fo d m1 fun o m2 => fi d m2 fun i m3 =>
  ∃ a k xs j p, o = .cel a ∧ i = .dat (.int k) ∧ x = .dat p ∧ m3 a = some (.l xs) ∧ ixN xs.length k = some j ∧ E.nx d (updM m3 a (.l (xs.set j p)))
theorem ls_put {o i : Expr} {fo fi : DE} {tpos : Pos} (he : PE X e (LE X.K f)) (ho : PE X o (LE X.K fo)) (hi : PE X i (LE X.K fi))
    (ha : ∀ v, assign (.Subscript o i tpos) X.env v = (do
      let ov ← holding [v] (eval o X.env)
      let iv ← holding [v, ov] (eval i X.env)
      standAt tpos
      holding [v, ov, iv] (setItem ov iv v)
      release [v, ov, iv] []) := by intro _; rfl)
    (hs : swapsWithSole [.Subscript o i tpos] e pos.line X.env = pure false := by rfl) (hw : swappedStores [.Subscript o i tpos] e X.env = pure none := by rfl)
    (h1 : (assignEach [.Subscript o i tpos] X.env).map (·.2) = [assign (.Subscript o i tpos) X.env] := by rfl) : PS X (.Assign [.Subscript o i tpos] e pos) (LS X.K (dPut fo fi f)) :=
  PS.imp (ps_asg he (pg_sub ho hi set_list ha) hs hw h1) fun E s H h => by
  obtain ⟨Z, d, m, R, ok, rs, h, k, _⟩ := h
  refine ⟨Z, d, m, _, ok, rs, h, fun x m1 v H1 q e1 ok1 r1 => ⟨Z, d, m1, _, ok1, rs.ext e1, q, fun o m2 w H2 q2 e2 ok2 r2 => ⟨Z, d, m2, _, ok2, (rs.ext e1).ext e2, q2, fun i m3 z H3 q3 e3 ok3 r3 => ?_⟩⟩⟩
  obtain ⟨a, k', xs, j, p, rfl, rfl, rfl, hm, hj, q⟩ := q3
  cases r3.int
  obtain ⟨rfl, _⟩ := r2.ext e3
  obtain ⟨vs, g1, g2⟩ := ok3.l hm
  have r1' := r1.ext (e2.trans e3)
  refine ⟨a, vs, k', j, rfl, rfl, g1, by rw [g2.length]; exact hj, ?_⟩
  have e4 : Ext X.K Z m3 H3 (updM m3 a (.l (xs.set j p))) (upd H3 a (.lst (vs.set j v))) := Ext.put ok3 hm g1
  exact k d _ s _ q (e1.trans (e2.trans (e3.trans e4))) (ok3.put hm g1 (g2.set r1')) ((rs.ext e1).ext (e2.trans (e3.trans e4)))
abbrev DI := St2 → Mu → (List D → Mu → Prop) → Prop
def Yld (K : PySem.W.Frag) (Z : Addr → Prop) (m : Mu) (H : Hp) (x : D) (v : V) (H2 H3 : Hp) : Prop :=
  (H3 = H2 ∧ RD K Z m H x v) ∨ ∃ p ps vs, x = .dat (.tuple ps) ∧ v = .ref p ∧ H2 p = none ∧ H3 = upd H2 p (.tup vs) ∧ RPs K Z m H ps vs
theorem Yld.same {K : PySem.W.Frag} {Z : Addr → Prop} {m : Mu} {H H2 H3 : Hp} {x : D} {v : V} (h : Yld K Z m H x v H2 H3) : Same H2 H3 := by
  rcases h with ⟨rfl, _⟩ | ⟨p, ps, vs, _, _, hp, rfl, _⟩
  · exact fun _ _ q => q
  · exact same_new hp
theorem Yld.rd {K : PySem.W.Frag} {Z Z' : Addr → Prop} {m m' : Mu} {H H2 H3 : Hp} {x : D} {v : V} (tr : ∀ d v, RD K Z m H d v → RD K Z' m' H2 d v) (ok : Ok K Z' m' H2) (h : Yld K Z m H x v H2 H3) : RD K Z' m' H3 x v := by
  rcases h with ⟨rfl, h⟩ | ⟨p, ps, vs, rfl, rfl, hp, rfl, h⟩
  · exact tr _ _ h
  · have h2 := RPs.lift (fun p v q => tr (.dat p) v q) h
    simp only [RD, RP]
    exact ⟨p, vs, rfl, .inl (.inl upd_same), RPs.ext (ok.ext (same_new hp)) _ _ h2⟩
structure ExtY (K : PySem.W.Frag) (Z : Addr → Prop) (m : Mu) (H : Hp) (m' : Mu) (H' : Hp) : Prop where
  t : ∀ a vs, SqT K H a vs → SqT K H' a vs
  l : ∀ a vs, (m a = none ∧ ¬ Z a) → SqL K H a vs → m' a = none ∧ SqL K H' a vs
  fz : ∀ a o u, H a = some (.frz o u) → H' a = some (.frz o u)
theorem Ext.y {K : PySem.W.Frag} {Z : Addr → Prop} {m m' : Mu} {H H' : Hp} (e : Ext K Z m H m' H') : ExtY K Z m H m' H' := ⟨e.t, e.l, e.fz⟩
def Yields (K : PySem.W.Frag) (Z : Addr → Prop) (m : Mu) (H : Hp) (xs : List D) (J : It) : Prop := ∀ m2 H2, ExtY K Z m H m2 H2 →
  (∀ (i : Nat) (x : D), xs[i]? = some x → J.go i H2 ∧ ∀ v H3, J.yld i H2 v H3 → Yld K Z m H x v H2 H3) ∧ J.stop xs.length H2
def LI (K : PySem.W.Frag) (fi : DI) : TI := fun s H R => ∃ (Z : Addr → Prop) (d : St2) (m : Mu) (ZZ : List D → Mu → Prop), Ok K Z m H ∧ RS K Z m H d s ∧ fi d m ZZ ∧
  ∀ xs m' H' J, ZZ xs m' → Ext K Z m H m' H' → Ok K Z m' H' → Yields K Z m' H' xs J → R J H'
@[simp] def dSeqI (f : DE) : DI := fun d m Q => f d m fun x m1 => (∃ ps, x = .dat (.list ps) ∧ Q (ps.map .dat) m1) ∨ (∃ ps, x = .dat (.tuple ps) ∧ Q (ps.map .dat) m1)
theorem PI.imp {t t' : TI} (h : PI X tg e t) (q : ∀ s H R, t' s H R → t s H R) : PI X tg e t' := fun pins s d H R I w => h pins s d H R I (q _ _ _ w)
theorem get_map {ps : List PyData} {i : Nat} {x : D} (h : (ps.map D.dat)[i]? = some x) : ∃ p, ps[i]? = some p ∧ x = .dat p := by
  rw [List.getElem?_map] at h
  cases e : ps[i]? with
  | none => rw [e] at h; cases h
  | some p => rw [e] at h; cases h; exact ⟨p, rfl, rfl⟩
theorem yields_list {K : PySem.W.Frag} {Z : Addr → Prop} {m : Mu} {H : Hp} {a : Addr} {vs : List V} {ps : List PyData} (h0 : m a = none ∧ ¬ Z a) (h1 : SqL K H a vs) (h2 : RPs K Z m H ps vs) : Yields K Z m H (ps.map .dat) (Itl K a) := by
  intro m2 H2 e
  obtain ⟨q0, q1⟩ := e.l a vs h0 h1
  have q2 := h2
  refine ⟨fun i x hx => ?_, ⟨vs, q1, by rw [q2.length, List.length_map]; exact Nat.le_refl _⟩⟩
  obtain ⟨p, hp, rfl⟩ := get_map hx
  obtain ⟨v, hv, rv⟩ := h2.get hp
  refine ⟨⟨vs, v, q1, hv⟩, fun v' H3 y => .inl ⟨y.1, ?_⟩⟩
  have := y.2 vs q1
  rw [hv] at this
  cases this
  exact rv
theorem yields_tup {K : PySem.W.Frag} {Z : Addr → Prop} {m : Mu} {H : Hp} {a : Addr} {vs : List V} {ps : List PyData} (h1 : SqT K H a vs) (h2 : RPs K Z m H ps vs) : Yields K Z m H (ps.map .dat) (Itt K a) := by
  intro m2 H2 e
  have q1 := e.t a vs h1
  have q2 := h2
  refine ⟨fun i x hx => ?_, ⟨vs, q1, by rw [q2.length, List.length_map]; exact Nat.le_refl _⟩⟩
  obtain ⟨p, hp, rfl⟩ := get_map hx
  obtain ⟨v, hv, rv⟩ := h2.get hp
  refine ⟨⟨vs, v, q1, hv⟩, fun v' H3 y => .inl ⟨y.1, ?_⟩⟩
  have := y.2 vs q1
  rw [hv] at this
  cases this
  exact rv
theorem pi_seq {l : Expr} {tl : TE} (hl : PE X l tl) : PI X tg l (fun s H R => tl s H fun x H1 => (∃ a, x = .ref a ∧ (∃ xs, SqL X.K H1 a xs) ∧ R (Itl X.K a) H1) ∨ (∃ a, x = .ref a ∧ (∃ xs, SqT X.K H1 a xs) ∧ R (Itt X.K a) H1)) := by
  intro pins s σ H R I h
  refine thn (hl pins s σ H _ I h) fun v s1 ⟨x, H1, I1, r1, q1⟩ => ?_
  rcases q1 with ⟨a, e, ⟨xs, hq⟩, q⟩ | ⟨a, e, ⟨xs, hq⟩, q⟩
  · subst e
    cases r1
    obtain ⟨its, rv, p, hz⟩ := I1.list hq
    refine wpAny_pyIter_list p.isList ?_
    refine ⟨s1.heap.objs.size, [s1.heap.objs.size], _, _, H1, rfl, I1.kept (t' := s1.toks) fun b o e => Heap.get?_push_of_some _ e, turn_list a _, ⟨_, Heap.get?_push_size _ rfl, rfl, rfl⟩, fun b hb => ?_, q⟩
    have e : b = s1.heap.objs.size := by simpa using hb
    subst e
    exact I1.fpOk (Nat.le_refl _) (I1.hok.fresh (Nat.le_refl _))
  · subst e
    cases r1
    obtain ⟨its, rv, p, hz⟩ := I1.tuple hq
    refine wpAny_pyIter_tuple (show s1.heap.IsTuple a its.toArray from p) ?_
    refine ⟨s1.heap.objs.size, [s1.heap.objs.size], _, _, H1, rfl, I1.kept (t' := s1.toks) fun b o e => Heap.get?_push_of_some _ e, turn_tuple a _, ⟨_, Heap.get?_push_size _ rfl, rfl, rfl⟩, fun b hb => ?_, q⟩
    have e : b = s1.heap.objs.size := by simpa using hb
    subst e
    exact I1.fpOk (Nat.le_refl _) (I1.hok.fresh (Nat.le_refl _))
theorem li_seq (ha : PE X e (LE X.K f)) : PI X tg e (LI X.K (dSeqI f)) := PI.imp (pi_seq ha) fun s H R h => by
  obtain ⟨Z, d, m, ZZ, ok, rs, h, k⟩ := h
  refine ⟨Z, d, m, _, ok, rs, h, fun x m1 v H1 q e1 ok1 rd => ?_⟩
  rcases q with ⟨ps, rfl, q⟩ | ⟨ps, rfl, q⟩
  · simp only [RD, RP] at rd
    obtain ⟨a, vs, rfl, h0, h1, h2⟩ := rd
    exact .inl ⟨a, rfl, ⟨vs, h1⟩, k _ m1 H1 _ q e1 ok1 (yields_list h0 h1 h2)⟩
  · simp only [RD, RP] at rd
    obtain ⟨a, vs, rfl, h1, h2⟩ := rd
    exact .inr ⟨a, rfl, ⟨vs, h1⟩, k _ m1 H1 _ q e1 ok1 (yields_tup h1 h2)⟩
def intsD (lo : Int) (n : Nat) : List D := (List.range n).map fun i => .dat (.int (lo + (i : Nat)))
@[simp] def dRngI (f : DE) : DI := fun d m Q => f d m fun x m1 => ∃ j : Int, x = .dat (.int j) ∧ -(2 ^ 62) ≤ j ∧ j < 2 ^ 62 ∧ Q (intsD 0 j.toNat) m1
theorem li_range {p : Pos} (hg : Gl X "range") (hm : X.mg "range" = none) (ha : PE X e (LE X.K f)) (hs : starEach [e] X.env = [(false, eval e X.env)] := by rfl) : PI X tg (.Call (.Name "range" p) [e] [] pos) (LI X.K (dRngI f)) :=
  PI.imp (pi_range1 hg hm (pa_cons ha pa_nil (by rw [hs]; rfl)) hs) fun s H R h => by
    obtain ⟨Z, d, m, ZZ, ok, rs, h, k⟩ := h
    refine ⟨Z, d, m, _, ok, rs, h, fun x m1 v H1 ⟨j, e, h1, h2, q⟩ e1 ok1 rd => ?_⟩
    subst e
    cases rd.int
    show ∃ j' : Int, [V.int j] = [V.int j'] ∧ _
    refine ⟨j, rfl, h1, h2, k _ m1 H1 _ q e1 ok1 fun m2 H2 e2 => ⟨fun i x hx => ?_, ?_⟩⟩
    · unfold intsD at hx
      rw [List.getElem?_map] at hx
      cases ei : (List.range j.toNat)[i]? with
      | none => rw [ei] at hx; cases hx
      | some i' =>
        rw [ei] at hx
        cases hx
        have hl := (List.getElem?_eq_some_iff.mp ei).1
        have hi : i' = i := by
          obtain ⟨_, z⟩ := List.getElem?_eq_some_iff.mp ei
          rw [List.getElem_range] at z
          exact z.symm
        subst hi
        rw [List.length_range] at hl
        refine ⟨hl, fun v' H3 y => .inl ⟨y.1, ?_⟩⟩
        rw [y.2]
        exact .ofInt
    · show j.toNat ≤ (intsD 0 j.toNat).length
      unfold intsD
      rw [List.length_map, List.length_range]
      exact Nat.le_refl _
def loopL (g : DG) (b : DS) (E : Ends2) : List D → St2 → Mu → Prop
  | [], d, m => E.nx d m
  | x :: xs, d, m => g x d m fun d' m' => b { E with nx := loopL g b E xs, ct := loopL g b E xs, bk := E.nx } d' m'
@[simp] def dFor (fi : DI) (g : DG) (b : DS) : DS := fun E d m => fi d m fun xs m1 => loopL g b E xs d m1
theorem ls_for {fi : DI} {g : DG} (hp : PassesOwn (model X.prog X.w) X.A X.env X.xe) (hc : X.calm = true) (hi : PI X tg iter (LI X.K fi)) (hg : PG X tg (LG X.K g)) (hb : PSs X body (LS X.K b))
    (hs : ∀ x, foldedSetIterable iter X.env x = pure x := by intro _; rfl) : PS X (.For tg iter body [] pos) (LS X.K (dFor fi g b)) := PS.imp (ps_for hp hc hi hg hb hs) fun E s H h => by
  obtain ⟨Z, d, m, R, ok, rs, h, kn, kr, kb, kc⟩ := h
  refine ⟨Z, d, m, _, ok, rs, h, fun xs m1 H1 J q e1 ok1 yl => ?_⟩
  refine ⟨fun i n s' H' => ∃ d' m', n = xs.length - i ∧ i ≤ xs.length ∧ Ext X.K Z m1 H1 m' H' ∧ Ok X.K Z m' H' ∧ RS X.K Z m' H' d' s' ∧ loopL g b R (xs.drop i) d' m', ⟨xs.length, d, m1, by simp, Nat.zero_le _, Ext.refl, ok1, rs.ext e1, by simpa using q⟩, ?_⟩
  rintro i n s2 H2 ⟨d2, m2, rfl, hi, e2, ok2, rs2, w⟩
  obtain ⟨y1, y2⟩ := yl m2 H2 e2.y
  by_cases hl : i < xs.length
  · rw [List.drop_eq_getElem_cons hl] at w
    obtain ⟨go, yd⟩ := y1 i xs[i] (List.getElem?_eq_getElem hl)
    refine .inr ⟨go, fun s' H' => ∃ d' m', Ext X.K Z m1 H1 m' H' ∧ Ok X.K Z m' H' ∧ RS X.K Z m' H' d' s' ∧ loopL g b R (xs.drop (i + 1)) d' m', fun s' H' ⟨d', m', g1, g2, g3, g4⟩ => ⟨xs.length - (i + 1), by omega, d', m', rfl, hl, g1, g2, g3, g4⟩, fun v H3 y => ?_⟩
    have yy := yd v H3 y
    have e2' := e2.trans (ok2.ext yy.same)
    refine ⟨Z, xs[i], d2, m2, _, ok2.grow yy.same, rs2.ext (ok2.ext yy.same), yy.rd (fun d v h => h.ext e2) ok2, w, fun d3 m3 s3 H3 q3 e3 ok3 rs3 => ?_⟩
    have e23 := e2'.trans e3
    have e13 := e1.trans e23
    exact ⟨Z, d3, m3, _, ok3, rs3, q3, fun d4 m4 s4 H4 q4 e4 ok4 rs4 => ⟨d4, m4, e23.trans e4, ok4, rs4, q4⟩, fun x m4 v H4 q4 e4 ok4 r4 => kr x m4 v H4 q4 (e13.trans e4) ok4 r4,
      fun d4 m4 s4 H4 q4 e4 ok4 rs4 => kn d4 m4 s4 H4 q4 (e13.trans e4) ok4 rs4, fun d4 m4 s4 H4 q4 e4 ok4 rs4 => ⟨d4, m4, e23.trans e4, ok4, rs4, q4⟩⟩
  · have e : i = xs.length := by omega
    subst e
    rw [List.drop_length] at w
    exact .inl ⟨y2, kn d2 m2 s2 H2 w (e1.trans e2) ok2 rs2⟩
end
end DL
set_option Elab.async false
set_option linter.all false
set_option maxRecDepth 100000
set_option maxHeartbeats 4000000
namespace DL
open PySem PySem.Spec PyProof.Rows L2
section
variable {prog : Program} {w : World} {A : Around} {E : Value → Shared → Prop} {s : Shared}
theorem adjust_rev (n : Nat) : Builtin.Slice.sliceAdjust none none (-1) (n : Int) = ((n : Int) - 1, -1) := by
  unfold Builtin.Slice.sliceAdjust
  simp
theorem places_rev (n : Nat) : Builtin.Slice.slicePlaces ((n : Int) - 1) (-1) (-1) = n := by
  unfold Builtin.Slice.slicePlaces
  have h1 : ¬ ((-1 : Int) > 0) := by omega
  simp only [h1, if_false]
  by_cases h : (n : Int) - 1 > -1
  · simp only [h, if_true, Int.neg_neg, Int.ediv_one]
    omega
  · simp only [h, if_false]
    omega
theorem pick_rev_aux (xs : List Value) : ∀ (k j : Nat), k + j = xs.length → (List.range k).filterMap (fun i => xs[k - 1 - i]?) = (xs.take k).reverse
  | 0, _, _ => by simp
  | k + 1, j, h => by
    have ih := pick_rev_aux xs k (j + 1) (by omega)
    rw [List.range_succ_eq_map, List.filterMap_cons]
    have hk : k < xs.length := by omega
    have e0 : xs[k + 1 - 1 - 0]? = some xs[k] := by simp [hk]
    rw [e0, List.filterMap_map]
    have e1 : ((fun i => xs[k + 1 - 1 - i]?) ∘ Nat.succ) = fun i => xs[k - 1 - i]? := by
      funext i
      show xs[k + 1 - 1 - (i + 1)]? = xs[k - 1 - i]?
      congr 1
      omega
    rw [e1, ih, List.take_succ_eq_append_getElem hk, List.reverse_append]
    rfl
theorem pick_rev (xs : Array Value) : ((List.range xs.size).filterMap fun (k : Nat) => xs[(((xs.size : Nat) : Int) - 1 + (k : Int) * (-1)).toNat]?).toArray = xs.toList.reverse.toArray := by
  have h := pick_rev_aux xs.toList xs.size 0 (by simp)
  have e : (fun (k : Nat) => xs[(((xs.size : Nat) : Int) - 1 + (k : Int) * (-1)).toNat]?) = fun k => xs.toList[xs.size - 1 - k]? := by
    funext k
    have e1 : (((xs.size : Nat) : Int) - 1 + (k : Int) * (-1)).toNat = xs.size - 1 - k := by omega
    rw [e1, Array.getElem?_toList]
  rw [e, h]
  congr 2
  rw [← Array.length_toList, List.take_length]
theorem sliceApplied_rev {sl : Addr} {t : Tok} {n : Nat} {Q : Int × Int × Nat → Shared → Prop} (hs : s.heap.IsSliceOf sl .none .none (.int (-1) t))
    (h : Q ((n : Int) - 1, -1, n) s) : wpAny (model prog w) A (Builtin.Slice.sliceApplied (.ref sl) (pure (n : Int))) Q E s := by
  obtain ⟨os, hos, hcs, hds⟩ := id hs
  unfold Builtin.Slice.sliceApplied Builtin.Slice.sliceFields
  refine wpAny_bind (wpAny_bind (wpAny_field hos hds (x := .none) rfl (wpAny_bind (wpAny_field hos hds (x := .none) rfl (wpAny_bind (wpAny_field hos hds (x := .int (-1) t) rfl (wpAny_pure ?_)))))))
  refine wpAny_bind (slicePart_int ?_)
  show wpAny _ _ (if ((-1 : Int) == 0) = true then _ else _) _ _ s
  rw [if_neg (by decide)]
  refine wpAny_bind (slicePart_none (wpAny_bind (slicePart_none (wpAny_bind (wpAny_pure ?_)))))
  show wpAny _ _ (match Builtin.Slice.sliceAdjust none none (-1) (n : Int) with | (lo, hi) => pure (lo, (-1 : Int), Builtin.Slice.slicePlaces lo hi (-1))) _ _ s
  rw [adjust_rev]
  show wpAny _ _ (pure ((n : Int) - 1, (-1 : Int), Builtin.Slice.slicePlaces ((n : Int) - 1) (-1) (-1))) _ _ s
  rw [places_rev]
  exact wpAny_pure h
theorem getItem_tuple_rev {t sl : Addr} {items : Array Value} {tk : Tok} {Q : Value → Shared → Prop} (ht : IsTup s.heap t items) (hs : s.heap.IsSliceOf sl .none .none (.int (-1) tk))
    (h : Q (.ref s.heap.objs.size) { s with heap := s.heap.push { cls := .type "tuple", data := .seq items.toList.reverse.toArray } })
    (hsz : items.size ≤ sizeLine) : wpAny (model prog w) A (getItem (.ref t) (.ref sl)) Q E s := by
  have htake : sizeOk (.seq items.toList.reverse.toArray) := by
    show items.toList.reverse.toArray.size ≤ sizeLine
    simpa using hsz
  obtain ⟨os, hos, hcs, hds⟩ := id hs
  have hTs : s.TypeIs (.ref sl) "slice" := ⟨os, hos, hcs⟩
  unfold getItem
  try with_reducible refine wpAny_holding ?_
  first | refine wpAny_bind (wpAny_pure ?_) | skip
  refine wpAny_bind (wpAny_sequenceKey ht.typeIs (by decide) ?_)
  refine wpAny_bind (wpAny_callSpecial?_slot (name := Str.ofString "__getitem__") ht.typeIs PyProof.Rows.slot_tuple_getitem
    (wpAny_call_entry PyProof.Rows.slot_tuple_getitem ht.typeIs entry_tuple_getitem ?_ (args_tuple_getitem _ _)))
  show wpAny _ _ (Builtin.Tuple.tupleItemsOf (.ref t) >>= _) _ _ s
  refine wpAny_bind (tupleItemsOf_ ht ?_)
  refine wpAny_bind (wpAny_typeOf hTs ?_)
  rw [if_pos (by decide)]
  refine wpAny_bind (sliceApplied_rev hs ?_)
  have hno : ¬ ((((items.size : Nat) : Int) - 1 == 0 && (-1 : Int) == 1 && items.size == items.size) = true) := by
    intro q
    rw [Bool.and_eq_true, Bool.and_eq_true] at q
    exact absurd q.1.2 (by decide)
  show wpAny _ _ (if (((items.size : Nat) : Int) - 1 == 0 && (-1 : Int) == 1 && items.size == items.size) = true then _ else _) _ _ s
  rw [if_neg hno, pick_rev]
  first
    | exact wpAny_bind (m := Builtin.Tuple.tupleExact _) (wpAny_newObj_type (wpAny_pure ⟨_, rfl, wpAny_pure h⟩) htake)
    | exact wpAny_bind (m := Builtin.Tuple.tupleExact _) (wpAny_newObj_type (wpAny_bind (wpAny_pure (wpAny_pure ⟨_, rfl, wpAny_pure h⟩))) htake)
    | exact wpAny_bind (wpAny_bind (m := Builtin.Tuple.tupleExact _) (wpAny_newObj_type (wpAny_pure (wpAny_pure ⟨_, rfl, wpAny_pure h⟩)) htake))
    | exact wpAny_bind (wpAny_bind (m := Builtin.Tuple.tupleExact _) (wpAny_newObj_type (wpAny_pure ⟨_, rfl, wpAny_pure h⟩) htake))
end
section
variable {X : Cx} {a e : Expr} {es : List Expr} {f : DE} {ga : DA} {pos p p1 p2 p3 p4 : Pos}
theorem Vals.rev : ∀ {xs : List V} {us : List Value}, Vals xs us → Vals xs.reverse us.reverse
  | _, _, .nil => .nil
  | _, _, .cons r t => by
    rw [List.reverse_cons, List.reverse_cons]
    exact (Vals.rev t).append (.cons r .nil)
@[simp] def dRev (f : DE) : DE := fun d m Q => f d m fun x m1 => ∃ xs, x = .dat (.tuple xs) ∧ Q (.dat (.tuple xs.reverse)) m1
theorem le_rev {j : Nat} (ha : PE X a (LE X.K f)) : PE X (.Subscript a (.Slice none none (some (.UnaryOp .USub (.Constant (.int 1) j p3) p4)) p2) pos) (LE X.K (dRev f)) := by
  intro pins s σ H Q I h
  obtain ⟨Z, d, m, R, ok, rs, h, k⟩ := h
  refine Subscript_ (thn (ha pins s σ H (fun x H1 => ∃ a vs, x = .ref a ∧ SqT X.K H1 a vs ∧ ∀ p, H1 p = none → Q (.ref p) (upd H1 p (.tup vs.reverse))) I ?_) fun v s1 ⟨x, H1, I1, r1, a', vs, ex, hq, q1⟩ => ?_)
  · refine ⟨Z, d, m, _, ok, rs, h, fun x m1 v H1 ⟨xs, e, q⟩ e1 ok1 rd => ?_⟩
    subst e
    simp only [RD, RP] at rd
    obtain ⟨a', vs, rfl, h1, h2⟩ := rd
    refine ⟨a', vs, rfl, h1, fun p hp => ?_⟩
    have sm : Same H1 (upd H1 p (.tup vs.reverse)) := same_new hp
    refine k _ m1 _ _ q (e1.trans (ok1.ext sm)) (ok1.grow sm) ?_
    simp only [RD, RP]
    exact ⟨p, _, rfl, .inl (.inl upd_same), RPs.ext (ok1.ext sm) _ _ h2.reverse⟩
  · subst ex
    cases r1
    refine wpAny_Slice ?_
    rw [evalPart_none]
    refine wpAny_pure (wpAny_pure ?_)
    rw [evalPart_some]
    refine UnaryOp_ (wpAny_Constant_int (neg_int ?_))
    have I4 : ∀ tk, Inv X pins σ H1 { s1 with heap := s1.heap.push { cls := .type "slice", data := .fields #[.none, .none, .int (-1) (s1.toks + 1)] }, toks := tk } := fun tk => I1.kept fun b ob q => Heap.get?_push_of_some _ q
    obtain ⟨its, r, ht, hz⟩ := (I4 (s1.toks + 1 + 1)).tuple hq
    have hl := r.length
    refine tail_any (ops := [.ref a', .ref s1.heap.objs.size]) ht.typeIs PyProof.Rows.slot_tuple_getitem.lookup (getItem_tuple_rev ht (Heap.IsSliceOf.new ..) ?_ (by rw [List.size_toArray]; omega)) (by with_unfolding_all rfl)
    refine ⟨.ref _, upd H1 _ (.tup vs.reverse), (I4 (s1.toks + 1 + 1)).laid (t' := s1.toks + 1 + 1) (fun b ob q => Heap.get?_push_of_some _ q) (Nat.le_refl _) ?_, rfl, q1 _ ((I4 (s1.toks + 1 + 1)).hok.fresh (Nat.le_refl _))⟩
    exact ⟨⟨by rw [List.length_reverse]; exact hz, NoD.new _ _ _⟩, _, Vals.rev r, IsTup.new _ _⟩
@[simp] def tyName : PyData → String
  | .none => "NoneType"
  | .bool _ => "bool"
  | .int _ => "int"
  | .str _ => "str"
  | .list _ => "list"
  | .tuple _ => "tuple"
  | .dict _ => "dict"
@[simp] def isK (q : PyData) (c : String) : Bool := tyName q == c || (tyName q == "bool" && c == "int")
theorem kit_data (K : PySem.W.Frag) (q : PyData) (hd : ∀ kv, q ≠ .dict kv) (c : String) (hc : c = "int" ∨ c = "bool" ∨ c = "str" ∨ c = "tuple" ∨ c = "list") : PySem.W.kitOne K (.type (tyName q)) (.type c) = some (isK q c) := by
  rcases hc with rfl | rfl | rfl | rfl | rfl <;> cases q <;> first | rfl | exact absurd rfl (hd _)
theorem isi_data {pins : List (Addr × Obj)} {σ : L2.St} {H : Hp} {s : Shared} {Z : Addr → Prop} {m : Mu} {A : Around} {E : Value → Shared → Prop} {Q : Value → Shared → Prop} {q : PyData} {v : V} {u c : Value} {b : Bool} (I : Inv X pins σ H s) (rp : RP X.K Z m H q v) (rv : RelV v u)
    (e : PySem.W.kitOne X.K (.type (tyName q)) c = some b) (h : ∀ tk, Q (.bool b) { s with toks := tk }) : wpAny (model X.prog X.w) A (call (.builtin "isinstance") [u, c]) Q E s := by
  cases q with
  | none => simp only [RP] at rp; subst rp; cases rv; exact PySem.W.kia_one PySem.W.kitx_none I.kIn True.intro e (fun z => nomatch z) h
  | bool y => simp only [RP] at rp; subst rp; cases rv; exact PySem.W.kia_one PySem.W.kitx_bool I.kIn True.intro e (fun z => nomatch z) h
  | int i => simp only [RP] at rp; subst rp; obtain ⟨t, rfl⟩ := rv; exact PySem.W.kia_one PySem.W.kitx_int I.kIn True.intro e (fun z => nomatch z) h
  | str y => simp only [RP] at rp; subst rp; obtain ⟨t, rfl⟩ := rv; exact PySem.W.kia_one PySem.W.kitx_str I.kIn True.intro e (fun z => nomatch z) h
  | tuple xs =>
    simp only [RP] at rp
    obtain ⟨a', vs, rfl, h1, _⟩ := rp
    cases rv
    obtain ⟨its, _, ⟨o, g1, g2, _⟩, _⟩ := I.tuple h1
    exact PySem.W.kia_one PySem.W.kitx_tuple I.kIn ⟨o, g1, g2⟩ e (fun z => nomatch z) h
  | list xs =>
    simp only [RP] at rp
    obtain ⟨a', vs, rfl, _, h1, _⟩ := rp
    cases rv
    obtain ⟨its, _, ⟨o, n, g1, g2, _⟩, _⟩ := I.list h1
    exact PySem.W.kia_one PySem.W.kitx_list I.kIn ⟨o, g1, g2⟩ e (fun z => nomatch z) h
  | dict kv => simp only [RP] at rp
theorem isi_data2 {pins : List (Addr × Obj)} {σ : L2.St} {H : Hp} {s : Shared} {Z : Addr → Prop} {m : Mu} {A : Around} {E : Value → Shared → Prop} {Q : Value → Shared → Prop} {q : PyData} {v : V} {u : Value} {tp : Addr} {its : List Value} {b : Bool} (I : Inv X pins σ H s) (rp : RP X.K Z m H q v) (rv : RelV v u)
    (ht : IsTup s.heap tp its.toArray) (e : PySem.W.kitAny X.K (.type (tyName q)) its = some b) (h : ∀ tk, Q (.bool b) { s with toks := tk }) : wpAny (model X.prog X.w) A (call (.builtin "isinstance") [u, .ref tp]) Q E s := by
  obtain ⟨⟨cls, dd, data, sl⟩, ho, hc, n, hd⟩ := id ht
  simp only at hc hd
  subst hc hd
  cases q with
  | none => simp only [RP] at rp; subst rp; cases rv; exact PySem.W.kia_tup PySem.W.kitx_none I.kIn True.intro ho e (fun z => nomatch z) h
  | bool y => simp only [RP] at rp; subst rp; cases rv; exact PySem.W.kia_tup PySem.W.kitx_bool I.kIn True.intro ho e (fun z => nomatch z) h
  | int i => simp only [RP] at rp; subst rp; obtain ⟨t, rfl⟩ := rv; exact PySem.W.kia_tup PySem.W.kitx_int I.kIn True.intro ho e (fun z => nomatch z) h
  | str y => simp only [RP] at rp; subst rp; obtain ⟨t, rfl⟩ := rv; exact PySem.W.kia_tup PySem.W.kitx_str I.kIn True.intro ho e (fun z => nomatch z) h
  | tuple xs =>
    simp only [RP] at rp
    obtain ⟨a', vs, rfl, h1, _⟩ := rp
    cases rv
    obtain ⟨its, _, ⟨o, g1, g2, _⟩, _⟩ := I.tuple h1
    exact PySem.W.kia_tup PySem.W.kitx_tuple I.kIn ⟨o, g1, g2⟩ ho e (fun z => nomatch z) h
  | list xs =>
    simp only [RP] at rp
    obtain ⟨a', vs, rfl, _, h1, _⟩ := rp
    cases rv
    obtain ⟨its, _, ⟨o, n, g1, g2, _⟩, _⟩ := I.list h1
    exact PySem.W.kia_tup PySem.W.kitx_list I.kIn ⟨o, g1, g2⟩ ho e (fun z => nomatch z) h
  | dict kv => simp only [RP] at rp
theorem RP.notDict {K : PySem.W.Frag} {Z : Addr → Prop} {m : Mu} {H : Hp} {q : PyData} {v : V} (h : RP K Z m H q v) : ∀ kv, q ≠ .dict kv := by
  rintro kv rfl
  simp only [RP] at h
theorem boot_isi : bootBuiltins "isinstance" = some (.builtin "isinstance") := by decide +kernel
@[simp] def dIsi (f : DE) (c : String) : DE := fun d m Q => f d m fun x m1 => ∃ q, x = .dat q ∧ Q (.dat (.bool (isK q c))) m1
theorem le_isi {T : Str} {c : String} (hg : Gl X "isinstance") (hm : X.mg "isinstance" = none) (hgT : Gl X T) (hmT : X.mg T = none) (hv : bootBuiltins T = some (.type c)) (hc : c = "int" ∨ c = "bool" ∨ c = "str" ∨ c = "tuple" ∨ c = "list")
    (ha : PE X a (LE X.K f)) (hn : T ≠ "__name__" := by decide) (hd : (T == ("__debug__" : Str)) = false := by decide)
    (he : starEach [a, .Name T p2] X.env = (false, eval a X.env) :: starEach [.Name T p2] X.env := by rfl) :
    PE X (.Call (.Name "isinstance" p1) [a, .Name T p2] [] pos) (LE X.K (dIsi f c)) := by
  have cr : CallR X (.builtin "isinstance") (fun vs H Q => ∃ Z m q v, RP X.K Z m H q v ∧ vs = [v, .ty c] ∧ Q (.bl (isK q c)) H) := by
    intro pins s σ H xs us Q I rv ⟨Z, m, q, v, rp, e, h⟩
    subst e
    obtain ⟨u, w, rfl, r1, r2⟩ := vals2 rv
    cases r2
    exact isi_data I rp r1 (kit_data X.K q rp.notDict c hc) fun tk => ⟨.bl _, H, I.tok _, rfl, h⟩
  refine PE.imp (pe_callB cr hg hm boot_isi (pa_cons ha (pa_cons (pe_bltn (v := .ty c) hgT hmT hv rfl hn hd) pa_nil) he) (he := he) (hpl := rfl)) fun s H Q h => ?_
  obtain ⟨Z, d, m, R, ok, rs, h, k⟩ := h
  refine ⟨Z, d, m, _, ok, rs, h, fun x m1 v H1 ⟨q, e, h1⟩ e1 ok1 rd => ?_⟩
  subst e
  exact ⟨Z, m1, q, v, rd, rfl, k _ m1 _ H1 h1 e1 ok1 .ofBl⟩
@[simp] def dIsi2 (f : DE) (c1 c2 : String) : DE := fun d m Q => f d m fun x m1 => ∃ q, x = .dat q ∧ Q (.dat (.bool (isK q c1 || isK q c2))) m1
theorem le_isi2 {T1 T2 : Str} {c1 c2 : String} {jt : Nat} (hg : Gl X "isinstance") (hm : X.mg "isinstance" = none) (hgT : Gl X T1) (hmT : X.mg T1 = none) (hv : bootBuiltins T1 = some (.type c1)) (hc : c1 = "int" ∨ c1 = "bool" ∨ c1 = "str" ∨ c1 = "tuple" ∨ c1 = "list")
    (hgT2 : Gl X T2) (hmT2 : X.mg T2 = none) (hv2 : bootBuiltins T2 = some (.type c2)) (hc2 : c2 = "int" ∨ c2 = "bool" ∨ c2 = "str" ∨ c2 = "tuple" ∨ c2 = "list")
    (ha : PE X a (LE X.K f)) (hn : T1 ≠ "__name__" := by decide) (hd : (T1 == ("__debug__" : Str)) = false := by decide) (hn2 : T2 ≠ "__name__" := by decide) (hd2 : (T2 == ("__debug__" : Str)) = false := by decide)
    (he : starEach [a, .Tuple [.Name T1 p2, .Name T2 p3] jt p4] X.env = (false, eval a X.env) :: starEach [.Tuple [.Name T1 p2, .Name T2 p3] jt p4] X.env := by rfl) :
    PE X (.Call (.Name "isinstance" p1) [a, .Tuple [.Name T1 p2, .Name T2 p3] jt p4] [] pos) (LE X.K (dIsi2 f c1 c2)) := by
  have cr : CallR X (.builtin "isinstance") (fun vs H Q => ∃ Z m q v tp, RP X.K Z m H q v ∧ vs = [v, .ref tp] ∧ H tp = some (.tup [.ty c1, .ty c2]) ∧ Q (.bl (isK q c1 || isK q c2)) H) := by
    intro pins s σ H xs us Q I rv ⟨Z, m, q, v, tp, rp, e, ht, h⟩
    subst e
    obtain ⟨u, w, rfl, r1, r2⟩ := vals2 rv
    cases r2
    obtain ⟨its, ri, pt, _⟩ := I.tuple (SqT.of ht)
    cases ri with
    | cons ra rb =>
      cases rb with
      | cons rb rc =>
        cases rc
        cases ra
        cases rb
        refine isi_data2 I rp r1 pt ?_ fun tk => ⟨.bl (isK q c1 || isK q c2), H, I.tok _, rfl, h⟩
        simp only [PySem.W.kitAny, kit_data X.K q rp.notDict c1 hc, kit_data X.K q rp.notDict c2 hc2]
        cases isK q c1 <;> cases isK q c2 <;> rfl
  refine PE.imp (pe_callB cr hg hm boot_isi (pa_cons ha (pa_cons (pe_tup (pa_cons (pe_bltn (v := .ty c1) hgT hmT hv rfl hn hd) (pa_cons (pe_bltn (v := .ty c2) hgT2 hmT2 hv2 rfl hn2 hd2) pa_nil))) pa_nil) he) (he := he) (hpl := rfl)) fun s H Q h => ?_
  obtain ⟨Z, d, m, R, ok, rs, h, k⟩ := h
  refine ⟨Z, d, m, _, ok, rs, h, fun x m1 v H1 ⟨q, e, h1⟩ e1 ok1 rd => ?_⟩
  subst e
  refine ⟨by show 2 ≤ sizeLine; decide, fun tp htp => ?_⟩
  have sm : Same H1 (upd H1 tp (.tup [.ty c1, .ty c2])) := same_new htp
  exact ⟨Z, m1, q, v, tp, RP.ext (ok1.ext sm) _ _ rd, rfl, upd_same, k _ m1 _ _ h1 (e1.trans (ok1.ext sm)) (ok1.grow sm) .ofBl⟩
def LSp (K : PySem.W.Frag) (n : Nat) (sp : DC) : Sp := fun vs H Q _ => ∃ Z ds m R, Ok K Z m H ∧ RDs K Z m H ds vs ∧ ds.length = n ∧ sp ds m R ∧ ∀ d m' v' H', R d m' → Ext K Z m H m' H' → Ok K Z m' H' → RD K Z m' H' d v' → Q v' H'
theorem LSp.len {K : PySem.W.Frag} {n : Nat} {sp : DC} {vs : List V} {H : Hp} {Q : VK} {E : XK} (h : LSp K n sp vs H Q E) : vs.length = n := by
  obtain ⟨Z, ds, m, R, _, rd, hl, _⟩ := h
  rw [rd.length]
  exact hl
@[simp] def dCall (n : Nat) (sp : DC) (g : DA) : DE := fun d m Q => g d m fun xs m1 => xs.length = n ∧ sp xs m1 Q
theorem le_call {k n : Nat} {fa : Addr} {fd : FuncData} {ps : List Str} {sp : DC} {x : Str} (F : FnOk X.prog X.w X.K X.mg X.base CX0 k fa fd ps (LSp X.K n sp)) (hr : Room k X.A) (hm : X.mg x = some (.ref fa)) (hk : PySem.W.keepIn X.K (.ref fa) = true)
    (hb : Binds X.K fd ps []) (hx : X.xe = fun _ _ => False) (ha : PA X (e :: es) (LA X.K ga)) (hg : Gl X x := by rfl) (hdb : (x == ("__debug__" : Str)) = false := by decide)
    (he : starEach (e :: es) X.env = (false, eval e X.env) :: starEach es X.env := by rfl) (hpl : (backTo pos (starEach es X.env)).any (·.1) = false := by rfl) : PE X (.Call (.Name x p) (e :: es) [] pos) (LE X.K (dCall n sp ga)) :=
  PE.imp (pe_call F hr hg hm hk hb .nil (pass0 (X := X)) ha hdb he hpl) fun s H Q h => by
    obtain ⟨Z, d, m, R, ok, rs, h, k⟩ := h
    refine ⟨Z, d, m, _, ok, rs, h, fun xs m1 vs H1 ⟨hl, q⟩ e1 ok1 rd => ⟨Z, xs, m1, R, ok1, by simpa using rd, hl, q, fun d' m' v' H' h1 h2 h3 h4 => k d' m' v' H' h1 (e1.trans h2) h3 h4⟩⟩
@[simp] def start2 (N : List Str) (ds : List D) : St2 := ds.map some ++ List.replicate (N.length - ds.length) none
theorem RDs.get {K : PySem.W.Frag} {Z : Addr → Prop} {m : Mu} {H : Hp} : ∀ {xs : List D} {vs : List V} {i : Nat} {x : D}, RDs K Z m H xs vs → xs[i]? = some x → ∃ v, vs[i]? = some v ∧ RD K Z m H x v
  | [], _, _, _, _, e => by simp at e
  | _ :: _, _, 0, x, ⟨v, r, h1, h2, _⟩, e => by
    simp at e
    subst h1 e
    exact ⟨v, rfl, h2⟩
  | _ :: xs, _, i + 1, x, ⟨v, r, h1, _, h3⟩, e => by
    obtain ⟨u, q1, q2⟩ := RDs.get (i := i) (x := x) h3 (by simpa using e)
    subst h1
    exact ⟨u, by simpa using q1, q2⟩
theorem rs_start {K : PySem.W.Frag} {Z : Addr → Prop} {m : Mu} {H : Hp} {N : List Str} {ds : List D} {vs : List V} (h : RDs K Z m H ds vs) : RS K Z m H (start2 N ds) (start N vs) := by
  have hl := h.length
  refine ⟨?_, fun i x hx => ?_⟩
  · unfold start2 L2.start
    rw [List.length_append, List.length_append, List.length_map, List.length_map, List.length_replicate, List.length_replicate, hl]
  · unfold start2 at hx
    by_cases hi : i < ds.length
    · rw [List.getElem?_append_left (by simpa using hi), List.getElem?_map] at hx
      cases e : ds[i]? with
      | none => rw [e] at hx; cases hx
      | some y =>
        rw [e] at hx
        cases hx
        obtain ⟨v, q1, q2⟩ := h.get e
        refine ⟨v, ?_, q2⟩
        unfold L2.start
        rw [List.getElem?_append_left (by rw [List.length_map, hl]; exact hi), List.getElem?_map, q1]
        rfl
    · rw [List.getElem?_append_right (by simpa using hi), List.getElem?_replicate] at hx
      split at hx <;> cases hx
end
section
variable {P : Program} {w : World} {K : PySem.W.Frag} {mg : Str → Option Value} {base : Heap}
theorem fn_body {x qual : Str} {st : Stmt} {fa : Addr} {fd : FuncData} {N ps : List Str} {k : Nat} {sp : DC} {body : DS} (F : Fun K x qual st fa fd) (S : FnScope N ps (defScope st))
    (hb : ∀ (cdv : Value) (A : Around) (outer : List Env) (s : Shared) (H : Hp) (E : XK), Room k (A.deeper (envOfC qual (defScope st) s.heap.objs.size fa cdv)) →
      PSs (cxOf CX0 P w K mg base N qual (defScope st) fa cdv A outer s H E).nox (defBody st) (LS K body))
    (hv : ∀ ds m R, ds.length = ps.length → sp ds m R → body { nx := fun _ m => R (.dat .none) m, rt := R } (start2 N ds) m) : FnOk P w K mg base CX0 (k + 1) fa fd ps (LSp K ps.length sp) := by
  refine F.ok S (fun vs H Q E h => h.len) (fun cdv A outer s H vs Q E hr h => ?_)
  obtain ⟨Z, ds, m, R, ok, rd, hl, h, kk⟩ := h
  refine ⟨_, hb cdv A outer s H E hr, Z, start2 N ds, m, _, ok, rs_start rd, hv ds m R hl h, ?_, ?_, ?_, ?_⟩
  · intro d' m' s' H' q e1 ok1 _
    exact kk _ m' _ H' q e1 ok1 (by simp only [RD, RP])
  · exact fun x m' v H' q e1 ok1 r1 => kk x m' v H' q e1 ok1 r1
  · exact fun _ _ _ _ q _ _ _ => q.elim
  · exact fun _ _ _ _ q _ _ _ => q.elim
end
end DL
set_option Elab.async false
set_option linter.all false
set_option maxRecDepth 100000
set_option maxHeartbeats 4000000
namespace L2
open PySem
theorem Room.u100 {k : Nat} {A : Around} (r : Room k A) : A.units + 100 < cLine := by have := r.un; omega
theorem Room.u200 {k : Nat} {A : Around} (r : Room k A) : A.units + 200 < cLine := by have := r.un; omega
end L2
namespace DL
open PySem PySem.Spec PyProof.Rows L2
theorem boot_len_ : bootBuiltins "len" = some (.builtin "len") := by decide +kernel
theorem boot_max_ : bootBuiltins "max" = some (.builtin "max") := by decide +kernel
theorem boot_repr_ : bootBuiltins "repr" = some (.builtin "repr") := by decide +kernel
theorem boot_int_ : bootBuiltins "int" = some (.type "int") := by decide +kernel
theorem boot_bool_ : bootBuiltins "bool" = some (.type "bool") := by decide +kernel
theorem boot_str_ : bootBuiltins "str" = some (.type "str") := by decide +kernel
theorem boot_list_ : bootBuiltins "list" = some (.type "list") := by decide +kernel
theorem boot_tuple_ : bootBuiltins "tuple" = some (.type "tuple") := by decide +kernel
end DL
set_option Elab.async false
set_option linter.all false
set_option maxRecDepth 100000
set_option maxHeartbeats 4000000
namespace DL
open PySem PySem.Spec PyProof.Rows L2
theorem fn_none {P : Program} {w : World} {K : PySem.W.Frag} {mg : Str → Option Value} {base : Heap} {k n : Nat} {f : Addr} {fd : FuncData} {ps : List Str} {sp : DC} (h : ∀ ds m R, sp ds m R → False) : FnOk P w K mg base CX0 k f fd ps (LSp K n sp) := by
  have no : ∀ vs H Q E, ¬ LSp K n sp vs H Q E := fun vs H Q E q => by
    obtain ⟨Z, ds, m, R, _, _, _, q, _⟩ := q
    exact h ds m R q
  exact ⟨fun vs H Q E q => absurd q (no vs H Q E), fun A outer s H args us vs Q E _ _ _ _ q => absurd q (no vs H Q E)⟩
theorem rps_ints {K : PySem.W.Frag} {Z : Addr → Prop} {m : Mu} {H : Hp} : ∀ ns : List Int, RPs K Z m H (ns.map PyData.int) (ns.map V.int)
  | [] => by simp [RPs]
  | n :: ns => by
    simp only [List.map_cons, RPs]
    exact ⟨_, _, rfl, by simp only [RP], rps_ints ns⟩
theorem lsp_law {K : PySem.W.Frag} {sp : DC} {H : Hp} {a : Addr} {ns : List Int} {E : XK} (hS : SqL K H a (ns.map V.int)) (h : sp [.dat (.list (ns.map .int))] (fun _ => none) (fun d _ => d = .dat (.bool true))) : LSp K 1 sp [.ref a] H (fun v _ => v = .bl true) E := by
  have ok : Ok K (fun _ => False) (fun _ => none) H := ⟨fun b ds e => (by cases e), fun _ z => False.elim z⟩
  refine ⟨fun _ => False, [.dat (.list (ns.map .int))], fun _ => none, fun d _ => d = .dat (.bool true), ok, ⟨.ref a, [], rfl, ?_, rfl⟩, rfl, h, ?_⟩
  · simp only [RD, RP]
    exact ⟨a, _, rfl, by first | exact ⟨rfl, fun z => z⟩ | simp, hS, rps_ints ns⟩
  · rintro d m' v' H' rfl _ _ r
    simpa only [RD, RP] using r
end DL
set_option Elab.async false
set_option linter.all false
set_option maxRecDepth 100000
set_option maxHeartbeats 4000000
namespace DL
open PySem PySem.Spec PyProof.Rows L2
theorem closure_go (env : Env) : ∀ (names : List (Str × NameKind)) (cs : List (Str × Addr)), (∀ x, (x, NameKind.free) ∈ names → ∃ c, env.cells.lookup x = some c) → (∀ p ∈ cs, env.cells.lookup p.1 = some p.2) →
    ∃ cl : List (Str × Addr), (forIn names cs (fun (x : Str × NameKind) (r : List (Str × Addr)) => (if (x.2 == .free) = true then (do let c ← cellOf env x.1; pure (ForInStep.yield ((x.1, c) :: r))) else pure (ForInStep.yield r) : Sem (ForInStep (List (Str × Addr)))))) = pure cl ∧
      (∀ p ∈ cl, env.cells.lookup p.1 = some p.2) ∧ (∀ p ∈ cs, p ∈ cl) ∧ ∀ x, (x, NameKind.free) ∈ names → ∃ c, (x, c) ∈ cl
  | [], cs, _, h => ⟨cs, rfl, h, fun _ z => z, fun x z => nomatch z⟩
  | (n, k) :: r, cs, hf, h => by
    by_cases hk : k = .free
    · subst hk
      obtain ⟨c, hc⟩ := hf n List.mem_cons_self
      obtain ⟨cl, e, h1, h2, h3⟩ := closure_go env r ((n, c) :: cs) (fun x hx => hf x (List.mem_cons_of_mem _ hx)) (fun p hp => by
        rcases List.mem_cons.mp hp with rfl | hp
        · exact hc
        · exact h p hp)
      refine ⟨cl, ?_, h1, fun p hp => h2 p (List.mem_cons_of_mem _ hp), fun x hx => ?_⟩
      · rw [List.forIn_cons]
        have e2 : cellOf env n = pure c := by unfold cellOf; rw [hc]
        simp only [beq_self_eq_true, if_true, e2, pure_bind]
        exact e
      · rcases List.mem_cons.mp hx with z | hx
        · cases z
          exact ⟨c, h2 _ List.mem_cons_self⟩
        · exact h3 x hx
    · obtain ⟨cl, e, h1, h2, h3⟩ := closure_go env r cs (fun x hx => hf x (List.mem_cons_of_mem _ hx)) h
      refine ⟨cl, ?_, h1, h2, fun x hx => ?_⟩
      · rw [List.forIn_cons]
        have e2 : (k == NameKind.free) = false := by simpa using hk
        simp only [e2, Bool.false_eq_true, if_false, pure_bind]
        exact e
      · rcases List.mem_cons.mp hx with z | hx
        · cases z
          exact absurd rfl hk
        · exact h3 x hx
theorem closure_of {scope : Scope} {env : Env} (hf : ∀ x, (x, NameKind.free) ∈ scope.names → ∃ c, env.cells.lookup x = some c) :
    ∃ cl : List (Str × Addr), closureFor scope env = pure cl ∧ (∀ p ∈ cl, env.cells.lookup p.1 = some p.2) ∧ ∀ x, (x, NameKind.free) ∈ scope.names → ∃ c, (x, c) ∈ cl := by
  obtain ⟨cl, e, h1, _, h3⟩ := closure_go env scope.names [] hf (fun _ z => nomatch z)
  refine ⟨cl, ?_, h1, h3⟩
  unfold closureFor
  first
    | exact e
    | (show (do let cs ← forIn scope.names ([] : List (Str × Addr)) _; pure cs : Sem _) = _; rw [e]; rfl)
    | (simp only []; rw [e]; rfl)
section
variable {prog : Program} {w : World} {A : Around} {R : Result → Shared → Prop} {s : Shared}
theorem comp_loop {elt target iter : Expr} {ifs : List Expr} {scope : Scope} {pos : Pos} {it acc : Value} {env : Env} (I : Nat → Shared → Prop)
    (turn : ∀ n s, I n s → wpAny (model prog w) A (pyNext it) (fun r s₁ => match r with
      | none => R (.ok .next) s₁
      | some v => wpAny (model prog w) A (letOwnedTupleGo target it v) (fun _ s₀ => wpAny (model prog w) A (assign target env v) (fun _ s₂ =>
          wpAny (model prog w) A (forIn ifs true fun c r => if r = true then do let ok ← isTrue c env (eval c env); pure (ForInStep.yield ok) else pure (ForInStep.yield r)) (fun ok s₃ =>
            if ok = true then wpAny (model prog w) A (eval elt env) (fun x s₄ =>
              wpAny (model prog w) A (call (.builtin "list.append") [acc, x]) (fun _ s₅ => ∃ m, m < n ∧ I m s₅) (fun _ _ => False) s₄) (fun _ _ => False) s₃
            else ∃ m, m < n ∧ I m s₃) (fun _ _ => False) s₂) (fun _ _ => False) s₀) (fun _ _ => False) s₁) (fun _ _ => False) s)
    (n : Nat) (h : I n s) :
    codeAny (model prog w) A (.compLoop (.ListComp elt [⟨target, iter, ifs, 0⟩] scope pos) 0 it acc env) R s := by
  have ff : ∀ {E : Value → Shared → Prop} (x : Value) (s : Shared), False → E x s := fun _ _ z => z.elim
  refine codeAny_loop rfl I (fun n s hI => ?_) n h
  show wpAny _ A ((compTurn (.ListComp elt [⟨target, iter, ifs, 0⟩] scope pos) 0 it acc env).onRaise (fun x => do noteFrame x env; theTreesLotGoes x)) _ _ s
  refine wpAny_noted ?_
  rw [compTurn_list]
  refine wpAny_bind (wpAny_standAt (wpAny_bind (wpAny_mono (turn n s hI) (fun r s₁ h₁ => ?_) ff)))
  cases r with
  | none => exact wpAny_pure h₁
  | some v =>
    refine wpAny_bind (wpAny_mono h₁ (fun _ s₀ h₀ => ?_) ff)
    refine wpAny_bind (wpAny_mono h₀ (fun _ s₂ h₂ => wpAny_bind (wpAny_mono h₂ (fun ok s₃ h₃ => ?_) ff)) ff)
    cases ok with
    | true =>
      simp only [if_true] at h₃ ⊢
      refine wpAny_bind (wpAny_bind (wpAny_mono h₃ (fun x s₄ h₄ => wpAny_bind (wpAny_mono h₄ (fun _ s₅ h₅ => wpAny_pure (wpAny_pure ⟨rfl, h₅⟩)) ff)) ff))
    | false =>
      simp only [Bool.false_eq_true, if_false] at h₃ ⊢
      exact wpAny_pure ⟨rfl, h₃⟩
end
end DL
set_option Elab.async false
set_option linter.all false
set_option maxRecDepth 100000
set_option maxHeartbeats 4000000
namespace DL
open PySem PySem.Spec PyProof.Rows L2
def cyOf (X : Cx) (scope : Scope) (cl : List (Str × Addr)) (C : Addr) (NC : List Str) (s2 : Shared) (H2 : Hp) (pins : List (Addr × Obj)) (fp : List Addr) : Cx where
  prog := X.prog
  w := X.w
  K := X.K
  mg := X.mg
  base := X.base
  A := X.A
  N := NC
  s₀ := s2
  H₀ := H2
  env := compEnvC scope cl C X.env
  outer := X.stack
  stack := X.stack
  ex := fp
  fn := fun _ => false
  calm := X.calm
  pn := X.pn ++ pins
  xe := fun _ _ => False
theorem mem_of_lookup' {cl : List (Str × Addr)} {x : Str} {c : Addr} (h : cl.lookup x = some c) : (x, c) ∈ cl := PySem.mem_of_lookup h
theorem lookup_of_mem' {cl : List (Str × Addr)} {x : Str} : ∀ {c : Addr}, (x, c) ∈ cl → ∃ c', cl.lookup x = some c' := by
  induction cl with
  | nil => intro c h; cases h
  | cons p r ih =>
    intro c h
    rw [List.lookup_cons]
    cases hx : x == p.1 with
    | true => exact ⟨_, rfl⟩
    | false =>
      rcases List.mem_cons.mp h with e | h
      · subst e
        simp at hx
      · exact ih h
theorem relabel_free {env : Env} : ∀ {names : List (Str × NameKind)} {x : Str}, (∀ y ∈ names, y.2 ≠ .cell) →
    ((names.map fun (n, k) => if (k == NameKind.free && env.scope.kind == .function && env.kindOf n == some .cell) then (n, NameKind.cell) else (n, k)).lookup x = some .cell ∨
     (names.map fun (n, k) => if (k == NameKind.free && env.scope.kind == .function && env.kindOf n == some .cell) then (n, NameKind.cell) else (n, k)).lookup x = some .free) → (x, NameKind.free) ∈ names
  | [], x, _, h => by simp at h
  | (n, k) :: r, x, hc, h => by
    have ih := @relabel_free env r x (fun y hy => hc y (List.mem_cons_of_mem _ hy))
    by_cases hk : (k == NameKind.free && env.scope.kind == .function && env.kindOf n == some .cell) = true
    · have kf : k = .free := by
        rw [Bool.and_eq_true, Bool.and_eq_true] at hk
        exact eq_of_beq hk.1.1
      subst kf
      simp only [List.map_cons, hk, if_true, List.lookup_cons] at h
      cases hx : x == n with
      | true =>
        have : x = n := eq_of_beq hx
        subst this
        exact List.mem_cons_self
      | false =>
        simp only [hx] at h
        exact List.mem_cons_of_mem _ (ih h)
    · have hk' : (k == NameKind.free && env.scope.kind == .function && env.kindOf n == some .cell) = false := by simpa using hk
      simp only [List.map_cons, hk', Bool.false_eq_true, if_false, List.lookup_cons] at h
      cases hx : x == n with
      | true =>
        have : x = n := eq_of_beq hx
        subst this
        simp only [hx] at h
        have hne := hc (x, k) List.mem_cons_self
        rcases h with h | h
        · exact absurd (Option.some.inj h) hne
        · have : k = .free := Option.some.inj h
          subst this
          exact List.mem_cons_self
      | false =>
        simp only [hx] at h
        exact List.mem_cons_of_mem _ (ih h)
section
variable {X : Cx} {pins : List (Addr × Obj)} {σ : L2.St} {H2 : Hp} {s2 : Shared} {scope : Scope} {cl : List (Str × Addr)} {NC : List Str} {fp : List Addr} {C : Addr}
theorem cy_ok (I2 : Inv X pins σ H2 s2) (hf : ∀ b ∈ fp, FpOk X pins H2 b) (hob : ∀ b ∈ fp, ∃ o, s2.heap.get? b = some o ∧ ∀ v, o.data ≠ .cell v) (hkind : scope.kind = .function) (hcell : ∀ y ∈ scope.names, y.2 ≠ .cell)
    (hcl1 : ∀ p ∈ cl, X.env.cells.lookup p.1 = some p.2) (hcl2 : ∀ x, (x, NameKind.free) ∈ scope.names → ∃ c, (x, c) ∈ cl) (hC : s2.heap.objs.size ≤ C) : (cyOf X scope cl C NC s2 H2 pins fp).Ok := by
  have lk : ∀ x c, cl.lookup x = some c → X.env.cells.lookup x = some c := fun x c h => hcl1 (x, c) (mem_of_lookup' h)
  refine ⟨I2.ok.mod, hkind, I2.ok.glob, I2.ok.blt, hC, fun x y c h1 h2 => I2.ok.inj x y c (lk x c h1) (lk y c h2), fun x hx => ?_, fun x c h => absurd (show false = true from h) Bool.false_ne_true, I2.ok.hd, I2.ok.frames, .inl rfl, fun b hb => ⟨?_, fun x c h => ?_⟩, fun b o e => I2.bs b o e,
    Nat.le_trans I2.ok.bsz I2.sz, fun b o e hb => ?_, fun b hb hs => ?_, I2.stack, I2.stkFree⟩
  · obtain ⟨c, hc⟩ := hcl2 x (relabel_free (env := X.env) hcell hx)
    exact lookup_of_mem' hc
  · obtain ⟨o, ho, _⟩ := hob b hb
    exact Nat.ne_of_lt (Nat.lt_of_lt_of_le (Heap.lt_size ho) hC)
  · exact (hf b hb).2.2.2.2.1 x c (lk x c h)
  · rcases (hf b hb).2.2.2.1 with z | z
    · exact I2.ok.noex b o e z
    · exact absurd (Nat.lt_of_lt_of_le (Heap.lt_size e) (Nat.le_trans I2.ok.bsz z)) (Nat.lt_irrefl _)
  · rcases List.mem_cons.mp (I2.stkSub b hs) with z | z
    · exact (hf b hb).2.1 z
    · exact (hf b hb).2.2.1 z
theorem cy_start {σ' : L2.St} {h₁ : Heap} {tk : Nat} {mm : Str → Option Value} (I2 : Inv X pins σ H2 s2) (hf : ∀ b ∈ fp, FpOk X pins H2 b) (hob : ∀ b ∈ fp, ∃ o, s2.heap.get? b = some o ∧ ∀ v, o.data ≠ .cell v) (hkind : scope.kind = .function) (hcell : ∀ y ∈ scope.names, y.2 ≠ .cell)
    (hcl1 : ∀ p ∈ cl, X.env.cells.lookup p.1 = some p.2) (hcl2 : ∀ x, (x, NameKind.free) ∈ scope.names → ∃ c, (x, c) ∈ cl)
    (hlen : σ'.length = NC.length) (hσ : ∀ (i : Nat) (x : Str) (v : V), NC[i]? = some x → σ'[i]? = some (some v) → Vis (relabel scope X.env) x → ((relabel scope X.env).names.lookup x = some .cell ∨ (relabel scope X.env).names.lookup x = some .free) ∧ (X.env.kindOf x = some .cell ∨ X.env.kindOf x = some .free) ∧ ∃ j : Nat, X.N[j]? = some x ∧ σ[j]? = some (some v))
    (hC : C = s2.heap.objs.size + 1) (hns : h₁.Ns C mm) (hk : ∀ b u, s2.heap.get? b = some u → h₁.get? b = some u)
    (hD : h₁.get? s2.heap.objs.size = some { cls := .type "list", data := .seq ([] : List Value).toArray }) :
    Inv (cyOf X scope cl C NC s2 H2 pins fp) [] σ' (upd H2 s2.heap.objs.size (.lst [])) { s2 with heap := h₁, toks := tk } := by
  have lk : ∀ x c, cl.lookup x = some c → X.env.cells.lookup x = some c := fun x c h => hcl1 (x, c) (mem_of_lookup' h)
  have hn : H2 s2.heap.objs.size = none := I2.hok.fresh (Nat.le_refl _)
  have le1 : s2.heap.objs.size ≤ C := by rw [hC]; exact Nat.le_succ _
  have ne1 : C ≠ s2.heap.objs.size := by rw [hC]; exact Nat.succ_ne_self _
  have hCn : H2 C = none := I2.hok.fresh le1
  have neD : ∀ b o, s2.heap.get? b = some o → b ≠ s2.heap.objs.size := fun b o e => Nat.ne_of_lt (Heap.lt_size e)
  refine ⟨cy_ok I2 hf hob hkind hcell hcl1 hcl2 le1, rfl, I2.bare, Un.laid hk (Nat.le_refl _) hn, ⟨mm, hns, fun i x v h1 h2 h3 => ?_⟩, fun x c h => ?_, ?_, fun x c h => ?_, fun p hp => ?_, ?_, hlen⟩
  · obtain ⟨hy, hx, j, hj, hv⟩ := hσ i x v h1 h2 h3
    obtain ⟨m, hnX, hl⟩ := I2.loc
    have vis : Vis X.env.scope x := by rcases hx with z | z; exact .inr (.inl z); exact .inr (.inr z)
    obtain ⟨u, r, l⟩ := hl j x v hj hv vis
    refine ⟨u, r, .inr ⟨hy, ?_⟩⟩
    obtain ⟨c', hc'⟩ := hcl2 x (relabel_free (env := X.env) hcell hy)
    obtain ⟨c, hc⟩ := lookup_of_mem' hc'
    refine ⟨c, hc, ?_⟩
    rcases l with ⟨z, _⟩ | ⟨_, c2, e2, o, ho, hd⟩
    · rcases hx with q | q
      · rw [z] at q; cases q
      · rw [z] at q; cases q
    · have := lk x c hc
      rw [e2] at this
      cases this
      exact ⟨o, hk _ o ho, hd⟩
  · obtain ⟨v, o, ho, hd⟩ := I2.cell x c (lk x c h)
    exact ⟨v, o, hk _ o ho, hd⟩
  · show upd H2 s2.heap.objs.size (.lst []) C = none
    rw [upd_ne ne1]
    exact hCn
  · obtain ⟨v, o, ho, hd⟩ := I2.cell x c (lk x c h)
    rw [upd_ne (neD c o ho)]
    exact I2.freeC x c (lk x c h)
  · have hp' : p ∈ X.pn ++ pins := by
      rcases List.mem_append.mp hp with z | z
      · exact z
      · cases z
    obtain ⟨e, n, ne, nf, d⟩ := I2.pin p hp'
    refine ⟨hk _ _ e, by rw [upd_ne (neD _ _ e)]; exact n, ?_, fun z => ?_, d⟩
    · show p.1 ≠ C
      exact Nat.ne_of_lt (Nat.lt_of_lt_of_le (Heap.lt_size e) le1)
    · rcases List.mem_cons.mp (I2.stkSub p.1 z) with q | q
      · exact ne q
      · exact nf q
  · exact I2.hok.laid hk (Nat.le_refl _) ⟨Nat.zero_le _, [], 0, .nil, hD⟩
theorem cy_end {py : List (Addr × Obj)} {σ'' : L2.St} {H' : Hp} {s' : Shared} {h' : Heap} (I2 : Inv X pins σ H2 s2) (hf : ∀ b ∈ fp, FpOk X pins H2 b) (Iy : Inv (cyOf X scope cl C NC s2 H2 pins fp) py σ'' H' s') (hC : s2.heap.objs.size ≤ C) (hs : Heap.SameBut C s'.heap h') :
    Inv X pins σ H' { s' with heap := h' } := by
  have u : Un (frs X.stack) fp H2 H' s2.heap s'.heap := Iy.base
  have neC : ∀ b o, s2.heap.get? b = some o → b ≠ C := fun b o e => Nat.ne_of_lt (Nat.lt_of_lt_of_le (Heap.lt_size e) hC)
  have fC : H' C = none := Iy.free
  refine I2.call' (s' := { s' with heap := h' }) (ch := fp) Iy.os ⟨fun b o e n hb hx => (hs.2 b (neC b o e)).trans (u.keep b o e n hb hx), fun b o e n hb hx => ?_, u.free, fun b o e hx => ?_, u.tups, u.frzs, u.tbls⟩ (fun b o e => ?_) Iy.bare fun b hb => ?_
  · obtain ⟨sl, q⟩ := u.slot b o e n hb hx
    exact ⟨sl, (hs.2 b (neC b o e)).trans q⟩
  · obtain ⟨o', q⟩ := u.there b o e hx
    exact ⟨o', (hs.2 b (neC b o e)).trans q⟩
  · refine (Iy.hok b o e).stay (fun c v hc q => (hs.2 c ?_).trans q) (fun _ q => q) fun _ _ q => q
    rintro rfl
    rcases hc with rfl | hc
    · rw [fC] at e; cases e
    · rw [fC] at hc; cases hc
  · obtain ⟨_, f1, _, f3, f4, f5⟩ := hf b hb
    exact ⟨f3, f1, f4, f5⟩
end
end DL
set_option Elab.async false
set_option linter.all false
set_option maxRecDepth 100000
set_option maxHeartbeats 4000000
namespace DL
open PySem PySem.Spec PyProof.Rows L2
section
variable {K : PySem.W.Frag} {Z Y : Addr → Prop} {m m' : Mu} {H H' : Hp}
mutual
/-- data elsewhere -/
theorem RP.tr (ht : ∀ a vs, SqT K H a vs → SqT K H' a vs) (hl : ∀ a vs, (m a = none ∧ ¬ Z a) → SqL K H a vs → (m' a = none ∧ ¬ Y a) ∧ SqL K H' a vs) : ∀ (p : PyData) (v : V), RP K Z m H p v → RP K Y m' H' p v
  | .none, v, h => by simpa only [RP] using h
  | .bool _, v, h => by simpa only [RP] using h
  | .int _, v, h => by simpa only [RP] using h
  | .str _, v, h => by simpa only [RP] using h
  | .tuple xs, v, h => by
    simp only [RP] at h ⊢
    obtain ⟨a, vs, h1, h2, h3⟩ := h
    exact ⟨a, vs, h1, ht a vs h2, RPs.tr ht hl xs vs h3⟩
  | .list xs, v, h => by
    simp only [RP] at h ⊢
    obtain ⟨a, vs, h1, h2, h3, h4⟩ := h
    obtain ⟨q1, q2⟩ := hl a vs h2 h3
    exact ⟨a, vs, h1, q1, q2, RPs.tr ht hl xs vs h4⟩
  | .dict _, v, h => by simp only [RP] at h
theorem RPs.tr (ht : ∀ a vs, SqT K H a vs → SqT K H' a vs) (hl : ∀ a vs, (m a = none ∧ ¬ Z a) → SqL K H a vs → (m' a = none ∧ ¬ Y a) ∧ SqL K H' a vs) : ∀ (xs : List PyData) (vs : List V), RPs K Z m H xs vs → RPs K Y m' H' xs vs
  | [], vs, h => by simpa only [RPs] using h
  | x :: xs, vs, h => by
    simp only [RPs] at h ⊢
    obtain ⟨v, r, h1, h2, h3⟩ := h
    exact ⟨v, r, h1, RP.tr ht hl x v h2, RPs.tr ht hl xs r h3⟩
end
def rsv (Z : Addr → Prop) (D : Addr) : Addr → Prop := fun a => Z a ∨ a = D
variable {D : Addr} {ys zs : List V}
theorem tr_new_l (hD : H D = none) (hk : K.lookup D = none) : ∀ a vs, (m a = none ∧ ¬ Z a) → SqL K H a vs → (m a = none ∧ ¬ rsv Z D a) ∧ SqL K (upd H D (.lst ys)) a vs := fun a vs h1 h2 =>
  ⟨⟨h1.1, fun z => z.elim h1.2 (SqL.ne hD hk h2)⟩, (same_new hD).seq h2⟩
theorem tr_put_t (hD : H D = some (.lst ys)) : ∀ a vs, SqT K H a vs → SqT K (upd H D (.lst zs)) a vs := fun b xs h => by
  rcases h with (h | ⟨o, h⟩) | h
  · have ne : b ≠ D := by rintro rfl; rw [hD] at h; cases h
    exact .inl (.inl (by rw [upd_ne ne]; exact h))
  · have ne : b ≠ D := by rintro rfl; rw [hD] at h; cases h
    exact .inl (.inr ⟨o, by rw [upd_ne ne]; exact h⟩)
  · exact .inr h
theorem sql_put {a : Addr} {vs : List V} (ne : a ≠ D) (h : SqL K H a vs) : SqL K (upd H D (.lst zs)) a vs := by
  rcases h with (h | ⟨o, h⟩) | h
  · exact .inl (.inl (by rw [upd_ne ne]; exact h))
  · exact .inl (.inr ⟨o, by rw [upd_ne ne]; exact h⟩)
  · exact .inr h
theorem tr_put_l : ∀ a vs, (m a = none ∧ ¬ rsv Z D a) → SqL K H a vs → (m a = none ∧ ¬ rsv Z D a) ∧ SqL K (upd H D (.lst zs)) a vs := fun a vs h1 h2 =>
  ⟨h1, sql_put (fun e => h1.2 (.inr e)) h2⟩
end
section
variable {K : PySem.W.Frag} {Z : Addr → Prop} {m m1 m' : Mu} {H H1 H' : Hp} {D : Addr} {ys zs : List V}
theorem rd_new {x : DL.D} {v : V} (hD : H D = none) (hk : K.lookup D = none) (h : RD K Z m H x v) : RD K (rsv Z D) m (upd H D (.lst ys)) x v := by
  cases x with
  | dat p => exact RP.tr (fun a vs q => SqT.same (same_new hD) q) (tr_new_l hD hk) p v h
  | cel a => exact h
theorem rd_put {x : DL.D} {v : V} (hD : H D = some (.lst ys)) (h : RD K (rsv Z D) m H x v) : RD K (rsv Z D) m (upd H D (.lst zs)) x v := by
  cases x with
  | dat p => exact RP.tr (tr_put_t hD) tr_put_l p v h
  | cel a => exact h
theorem ok_new (ok : Ok K Z m H) (hD : H D = none) (hk : K.lookup D = none) : Ok K (rsv Z D) m (upd H D (.lst ys)) := by
  refine ⟨fun a c h => ?_, fun a h => ?_⟩
  · obtain ⟨o, h1, h2⟩ := ok.g a c h
    have ne : a ≠ D := by rintro rfl; rw [hD] at h1; cases h1
    exact ⟨o, by rw [upd_ne ne]; exact h1, h2.lift fun p v q => RP.tr (fun a vs q => SqT.same (same_new hD) q) (tr_new_l hD hk) p v q⟩
  · rcases h with h | h
    · have ne : a ≠ D := by rintro rfl; exact (ok.z a h).2 hD
      exact ⟨(ok.z a h).1, by rw [upd_ne ne]; exact (ok.z a h).2⟩
    · subst h
      exact ⟨(ok_none ok hD).1, by rw [upd_same]; intro z; cases z⟩
theorem ok_put2 (ok : Ok K (rsv Z D) m H) (hD : H D = some (.lst ys)) : Ok K (rsv Z D) m (upd H D (.lst zs)) := by
  refine ⟨fun a c h => ?_, fun a h => ?_⟩
  · obtain ⟨o, h1, h2⟩ := ok.g a c h
    have ne : a ≠ D := by
      rintro rfl
      have := (ok.z a (.inr rfl)).1
      rw [h] at this
      cases this
    exact ⟨o, by rw [upd_ne ne]; exact h1, h2.lift fun p v q => RP.tr (tr_put_t hD) tr_put_l p v q⟩
  · by_cases e : a = D
    · subst e
      exact ⟨(ok.z a h).1, by rw [upd_same]; intro z; cases z⟩
    · exact ⟨(ok.z a h).1, by rw [upd_ne e]; exact (ok.z a h).2⟩
theorem ok_out (ok : Ok K (rsv Z D) m H) : Ok K Z m H := by
  refine ⟨fun a c h => ?_, fun a h => ok.z a (.inl h)⟩
  obtain ⟨o, h1, h2⟩ := ok.g a c h
  exact ⟨o, h1, h2.lift fun p v q => RP.tr (fun _ _ q => q) (fun a vs q1 q2 => ⟨⟨q1.1, fun z => q1.2 (.inl z)⟩, q2⟩) p v q⟩
theorem ext_inner (e : Ext K Z m1 H1 m H) (hD : H1 D = none) (hk : K.lookup D = none) (e2 : Ext K (rsv Z D) m H m' H') : Ext K Z m1 H1 m' H' :=
  ⟨fun a vs h => e2.t a vs (e.t a vs h), fun a vs h1 h2 => let ⟨q1, q2⟩ := e.l a vs h1 h2; e2.l a vs ⟨q1, fun z => z.elim h1.2 (SqL.ne hD hk h2)⟩ q2, fun a h => (e2.z a (.inl h)).trans (e.z a h), fun a h => e2.c a (e.c a h), fun a o u h => e2.fz a o u (e.fz a o u h), fun a h => by
    have q := e.fm a h
    rw [e2.fm a (by rw [q]; exact h), q]⟩
theorem ext_put2 (e : Ext K Z m1 H1 m H) (ok1 : Ok K Z m1 H1) (hD : H1 D = none) (hk : K.lookup D = none) (hH : H D = some (.lst ys)) : Ext K Z m1 H1 m (upd H D (.lst zs)) :=
  ⟨fun a vs h => tr_put_t hH a vs (e.t a vs h), fun a vs h1 h2 => let ⟨q1, q2⟩ := e.l a vs h1 h2; ⟨q1, sql_put (SqL.ne hD hk h2) q2⟩, fun a h => by
    have ne : a ≠ D := by rintro rfl; exact (ok1.z a h).2 hD
    rw [upd_ne ne]
    exact e.z a h, e.c, fun a o u h => by
    have q := e.fz a o u h
    rw [upd_ne (by rintro rfl; rw [hH] at q; cases q)]
    exact q, e.fm⟩
end
def loopC (g : DG) (t : DT) (f : DE) : List D → List PyData → St2 → Mu → (List PyData → Mu → Prop) → Prop
  | [], acc, _, m, Q => Q acc m
  | x :: xs, acc, d, m, Q => g x d m fun d1 m1 => t d1 m1 fun b m2 => if b = true then f d1 m2 fun y m3 => ∃ p, y = .dat p ∧ acc.length < sizeLine ∧ loopC g t f xs (acc ++ [p]) d1 m3 Q else loopC g t f xs acc d1 m2 Q
def srcOf {α : Type} (src : List (Option Nat)) (d : List (Option α)) : List (Option α) := src.map fun o => o.bind fun j => (d[j]?).join
@[simp] def dLC (src : List (Option Nat)) (fi : DI) (g : DG) (t : DT) (f : DE) : DE := fun d m Q => fi d m fun xs m1 => loopC g t f xs [] (srcOf src d) m1 fun ps m2 => Q (.dat (.list ps)) m2
def PF (Y : Cx) (ifs : List Expr) (t : TT) : Prop := ∀ (pins : List (Addr × Obj)) (s : Shared) (σ : L2.St) (H : Hp) (Q : Bool → Hp → Prop), Inv Y pins σ H s → t σ H Q →
  wpAny (model Y.prog Y.w) Y.A (forIn ifs true fun c r => if r = true then do let ok ← isTrue c Y.env (eval c Y.env); pure (ForInStep.yield ok) else pure (ForInStep.yield r)) (TP Y pins σ Q) Y.xe s
@[simp] def dTrue : DT := fun _ m Q => Q true m
theorem pf_nil {Y : Cx} : PF Y [] (LT Y.K dTrue) := fun pins s σ H Q I h => by
  obtain ⟨Z, d, m, R, ok, rs, h, k⟩ := h
  exact wpAny_tests_nil ⟨H, I, k true m H h Ext.refl ok⟩
theorem rs_src {K : PySem.W.Frag} {Z : Addr → Prop} {m : Mu} {H : Hp} {d : St2} {σ : L2.St} (src : List (Option Nat)) (rs : RS K Z m H d σ) : RS K Z m H (srcOf src d) (srcOf src σ) := by
  refine ⟨by unfold srcOf; rw [List.length_map, List.length_map], fun i x h => ?_⟩
  unfold srcOf at h ⊢
  rw [List.getElem?_map] at h ⊢
  cases e : src[i]? with
  | none => rw [e] at h; cases h
  | some o =>
    rw [e] at h
    cases o with
    | none => cases h
    | some j =>
      have h' : (d[j]?).join = some x := Option.some.inj h
      cases ej : d[j]? with
      | none => rw [ej] at h'; cases h'
      | some w =>
        rw [ej] at h'
        have h2 : w = some x := h'
        subst h2
        obtain ⟨v, q1, q2⟩ := rs.2 j x ej
        exact ⟨v, by rw [Option.map_some, Option.bind_some, q1]; rfl, q2⟩
theorem srcOf_get {α : Type} {src : List (Option Nat)} {d : List (Option α)} {i : Nat} {v : α} (h : (srcOf src d)[i]? = some (some v)) : ∃ j : Nat, src[i]? = some (some j) ∧ d[j]? = some (some v) := by
  unfold srcOf at h
  rw [List.getElem?_map] at h
  cases e : src[i]? with
  | none => rw [e] at h; cases h
  | some o =>
    rw [e] at h
    cases o with
    | none => cases h
    | some j =>
      have h' : (d[j]?).join = some v := Option.some.inj h
      cases ej : d[j]? with
      | none => rw [ej] at h'; cases h'
      | some w =>
        rw [ej] at h'
        have h2 : w = some v := h'
        subst h2
        exact ⟨j, rfl, ej⟩
end DL
set_option Elab.async false
set_option linter.all false
set_option maxRecDepth 100000
set_option maxHeartbeats 4000000
namespace DL
open PySem PySem.Spec PyProof.Rows L2
theorem rd_cross {K : PySem.W.Frag} {Z : Addr → Prop} {m1 m' : Mu} {H1 H' : Hp} {D : Addr} {x : DL.D} {v : V} (hD : H1 D = none) (hk : K.lookup D = none) (e : Ext K Z m1 H1 m' H') (h : RD K Z m1 H1 x v) : RD K (rsv Z D) m' H' x v := by
  cases x with
  | dat p => exact RP.tr e.t (fun a vs h1 h2 => let ⟨q1, q2⟩ := e.l a vs h1 h2; ⟨⟨q1, fun z => z.elim h1.2 (SqL.ne hD hk h2)⟩, q2⟩) p v h
  | cel a => exact ⟨h.1, e.c a h.2⟩
section
variable {X : Cx} {tg iter elt : Expr} {ifs : List Expr} {scope : Scope} {NC : List Str} {fi : DI} {g : DG} {t : DT} {f : DE} {pos : Pos}
def srcChk (X : Cx) (scope : Scope) (NC : List Str) (src : List (Option Nat)) : Prop := NC.length = src.length ∧ ∀ (i : Nat) (x : Str) (j : Nat), NC[i]? = some x → src[i]? = some (some j) → X.N[j]? = some x ∧ (x, NameKind.free) ∈ scope.names ∧
  ((relabel scope X.env).names.lookup x = some .cell ∨ (relabel scope X.env).names.lookup x = some .free)
structure Off (X : Cx) (pins : List (Addr × Obj)) (H : Hp) (C : Addr) : Prop where
  h : H C = none
  l : C ≠ X.env.locals
  s : X.s₀.heap.objs.size ≤ C
  c : ∀ x c, X.env.cells.lookup x = some c → c ≠ C
  p : ∀ p ∈ X.pn ++ pins, p.1 ≠ C
theorem Off.inv {pins : List (Addr × Obj)} {σ : L2.St} {H : Hp} {s : Shared} {C : Addr} {h' : Heap} (o : Off X pins H C) (I : Inv X pins σ H s) (hs : Heap.SameBut C s.heap h') : Inv X pins σ H { s with heap := h' } :=
  I.turned (t' := s.toks) (it := C) (fun b ob hb e => (hs.2 b hb).trans e) o.h o.l (.inr o.s) o.c o.p
theorem lc_core (src : List (Option Nat)) (hc : X.calm = true) (hi : PI X tg iter (LI X.K fi))
    (hg : ∀ cl C s2 H2 pins fp, PG (cyOf X scope cl C NC s2 H2 pins fp) tg (LG X.K g)) (ht : ∀ cl C s2 H2 pins fp, PF (cyOf X scope cl C NC s2 H2 pins fp) ifs (LT X.K t)) (he : ∀ cl C s2 H2 pins fp, PE (cyOf X scope cl C NC s2 H2 pins fp) elt (LE X.K f))
    (hkind : scope.kind = .function) (hcell : ∀ y ∈ scope.names, y.2 ≠ .cell) (hnames : ∀ y ∈ scope.names, y.2 = .local → scope.names.lookup y.1 = some .local)
    (hfree : ∀ x, (x, NameKind.free) ∈ scope.names → X.env.kindOf x = some .cell ∨ X.env.kindOf x = some .free) (hsrc : srcChk X scope NC src)
    (hs : ∀ x, foldedSetIterable iter X.env x = pure x) {use : Option (Value → Sem Unit)} {QQ : Value → Shared → Prop} {pos' : Pos} {pins : List (Addr × Obj)} {s : Shared} {σ : L2.St} {H : Hp} {Z : Addr → Prop} {d : St2} {m : Mu} {RL : List PyData → Mu → Prop}
    (I : Inv X pins σ H s) (ok : Ok X.K Z m H) (rs : RS X.K Z m H d σ) (h : fi d m fun xs m1 => loopC g t f xs [] (srcOf src d) m1 RL)
    (fin : ∀ (s5 : Shared) (C D : Addr) (H' : Hp) (m' : Mu) (ps : List PyData), RL ps m' → Ext X.K Z m H m' H' → Ok X.K Z m' H' → RD X.K Z m' H' (.dat (.list ps)) (.ref D) → (∃ mm, s5.heap.Ns C mm) → Inv X pins σ H' s5 → Off X pins H' C → (m' D = none ∧ Ext X.K Z m H (updM m' D (.l ps)) H' ∧ Ok X.K Z (updM m' D (.l ps)) H') →
      compPost (model X.prog X.w) X.A X.xe use QQ (.ref D) C (.ok .next) s5) :
    wpAny (model X.prog X.w) X.A (comprehension (.ListComp elt [⟨tg, iter, ifs, 0⟩] scope pos) scope X.env pos' (newList []) false (eval iter X.env) use) QQ X.xe s := by
  obtain ⟨cl, hclos, hcl1, hcl2⟩ := closure_of (scope := scope) (env := X.env) fun x hx => I.ok.has x (hfree x hx)
  refine wpAny_comprehension_free (use := use) rfl hs hclos hkind hnames ?_
  refine thn (hi pins s σ H (fun J H1 => ∃ xs m1, Ext X.K Z m H m1 H1 ∧ Ok X.K Z m1 H1 ∧ Yields X.K Z m1 H1 xs J ∧ loopC g t f xs [] (srcOf src d) m1 RL) I
    ⟨Z, d, m, _, ok, rs, h, fun xs m1 H1 J q e1 ok1 y1 => ⟨xs, m1, e1, ok1, y1, q⟩⟩) fun xv s₁ h₁ => thn h₁ fun itv s₂ h₂ => ?_
  obtain ⟨it, fp, tn, J, H2, eit, I2, T, st2, f2, xs, m1, e1, ok1, yl, lp⟩ := h₂
  subst eit
  refine wpAny_newObj_type (wpAny_newFunctionEnv hcell (by intro y hy; simp at hy) (fun h₁ hns₁ hsb₁ => ?_) hkind)
  dsimp only at hns₁ hsb₁ ⊢
  generalize hH2 : s₂.heap.push { cls := .type "list", dict := none, data := .seq ([] : List Value).toArray } = HP at hns₁ hsb₁ ⊢
  have hC : HP.objs.size = s₂.heap.objs.size + 1 := by rw [← hH2, Heap.size_push]
  have leC : s₂.heap.objs.size ≤ HP.objs.size := by rw [hC]; exact Nat.le_succ _
  have old : ∀ b o, s₂.heap.get? b = some o → h₁.get? b = some o := fun b o e => hsb₁.extBut b o (Nat.ne_of_lt (Nat.lt_of_lt_of_le (Heap.lt_size e) leC)) (Heap.get?_push_of_some _ (hH2 ▸ Heap.get?_push_of_some _ e))
  have hacc : h₁.get? s₂.heap.objs.size = some { cls := .type "list", data := .seq ([] : List Value).toArray } := hsb₁.extBut _ _ (by rw [hC]; exact Nat.ne_of_lt (Nat.lt_succ_self _)) (Heap.get?_push_of_some _ (hH2 ▸ Heap.get?_push_size _ rfl))
  have hD : H2 s₂.heap.objs.size = none := I2.hok.fresh (Nat.le_refl _)
  have hkD : X.K.lookup s₂.heap.objs.size = none := by
    cases e : X.K.lookup s₂.heap.objs.size with
    | none => rfl
    | some o => exact absurd (Heap.lt_size (I2.kIn _ o e)) (Nat.lt_irrefl _)
  have obf : ∀ b ∈ fp, ∃ o, s₂.heap.get? b = some o ∧ ∀ v, o.data ≠ .cell v := T.obj 0 _ st2
  have hσ : ∀ (i : Nat) (x : Str) (v : V), NC[i]? = some x → (srcOf src σ)[i]? = some (some v) → Vis (relabel scope X.env) x → ((relabel scope X.env).names.lookup x = some .cell ∨ (relabel scope X.env).names.lookup x = some .free) ∧ (X.env.kindOf x = some .cell ∨ X.env.kindOf x = some .free) ∧ ∃ j : Nat, X.N[j]? = some x ∧ σ[j]? = some (some v) := fun i x v h1 h2 _ => by
    obtain ⟨j, q1, q2⟩ := srcOf_get h2
    obtain ⟨a1, a2, a3⟩ := hsrc.2 i x j h1 q1
    exact ⟨a3, hfree x a2, j, a1, q2⟩
  have I4 := fun tk => cy_start (cl := cl) (NC := NC) (σ' := srcOf src σ) (tk := tk) I2 f2 obf hkind hcell hcl1 hcl2 (by unfold srcOf; rw [List.length_map]; exact hsrc.1.symm) hσ hC hns₁ old hacc
  have st4 : tn 0 h₁ := T.keep 0 _ _ st2 fun b _ o e => old b o e
  -- the loop
  have loop : ∀ s₃ : Shared, s₃ = { s₂ with heap := h₁, toks := s₂.toks + ([] : List (Str × Value)).length } →
      codeAny (model X.prog X.w) X.A (.compLoop (.ListComp elt [⟨tg, iter, ifs, 0⟩] scope pos) 0 (.ref it) (.ref s₂.heap.objs.size) (compEnvC scope cl HP.objs.size X.env))
        (compPost (model X.prog X.w) X.A X.xe use QQ (.ref s₂.heap.objs.size) HP.objs.size) s₃ := by
    rintro s₃ rfl
    refine comp_loop (fun n s' => ∃ (i : Nat) (ys : List V) (acc : List PyData) (d' : St2) (m' : Mu) (σ' : L2.St) (H' : Hp), n = xs.length - i ∧ i ≤ xs.length ∧ Inv (cyOf X scope cl HP.objs.size NC s₂ H2 pins fp) [] σ' H' s' ∧ tn i s'.heap ∧ (∀ b ∈ fp, H' b = none) ∧
      H' s₂.heap.objs.size = some (.lst ys) ∧ RPs X.K (rsv Z s₂.heap.objs.size) m' H' acc ys ∧ Ext X.K Z m1 H2 m' H' ∧ Ok X.K (rsv Z s₂.heap.objs.size) m' H' ∧ RS X.K (rsv Z s₂.heap.objs.size) m' H' d' σ' ∧
      loopC g t f (xs.drop i) acc d' m' RL) ?_ xs.length ?_
    rotate_left
    · have rs1 : RS X.K Z m1 H2 (srcOf src d) (srcOf src σ) := rs_src src (rs.ext e1)
      refine ⟨0, [], [], srcOf src d, m1, srcOf src σ, _, by simp, Nat.zero_le _, I4 _, st4, fun b hb => ?_, upd_same, by simp [RPs], ok1.ext (same_new hD), ok_new ok1 hD hkD, ⟨rs1.1, fun i x hx => ?_⟩, by simpa using lp⟩
      · obtain ⟨o, ho, _⟩ := obf b hb
        rw [upd_ne (Nat.ne_of_lt (Heap.lt_size ho))]
        exact (f2 b hb).1
      · obtain ⟨v, q1, q2⟩ := rs1.2 i x hx
        exact ⟨v, q1, rd_new hD hkD q2⟩
    rintro n s4 ⟨i, ys, acc, d', m', σ', H', rfl, hi', I5, st5, fr5, hDy, racc, eX, ok5, rs5, lp5⟩
    have stat : ∀ b ∈ fp, FpOk (cyOf X scope cl HP.objs.size NC s₂ H2 pins fp) [] H' b := fun b hb => by
      obtain ⟨g0, g1, g2, g3, g4, g5⟩ := f2 b hb
      obtain ⟨o, ho, _⟩ := obf b hb
      refine ⟨fr5 b hb, Nat.ne_of_lt (Nat.lt_of_lt_of_le (Heap.lt_size ho) leC), fun z => ?_, .inl hb, fun x c e => g4 x c (hcl1 (x, c) (mem_of_lookup' e)), fun p hp => ?_⟩
      · rcases List.mem_cons.mp (I2.stkSub b z) with q | q
        · exact g1 q
        · exact g2 q
      · rcases List.mem_append.mp hp with q | q
        · exact g5 p q
        · cases q
    obtain ⟨y1, y2⟩ := yl m' H' eX.y
    by_cases hlt : i < xs.length
    · rw [List.drop_eq_getElem_cons hlt] at lp5
      obtain ⟨go, yd⟩ := y1 i xs[i] (List.getElem?_eq_getElem hlt)
      refine thn (T.item (cyOf X scope cl HP.objs.size NC s₂ H2 pins fp) rfl rfl rfl hc i [] s4 σ' H' (fun _ _ => False) I5 stat st5 go) fun r s5 hq0 => ?_
      obtain ⟨u, hr, h5⟩ := hq0
      subst hr
      refine thn h5 fun _ s6 hq0 => ?_
      obtain ⟨x, H6, I6, r6, yy, st6, fr6⟩ := hq0
      have yy' := yd x H6 yy
      have e56 : Ext X.K (rsv Z s₂.heap.objs.size) m' H' m' H6 := ok5.ext yy'.same
      have rv := yy'.rd (fun d v h => rd_cross hD hkD eX h) ok5
      have hDy := yy'.same _ _ hDy
      have racc := RPs.ext e56 _ _ racc
      have eX := ext_inner eX hD hkD e56
      have rs5 := rs5.ext e56
      have ok5 := ok5.grow yy'.same
      have stat : ∀ b ∈ fp, FpOk (cyOf X scope cl HP.objs.size NC s₂ H2 pins fp) [] H6 b := fun b hb => ⟨fr6 b hb, (stat b hb).2⟩
      have I6' := I6.pinned stat (T.obj _ _ st6)
      -- what stands when a turn is over
      have over : ∀ {s7 : Shared} {σ7 : L2.St} {H7 : Hp} {ys7 : List V} {acc7 : List PyData} {d7 : St2} {m7 : Mu}, Inv (cyOf X scope cl HP.objs.size NC s₂ H2 pins fp) ([] ++ pinsAt fp s6.heap) σ7 H7 s7 → H7 s₂.heap.objs.size = some (.lst ys7) → RPs X.K (rsv Z s₂.heap.objs.size) m7 H7 acc7 ys7 →
          Ext X.K Z m1 H2 m7 H7 → Ok X.K (rsv Z s₂.heap.objs.size) m7 H7 → RS X.K (rsv Z s₂.heap.objs.size) m7 H7 d7 σ7 → (loopC g t f (xs.drop (i + 1)) acc7 d7 m7 RL) →
          ∃ n, n < xs.length - i ∧ ∃ (i : Nat) (ys : List V) (acc : List PyData) (d' : St2) (m' : Mu) (σ' : L2.St) (H' : Hp), n = xs.length - i ∧ i ≤ xs.length ∧ Inv (cyOf X scope cl HP.objs.size NC s₂ H2 pins fp) [] σ' H' s7 ∧ tn i s7.heap ∧ (∀ b ∈ fp, H' b = none) ∧
            H' s₂.heap.objs.size = some (.lst ys) ∧ RPs X.K (rsv Z s₂.heap.objs.size) m' H' acc ys ∧ Ext X.K Z m1 H2 m' H' ∧ Ok X.K (rsv Z s₂.heap.objs.size) m' H' ∧ RS X.K (rsv Z s₂.heap.objs.size) m' H' d' σ' ∧
            loopC g t f (xs.drop i) acc d' m' RL := by
        intro s7 σ7 H7 ys7 acc7 d7 m7 I7 a1 a2 a3 a4 a5 a6
        refine ⟨xs.length - (i + 1), by omega, i + 1, ys7, acc7, d7, m7, σ7, H7, rfl, hlt, I7.unpinned, T.keep _ _ _ st6 fun b hb o e => (I7.pin (b, o) (List.mem_append_right _ (List.mem_append_right _ (mem_pinsAt hb e)))).1, fun b hb => ?_, a1, a2, a3, a4, a5, a6⟩
        obtain ⟨o, e, dd⟩ := T.obj _ _ st6 b hb
        exact (I7.pin (b, o) (List.mem_append_right _ (List.mem_append_right _ (mem_pinsAt hb e)))).2.1
      refine thn (hg cl _ s₂ H2 pins fp _ s6 σ' _ x u (fun σ7 H7 => ∃ d7 m7, Ext X.K (rsv Z s₂.heap.objs.size) m' H6 m7 H7 ∧ Ok X.K (rsv Z s₂.heap.objs.size) m7 H7 ∧ RS X.K (rsv Z s₂.heap.objs.size) m7 H7 d7 σ7 ∧
        t d7 m7 fun b m2 => if b = true then f d7 m2 fun y m3 => ∃ p, y = .dat p ∧ acc.length < sizeLine ∧ loopC g t f (xs.drop (i + 1)) (acc ++ [p]) d7 m3 RL else loopC g t f (xs.drop (i + 1)) acc d7 m2 RL) I6' r6
        ⟨_, xs[i], d', m', _, ok5, rs5, rv, lp5, fun d7 m7 σ7 H7 q7 e7 ok7 rs7 => ⟨d7, m7, e7, ok7, rs7, q7⟩⟩) fun _ s7 hq0 => ?_
      obtain ⟨σ7, H7, I7, d7, m7, e7, ok7, rs7, q7⟩ := hq0
      refine thn (ht cl _ s₂ H2 pins fp _ s7 σ7 H7 (fun b H8 => ∃ m8, Ext X.K (rsv Z s₂.heap.objs.size) m7 H7 m8 H8 ∧ Ok X.K (rsv Z s₂.heap.objs.size) m8 H8 ∧
        if b = true then f d7 m8 fun y m3 => ∃ p, y = .dat p ∧ acc.length < sizeLine ∧ loopC g t f (xs.drop (i + 1)) (acc ++ [p]) d7 m3 RL else loopC g t f (xs.drop (i + 1)) acc d7 m8 RL) I7
        ⟨_, d7, m7, _, ok7, rs7, q7, fun b m8 H8 q8 e8 ok8 => ⟨m8, e8, ok8, q8⟩⟩) fun b s8 hq0 => ?_
      obtain ⟨H8, I8, m8, e8, ok8, q8⟩ := hq0
      have e68 := e7.trans e8
      have hD8 : H8 s₂.heap.objs.size = some (.lst ys) := (e68.z _ (.inr rfl)).trans hDy
      cases b with
      | false =>
        rw [if_neg Bool.false_ne_true] at q8
        exact over I8 hD8 (RPs.ext e68 _ _ racc) (ext_inner eX hD hkD e68) ok8 (rs7.ext e8) q8
      | true =>
        rw [if_pos rfl] at q8
        refine thn (he cl _ s₂ H2 pins fp _ s8 σ7 H8 (fun v H9 => ∃ p m9, RP X.K (rsv Z s₂.heap.objs.size) m9 H9 p v ∧ Ext X.K (rsv Z s₂.heap.objs.size) m8 H8 m9 H9 ∧ Ok X.K (rsv Z s₂.heap.objs.size) m9 H9 ∧ acc.length < sizeLine ∧ loopC g t f (xs.drop (i + 1)) (acc ++ [p]) d7 m9 RL) I8
          ⟨_, d7, m8, _, ok8, rs7.ext e8, q8, fun y m9 v H9 hq1 e9 ok9 r9 => by
            obtain ⟨p, ey, hz, q9⟩ := hq1
            subst ey
            exact ⟨p, m9, r9, e9, ok9, hz, q9⟩⟩) fun yv s9 hq0 => ?_
        obtain ⟨y, H9, I9, ry, p, m9, rp9, e9, ok9, hz, q9⟩ := hq0
        have e69 := e68.trans e9
        have hD9 : H9 s₂.heap.objs.size = some (.lst ys) := (e69.z _ (.inr rfl)).trans hDy
        have racc9 := RPs.ext e69 _ _ racc
        have rs9 := (rs7.ext e8).ext e9
        refine thn (mt_append _ s9 σ7 H9 (.ref s₂.heap.objs.size) [y] (.ref s₂.heap.objs.size) [yv] (fun v H10 => H10 = upd H9 s₂.heap.objs.size (.lst (ys ++ [y]))) I9 rfl (.cons ry .nil) ⟨_, ys, y, rfl, rfl, hD9, by rw [racc9.length]; exact hz, rfl⟩) fun rv s10 hq0 => ?_
        obtain ⟨v10, H10, I10, _, e10⟩ := hq0
        subst e10
        refine over I10 upd_same ?_ (ext_put2 (ext_inner eX hD hkD e69) ok1 hD hkD hD9) (ok_put2 ok9 hD9) ⟨rs9.1, fun j z hj => ?_⟩ q9
        · exact RPs.tr (tr_put_t hD9) tr_put_l _ _ (racc9.append (by simp only [RPs]; exact ⟨y, [], rfl, rp9, rfl⟩))
        · obtain ⟨v, a1, a2⟩ := rs9.2 j z hj
          exact ⟨v, a1, rd_put hD9 a2⟩
    · have e : i = xs.length := by omega
      subst e
      rw [List.drop_length] at lp5
      refine thn (T.done (cyOf X scope cl HP.objs.size NC s₂ H2 pins fp) rfl rfl rfl hc _ [] s4 σ' H' (fun _ _ => False) I5 stat st5 y2) fun r s5 hq0 => ?_
      obtain ⟨hr, I6⟩ := hq0
      subst hr
      have IX := cy_end I2 f2 I6 leC (Heap.SameBut.refl _ _)
      have nz : ¬ Z s₂.heap.objs.size := fun z => (ok1.z _ z).2 hD
      refine fin s5 HP.objs.size s₂.heap.objs.size H' m' acc lp5 (e1.trans eX) (ok_out ok5) ?_ ⟨_, I6.loc.choose_spec.1⟩ IX ⟨I6.free, Nat.ne_of_gt (Nat.lt_of_lt_of_le I2.lt leC), Nat.le_trans I2.sz leC, fun x c e => ?_, fun p hp => ?_⟩ ⟨(ok5.z _ (.inr rfl)).1, ?_, ?_⟩
      · simp only [RD, RP]
        exact ⟨_, ys, rfl, ⟨(ok5.z _ (.inr rfl)).1, nz⟩, .inl (.inl hDy), RPs.tr (fun _ _ q => q) (fun a vs q1 q2 => ⟨⟨q1.1, fun z => q1.2 (.inl z)⟩, q2⟩) _ _ racc⟩
      · obtain ⟨v, q⟩ := I2.cell x c e
        exact Nat.ne_of_lt (Nat.lt_of_lt_of_le q.lt leC)
      · exact Nat.ne_of_lt (Nat.lt_of_lt_of_le (Heap.lt_size (I2.pin p hp).1) leC)
      · refine ⟨fun a vs q => (e1.trans eX).t a vs q, fun a vs q1 q2 => ?_, fun a q => (e1.trans eX).z a q, fun a q => ?_, (e1.trans eX).fz, fun a q => ?_⟩
        · obtain ⟨_, q3⟩ := e1.l a vs q1 q2
          have ne := SqL.ne hD hkD q3
          obtain ⟨q4, q5⟩ := (e1.trans eX).l a vs q1 q2
          exact ⟨by rw [updM_ne ne]; exact q4, q5⟩
        · by_cases ea : a = s₂.heap.objs.size
          · subst ea; rw [updM_same]; rfl
          · rw [updM_ne ea]; exact (e1.trans eX).c a q
        · have fq := (e1.trans eX).fm a q
          have ne : a ≠ s₂.heap.objs.size := by
            rintro rfl
            rw [(ok5.z _ (.inr rfl)).1] at fq
            rw [← fq] at q
            cases q
          rw [updM_ne ne]
          exact fq
      · have tr : ∀ (a : Addr) (vs : List V), (m' a = none ∧ ¬ rsv Z s₂.heap.objs.size a) → SqL X.K H' a vs → (updM m' s₂.heap.objs.size (.l acc) a = none ∧ ¬ Z a) ∧ SqL X.K H' a vs := fun a vs q1 q2 => ⟨⟨by rw [updM_ne fun z => q1.2 (.inr z)]; exact q1.1, fun z => q1.2 (.inl z)⟩, q2⟩
        refine ⟨fun a c q => ?_, fun a q => ?_⟩
        · by_cases ea : a = s₂.heap.objs.size
          · subst ea
            rw [updM_same] at q
            cases q
            exact ⟨_, hDy, RPs.tr (fun _ _ q => q) tr _ _ racc⟩
          · rw [updM_ne ea] at q
            obtain ⟨o, q1, q2⟩ := ok5.g a c q
            exact ⟨o, q1, q2.lift fun p v q3 => RP.tr (fun _ _ q => q) tr p v q3⟩
        · have ne : a ≠ s₂.heap.objs.size := fun z => nz (z ▸ q)
          obtain ⟨q1, q2⟩ := ok5.z a (.inl q)
          exact ⟨by rw [updM_ne ne]; exact q1, q2⟩
  exact codeAny_compStart_list (loop _ rfl) (T.self _ 0 _ _ _ st4 (loop _ rfl))
theorem le_lc (src : List (Option Nat)) (hc : X.calm = true) (hi : PI X tg iter (LI X.K fi))
    (hg : ∀ cl C s2 H2 pins fp, PG (cyOf X scope cl C NC s2 H2 pins fp) tg (LG X.K g)) (ht : ∀ cl C s2 H2 pins fp, PF (cyOf X scope cl C NC s2 H2 pins fp) ifs (LT X.K t)) (he : ∀ cl C s2 H2 pins fp, PE (cyOf X scope cl C NC s2 H2 pins fp) elt (LE X.K f))
    (hkind : scope.kind = .function) (hcell : ∀ y ∈ scope.names, y.2 ≠ .cell) (hnames : ∀ y ∈ scope.names, y.2 = .local → scope.names.lookup y.1 = some .local)
    (hfree : ∀ x, (x, NameKind.free) ∈ scope.names → X.env.kindOf x = some .cell ∨ X.env.kindOf x = some .free) (hsrc : srcChk X scope NC src)
    (hs : ∀ x, foldedSetIterable iter X.env x = pure x := by intro _; rfl) :
    PE X (.ListComp elt [⟨tg, iter, ifs, 0⟩] scope pos) (LE X.K (dLC src fi g t f)) := by
  intro pins s σ H Q I h
  obtain ⟨Z, d, m, R, ok, rs, h, k⟩ := h
  rw [eval_ListComp]
  refine lc_core src hc hi hg ht he hkind hcell hnames hfree hsrc hs (use := none) (QQ := EP X pins σ Q) (RL := fun ps m2 => R (.dat (.list ps)) m2) I ok rs h ?_
  intro s5 C D H' m' ps q e ok' rd ⟨mm, hns⟩ I5 off hcl
  exact ⟨mm, hns, fun h' hs' => ⟨.ref D, H', off.inv I5 hs', rfl, k _ m' _ H' q e ok' rd⟩⟩
theorem ls_lc (i : Nat) {y : Str} {py spos : Pos} (src : List (Option Nat)) (hc : X.calm = true) (hi : PI X tg iter (LI X.K fi))
    (hg : ∀ cl C s2 H2 pins fp, PG (cyOf X scope cl C NC s2 H2 pins fp) tg (LG X.K g)) (ht : ∀ cl C s2 H2 pins fp, PF (cyOf X scope cl C NC s2 H2 pins fp) ifs (LT X.K t)) (he : ∀ cl C s2 H2 pins fp, PE (cyOf X scope cl C NC s2 H2 pins fp) elt (LE X.K f))
    (hkind : scope.kind = .function) (hcell : ∀ y ∈ scope.names, y.2 ≠ .cell) (hnames : ∀ y ∈ scope.names, y.2 = .local → scope.names.lookup y.1 = some .local)
    (hfree : ∀ x, (x, NameKind.free) ∈ scope.names → X.env.kindOf x = some .cell ∨ X.env.kindOf x = some .free) (hsrc : srcChk X scope NC src)
    (hN : X.N.Nodup) (hi2 : X.N[i]? = some y := by rfl) (hx : Loc X.env.scope y := by first | exact Or.inl rfl | exact Or.inr rfl) (hf : X.fn y = true ∨ X.env.scope.names.lookup y = some .local := by first | exact .inl rfl | exact .inr rfl)
    (hsw : swapsWith (.ListComp elt [⟨tg, iter, ifs, 0⟩] scope pos) (some (.Name y py)) spos.line X.env = pure true := by rfl)
    (hs : ∀ x, foldedSetIterable iter X.env x = pure x := by intro _; rfl) :
    PS X (.Assign [.Name y py] (.ListComp elt [⟨tg, iter, ifs, 0⟩] scope pos) spos) (LS X.K (dSet i (dLC src fi g t f))) := by
  intro pins s σ H E I h
  obtain ⟨Z, d, m, R, ok, rs, h, k, _⟩ := h
  rw [exec_Assign_Name_used _ _ _ _ hsw]
  refine wpAny_bind (wpAny_standAt (wpAny_bind ?_))
  rw [arm_evalThenUse_ListComp]
  refine wpAny_bind ?_
  refine thn (lc_core src hc hi hg ht he hkind hcell hnames hfree hsrc hs (use := some (assign (.Name y py) X.env)) (QQ := fun _ s' => SP X pins E .next s') (RL := fun ps m2 => R.nx (d.set i (some (.dat (.list ps)))) m2) I ok rs h ?_) (fun _ s' q => wpAny_pure (wpAny_pure q))
  intro s5 C D H' m' ps q e ok' rd ⟨mm, hns⟩ I5 off hcl
  show wpAny _ X.A (assign (.Name y py) X.env (.ref D)) _ _ s5
  refine wpAny_assign_Name (store_ok2 I5 hN hi2 hx (v := .ref D) rfl (fun s6 I6 ⟨a, hs6, ha⟩ => ?_) hf)
  have ne : C ≠ a := by
    rcases ha with rfl | ha
    · exact off.l
    · exact Ne.symm (off.c _ _ ha)
  refine ⟨mm, hns.sameBut hs6 ne, fun h' hs' => ?_⟩
  exact ⟨_, H', off.inv I6 hs', k _ m' _ H' q e ok' ((rs.ext e).set rd)⟩
end
end DL
set_option Elab.async false
set_option linter.all false
set_option maxRecDepth 100000
set_option maxHeartbeats 4000000
namespace DL
open PySem PySem.Spec PyProof.Rows L2
section
variable {prog : Program} {w : World} {A : Around} {E : Value → Shared → Prop} {s : Shared}
def IsRv (h : Heap) (a t : Addr) (i : Int) : Prop := ∃ o, h.get? a = some o ∧ o.cls = .type "reversed" ∧ o.data = .fields #[.ref t, rawInt i]
theorem IsRv.typeIs {a t : Addr} {i : Int} (x : IsRv s.heap a t i) : s.TypeIs (.ref a) "reversed" := let ⟨o, ho, hc, _⟩ := x; ⟨o, ho, hc⟩
end
end DL
set_option Elab.async false
set_option linter.all false
set_option maxRecDepth 100000
set_option maxHeartbeats 4000000
namespace DL
open PySem PySem.Spec PyProof.Rows L2
section
variable {X : Cx} {a e o : Expr} {es : List Expr} {f g : DE} {ga : DA} {pos p p1 p2 : Pos}
theorem rps_strs {K : PySem.W.Frag} {Z : Addr → Prop} {m : Mu} {H : Hp} : ∀ {zs : List Str} {vs : List V}, RPs K Z m H (zs.map PyData.str) vs → vs = zs.map V.str
  | [], vs, h => by simpa [RPs] using h
  | z :: zs, vs, h => by
    simp only [List.map_cons, RPs] at h
    obtain ⟨v, r, rfl, h1, h2⟩ := h
    simp only [RP] at h1
    subst h1
    rw [rps_strs h2]
    rfl
theorem strs_rps {K : PySem.W.Frag} {Z : Addr → Prop} {m : Mu} {H : Hp} : ∀ (zs : List Str), RPs K Z m H (zs.map PyData.str) (zs.map V.str)
  | [] => by simp [RPs]
  | z :: zs => by
    simp only [List.map_cons, RPs]
    exact ⟨_, _, rfl, by simp only [RP], strs_rps zs⟩
def KT (K : PySem.W.Frag) (a : Addr) (zs : List Str) : Prop := ∃ (o : Obj) (its : Array Value) (n : Nat), K.lookup a = some o ∧ o.cls = .type "tuple" ∧ o.dict = none ∧ o.data = .seq its n ∧ its.size ≤ sizeLine ∧ Vals (zs.map V.str) its.toList
theorem KT.sq {K : PySem.W.Frag} {a : Addr} {zs : List Str} {H : Hp} (h : KT K a zs) : SqT K H a (zs.map V.str) := by
  obtain ⟨o, its, n, h1, h2, h3, h4, h5, h6⟩ := h
  exact .inr ⟨o, its, n, h1, ⟨h2, h3⟩, h4, h5, h6⟩
@[simp] def aNotIn : D2
  | .dat (.str x), .dat (.list ys), m, Q => ∃ zs : List Str, ys = zs.map .str ∧ Q (.dat (.bool (!decide (x ∈ zs)))) m
  | .dat (.str x), .dat (.tuple ys), m, Q => ∃ zs : List Str, ys = zs.map .str ∧ Q (.dat (.bool (!decide (x ∈ zs)))) m
  | .dat (.bool x), .dat (.list ys), m, Q => ∃ zs : List Bool, ys = zs.map .bool ∧ Q (.dat (.bool (!decide (x ∈ zs)))) m
  | .dat (.bool x), .dat (.tuple ys), m, Q => ∃ zs : List Bool, ys = zs.map .bool ∧ Q (.dat (.bool (!decide (x ∈ zs)))) m
  | .dat (.int x), .dat (.list ys), m, Q => ∃ zs : List Int, ys = zs.map .int ∧ Q (.dat (.bool (!decide (x ∈ zs)))) m
  | .dat (.int x), .dat (.tuple ys), m, Q => ∃ zs : List Int, ys = zs.map .int ∧ Q (.dat (.bool (!decide (x ∈ zs)))) m
  | _, _, _, _ => False
theorem inV_strs (x : Str) : ∀ zs : List Str, inV (.str x) (zs.map V.str) = decide (x ∈ zs)
  | [] => rfl
  | z :: zs => by
    have ih := inV_strs x zs
    unfold inV at ih ⊢
    rw [List.map_cons, List.any_cons, ih]
    show (z == x || decide (x ∈ zs)) = decide (x ∈ z :: zs)
    rw [Bool.eq_iff_iff]
    simp only [Bool.or_eq_true, beq_iff_eq, decide_eq_true_eq, List.mem_cons]
    exact ⟨fun h => h.imp Eq.symm id, fun h => h.imp Eq.symm id⟩
theorem flat_strs (zs : List Str) : (zs.map V.str).all flatV = true := by
  rw [List.all_eq_true]
  intro v hv
  obtain ⟨z, _, rfl⟩ := List.mem_map.mp hv
  rfl
theorem inV_bools (x : Bool) : ∀ zs : List Bool, inV (.bl x) (zs.map V.bl) = decide (x ∈ zs)
  | [] => rfl
  | z :: zs => by
    have ih := inV_bools x zs
    unfold inV at ih ⊢
    rw [List.map_cons, List.any_cons, ih]
    show (z == x || decide (x ∈ zs)) = decide (x ∈ z :: zs)
    rw [Bool.eq_iff_iff]
    simp only [Bool.or_eq_true, beq_iff_eq, decide_eq_true_eq, List.mem_cons]
    exact ⟨fun h => h.imp Eq.symm id, fun h => h.imp Eq.symm id⟩
theorem flat_bools (zs : List Bool) : (zs.map V.bl).all flatV = true := by
  rw [List.all_eq_true]
  intro v hv
  obtain ⟨z, _, rfl⟩ := List.mem_map.mp hv
  rfl
theorem rps_bools' {K : PySem.W.Frag} {Z : Addr → Prop} {m : Mu} {H : Hp} : ∀ {zs : List Bool} {vs : List V}, RPs K Z m H (zs.map PyData.bool) vs → vs = zs.map V.bl
  | [], vs, h => by simpa [RPs] using h
  | z :: zs, vs, h => by
    simp only [List.map_cons, RPs] at h
    obtain ⟨v, r, rfl, h1, h2⟩ := h
    simp only [RP] at h1
    subst h1
    rw [rps_bools' h2]
    rfl
theorem inV_ints (x : Int) : ∀ zs : List Int, inV (.int x) (zs.map V.int) = decide (x ∈ zs)
  | [] => rfl
  | z :: zs => by
    have ih := inV_ints x zs
    unfold inV at ih ⊢
    rw [List.map_cons, List.any_cons, ih]
    show (z == x || decide (x ∈ zs)) = decide (x ∈ z :: zs)
    rw [Bool.eq_iff_iff]
    simp only [Bool.or_eq_true, beq_iff_eq, decide_eq_true_eq, List.mem_cons]
    exact ⟨fun h => h.imp Eq.symm id, fun h => h.imp Eq.symm id⟩
theorem flat_ints (zs : List Int) : (zs.map V.int).all flatV = true := by
  rw [List.all_eq_true]
  intro v hv
  obtain ⟨z, _, rfl⟩ := List.mem_map.mp hv
  rfl
theorem rps_ints' {K : PySem.W.Frag} {Z : Addr → Prop} {m : Mu} {H : Hp} : ∀ {zs : List Int} {vs : List V}, RPs K Z m H (zs.map PyData.int) vs → vs = zs.map V.int
  | [], vs, h => by simpa [RPs] using h
  | z :: zs, vs, h => by
    simp only [List.map_cons, RPs] at h
    obtain ⟨v, r, rfl, h1, h2⟩ := h
    simp only [RP] at h1
    subst h1
    rw [rps_ints' h2]
    rfl
theorem od_notin : OpD X (compareOp .NotIn) aNotIn := by
  intro pins s σ H Z m x y dx dy v u R Q I ok rx ry r1 r2 h k
  unfold aNotIn at h
  split at h
  · obtain ⟨zs, rfl, q⟩ := h
    cases r1.str
    simp only [RD, RP] at r2
    obtain ⟨a, vs, rfl, _, h1, h2⟩ := r2
    cases rps_strs h2
    refine op_notIn_seq pins s σ H _ _ v u Q I rx ry ⟨a, _, rfl, .inl h1, rfl, flat_strs zs, ?_⟩
    rw [if_pos rfl, inV_strs]
    exact k _ m _ H q Ext.refl ok .ofBl
  · obtain ⟨zs, rfl, q⟩ := h
    cases r1.str
    simp only [RD, RP] at r2
    obtain ⟨a, vs, rfl, h1, h2⟩ := r2
    cases rps_strs h2
    refine op_notIn_seq pins s σ H _ _ v u Q I rx ry ⟨a, _, rfl, .inr h1, rfl, flat_strs zs, ?_⟩
    rw [if_pos rfl, inV_strs]
    exact k _ m _ H q Ext.refl ok .ofBl
  · obtain ⟨zs, rfl, q⟩ := h
    cases r1.bl
    simp only [RD, RP] at r2
    obtain ⟨a, vs, rfl, _, h1, h2⟩ := r2
    cases rps_bools' h2
    refine op_notIn_seq pins s σ H _ _ v u Q I rx ry ⟨a, _, rfl, .inl h1, rfl, flat_bools zs, ?_⟩
    rw [if_pos rfl, inV_bools]
    exact k _ m _ H q Ext.refl ok .ofBl
  · obtain ⟨zs, rfl, q⟩ := h
    cases r1.bl
    simp only [RD, RP] at r2
    obtain ⟨a, vs, rfl, h1, h2⟩ := r2
    cases rps_bools' h2
    refine op_notIn_seq pins s σ H _ _ v u Q I rx ry ⟨a, _, rfl, .inr h1, rfl, flat_bools zs, ?_⟩
    rw [if_pos rfl, inV_bools]
    exact k _ m _ H q Ext.refl ok .ofBl
  · obtain ⟨zs, rfl, q⟩ := h
    cases r1.int
    simp only [RD, RP] at r2
    obtain ⟨a, vs, rfl, _, h1, h2⟩ := r2
    cases rps_ints' h2
    refine op_notIn_seq pins s σ H _ _ v u Q I rx ry ⟨a, _, rfl, .inl h1, rfl, flat_ints zs, ?_⟩
    rw [if_pos rfl, inV_ints]
    exact k _ m _ H q Ext.refl ok .ofBl
  · obtain ⟨zs, rfl, q⟩ := h
    cases r1.int
    simp only [RD, RP] at r2
    obtain ⟨a, vs, rfl, h1, h2⟩ := r2
    cases rps_ints' h2
    refine op_notIn_seq pins s σ H _ _ v u Q I rx ry ⟨a, _, rfl, .inr h1, rfl, flat_ints zs, ?_⟩
    rw [if_pos rfl, inV_ints]
    exact k _ m _ H q Ext.refl ok .ofBl
  · exact h.elim
@[simp] def bTuple : DC
  | [.dat (.tuple xs)], m, Q => Q (.dat (.tuple xs)) m
  | [.dat (.list xs)], m, Q => Q (.dat (.tuple xs)) m
  | [.cel c], m, Q => ∃ xs, m c = some (.l xs) ∧ Q (.dat (.tuple xs)) m
  | _, _, _ => False
theorem cd_tuple : CallD X (.type "tuple") bTuple := by
  intro pins s σ H Z m xs ds us R Q I ok rv rd h k
  unfold bTuple at h
  split at h
  · obtain ⟨v, rfl, r1⟩ := rd.one
    have r0 := r1
    simp only [RD, RP] at r1
    obtain ⟨a, vs, rfl, h1, h2⟩ := r1
    exact call_tuple_of pins s σ H _ us Q I rv ⟨a, vs, rfl, .inr ⟨h1, k _ m _ H h Ext.refl ok r0⟩⟩
  · obtain ⟨v, rfl, r1⟩ := rd.one
    simp only [RD, RP] at r1
    obtain ⟨a, vs, rfl, _, h1, h2⟩ := r1
    refine call_tuple_of pins s σ H _ us Q I rv ⟨a, vs, rfl, .inl ⟨h1, fun l hl => ?_⟩⟩
    have sm : Same H (upd H l (.tup vs)) := same_new hl
    refine k _ m _ _ h (ok.ext sm) (ok.grow sm) ?_
    simp only [RD, RP]
    exact ⟨l, vs, rfl, .inl (.inl upd_same), RPs.ext (ok.ext sm) _ _ h2⟩
  · obtain ⟨v, rfl, r1⟩ := rd.one
    obtain ⟨rfl, _⟩ := r1
    obtain ⟨ys, hm, q⟩ := h
    obtain ⟨vs, h1, h2⟩ := ok.l hm
    refine call_tuple_of pins s σ H _ us Q I rv ⟨_, vs, rfl, .inl ⟨.inl (.inl h1), fun l hl => ?_⟩⟩
    have sm : Same H (upd H l (.tup vs)) := same_new hl
    refine k _ m _ _ q (ok.ext sm) (ok.grow sm) ?_
    simp only [RD, RP]
    exact ⟨l, vs, rfl, .inl (.inl upd_same), RPs.ext (ok.ext sm) _ _ h2⟩
  · exact h.elim
end
end DL
set_option Elab.async false
set_option linter.all false
set_option maxRecDepth 100000
set_option maxHeartbeats 4000000
namespace DL
open PySem PySem.Spec PyProof.Rows L2
def chkB (scope : Scope) (env : Env) : Bool := scope.names.all fun y => (decide (y.2 ≠ .cell)) && (!decide (y.2 = .local) || decide (scope.names.lookup y.1 = some .local)) && (!decide (y.2 = .free) || decide (env.kindOf y.1 = some .cell) || decide (env.kindOf y.1 = some .free))
def chkS (N : List Str) (scope : Scope) (env : Env) : List Str → List (Option Nat) → Bool
  | [], [] => true
  | x :: xs, o :: os => (match o with | none => true | some j => decide (N[j]? = some x) && decide ((x, NameKind.free) ∈ scope.names) && (decide ((relabel scope env).names.lookup x = some .cell) || decide ((relabel scope env).names.lookup x = some .free))) && chkS N scope env xs os
  | _, _ => false
theorem chkB.ok {scope : Scope} {env : Env} (h : chkB scope env = true) : (∀ y ∈ scope.names, y.2 ≠ .cell) ∧ (∀ y ∈ scope.names, y.2 = .local → scope.names.lookup y.1 = some .local) ∧ ∀ x, (x, NameKind.free) ∈ scope.names → env.kindOf x = some .cell ∨ env.kindOf x = some .free := by
  unfold chkB at h
  rw [List.all_eq_true] at h
  have q : ∀ y ∈ scope.names, y.2 ≠ .cell ∧ (y.2 = .local → scope.names.lookup y.1 = some .local) ∧ (y.2 = .free → env.kindOf y.1 = some .cell ∨ env.kindOf y.1 = some .free) := fun y hy => by
    have := h y hy
    simp only [Bool.and_eq_true, Bool.or_eq_true, Bool.not_eq_true', decide_eq_true_eq, decide_eq_false_iff_not] at this
    obtain ⟨⟨a, b⟩, c⟩ := this
    refine ⟨a, fun e => b.resolve_left (fun n => n e), fun e => ?_⟩
    rcases c with (c | c) | c
    · exact absurd e c
    · exact .inl c
    · exact .inr c
  exact ⟨fun y hy => (q y hy).1, fun y hy => (q y hy).2.1, fun x hx => (q _ hx).2.2 rfl⟩
theorem chkS.ok {X : Cx} {scope : Scope} : ∀ {NC : List Str} {src : List (Option Nat)}, chkS X.N scope X.env NC src = true → srcChk X scope NC src
  | [], [], _ => ⟨rfl, fun i x j h => by simp at h⟩
  | [], _ :: _, h => by simp [chkS] at h
  | _ :: _, [], h => by simp [chkS] at h
  | y :: ys, o :: os, h => by
    simp only [chkS, Bool.and_eq_true] at h
    obtain ⟨h1, h2⟩ := h
    obtain ⟨q1, q2⟩ := chkS.ok h2
    refine ⟨by rw [List.length_cons, List.length_cons, q1], fun i x j e1 e2 => ?_⟩
    cases i with
    | zero =>
      simp at e1 e2
      subst e1 e2
      simp only [Bool.and_eq_true, Bool.or_eq_true, decide_eq_true_eq] at h1
      exact ⟨h1.1.1, h1.1.2, h1.2⟩
    | succ i => exact q2 i x j (by simpa using e1) (by simpa using e2)
section
variable {X : Cx} {tg iter elt : Expr} {ifs : List Expr} {scope : Scope} {fi : DI} {g : DG} {t : DT} {f : DE} {pos : Pos}
theorem le_lcB (NC : List Str) (src : List (Option Nat)) (hc : X.calm = true) (hi : PI X tg iter (LI X.K fi))
    (hg : ∀ cl C s2 H2 pins fp, PG (cyOf X scope cl C NC s2 H2 pins fp) tg (LG X.K g)) (ht : ∀ cl C s2 H2 pins fp, PF (cyOf X scope cl C NC s2 H2 pins fp) ifs (LT X.K t)) (he : ∀ cl C s2 H2 pins fp, PE (cyOf X scope cl C NC s2 H2 pins fp) elt (LE X.K f))
    (hkind : scope.kind = .function := by rfl) (hB : chkB scope X.env = true := by rfl) (hS : chkS X.N scope X.env NC src = true := by rfl)
    (hs : ∀ x, foldedSetIterable iter X.env x = pure x := by intro _; rfl) : PE X (.ListComp elt [⟨tg, iter, ifs, 0⟩] scope pos) (LE X.K (dLC src fi g t f)) :=
  le_lc (NC := NC) src hc hi hg ht he hkind (chkB.ok hB).1 (chkB.ok hB).2.1 (chkB.ok hB).2.2 (chkS.ok hS) hs
theorem ls_lcB (i : Nat) {y : Str} {py spos : Pos} (NC : List Str) (src : List (Option Nat)) (hc : X.calm = true) (hN : X.N.Nodup) (hi : PI X tg iter (LI X.K fi))
    (hg : ∀ cl C s2 H2 pins fp, PG (cyOf X scope cl C NC s2 H2 pins fp) tg (LG X.K g)) (ht : ∀ cl C s2 H2 pins fp, PF (cyOf X scope cl C NC s2 H2 pins fp) ifs (LT X.K t)) (he : ∀ cl C s2 H2 pins fp, PE (cyOf X scope cl C NC s2 H2 pins fp) elt (LE X.K f))
    (hkind : scope.kind = .function := by rfl) (hB : chkB scope X.env = true := by rfl) (hS : chkS X.N scope X.env NC src = true := by rfl)
    (hi2 : X.N[i]? = some y := by rfl) (hx : Loc X.env.scope y := by first | exact Or.inl rfl | exact Or.inr rfl) (hf : X.fn y = true ∨ X.env.scope.names.lookup y = some .local := by first | exact .inl rfl | exact .inr rfl)
    (hsw : swapsWith (.ListComp elt [⟨tg, iter, ifs, 0⟩] scope pos) (some (.Name y py)) spos.line X.env = pure true := by rfl)
    (hs : ∀ x, foldedSetIterable iter X.env x = pure x := by intro _; rfl) : PS X (.Assign [.Name y py] (.ListComp elt [⟨tg, iter, ifs, 0⟩] scope pos) spos) (LS X.K (dSet i (dLC src fi g t f))) :=
  ls_lc (NC := NC) i src hc hi hg ht he hkind (chkB.ok hB).1 (chkB.ok hB).2.1 (chkB.ok hB).2.2 (chkS.ok hS) hN hi2 hx hf hsw hs
end
end DL
set_option Elab.async false
set_option linter.all false
set_option maxRecDepth 100000
set_option maxHeartbeats 4000000
namespace DL
open PySem PySem.Spec PyProof.Rows L2
section
variable {prog : Program} {w : World} {A : Around} {R : Result → Shared → Prop} {s : Shared}
end
structure ExtW (K : PySem.W.Frag) (Z : Addr → Prop) (D : Addr) (m : Mu) (H : Hp) (m' : Mu) (H' : Hp) : Prop where
  t : ∀ a vs, SqT K H a vs → SqT K H' a vs
  l : ∀ a vs, (m a = none ∧ ¬ rsv Z D a) → SqL K H a vs → m' a = none ∧ SqL K H' a vs
  z : ∀ a, Z a → H' a = H a
  c : ∀ a, (m a).isSome = true → (m' a).isSome = true
  fz : ∀ a o u, H a = some (.frz o u) → H' a = some (.frz o u)
  fm : ∀ a, isF (m a) = true → m' a = m a
section
variable {K : PySem.W.Frag} {Z : Addr → Prop} {m m1 m' m2 : Mu} {H H1 H' H2 : Hp} {D : Addr} {ys zs : List V}
theorem ExtW.refl : ExtW K Z D m H m H := ⟨fun _ _ h => h, fun _ _ h1 h2 => ⟨h1.1, h2⟩, fun _ _ => rfl, fun _ h => h, fun _ _ _ h => h, fun _ _ => rfl⟩
theorem ExtW.y (e : ExtW K Z D m H m' H') : ExtY K (rsv Z D) m H m' H' := ⟨e.t, e.l, e.fz⟩
theorem ExtW.trans (a : ExtW K Z D m H m' H') (b : ExtW K Z D m' H' m2 H2) : ExtW K Z D m H m2 H2 :=
  ⟨fun x vs h => b.t x vs (a.t x vs h), fun x vs h1 h2 => let ⟨q1, q2⟩ := a.l x vs h1 h2; b.l x vs ⟨q1, h1.2⟩ q2, fun x h => (b.z x h).trans (a.z x h), fun x h => b.c x (a.c x h), fun x o u h => b.fz x o u (a.fz x o u h), fun x h => by
    have q := a.fm x h
    rw [b.fm x (by rw [q]; exact h), q]⟩
theorem Ext.w (e : Ext K (rsv Z D) m H m' H') : ExtW K Z D m H m' H' := ⟨e.t, e.l, fun a h => e.z a (.inl h), e.c, e.fz, e.fm⟩
theorem ExtW.put (hz : ¬ Z D) (hD : H D = some (.lst ys)) : ExtW K Z D m H m (upd H D (.lst zs)) :=
  ⟨tr_put_t hD, fun a vs h1 h2 => ⟨h1.1, sql_put (fun e => h1.2 (.inr e)) h2⟩, fun a h => by
    have ne : a ≠ D := by rintro rfl; exact hz h
    rw [upd_ne ne], fun _ h => h, fun a o u h => by
    rw [upd_ne (by rintro rfl; rw [hD] at h; cases h)]
    exact h, fun _ _ => rfl⟩
theorem ExtW.rd {x : DL.D} {v : V} (e : ExtW K Z D m H m' H') (h : RD K (rsv Z D) m H x v) : RD K (rsv Z D) m' H' x v := by
  cases x with
  | dat p => exact RP.tr e.t (fun a vs h1 h2 => let ⟨q1, q2⟩ := e.l a vs h1 h2; ⟨⟨q1, h1.2⟩, q2⟩) p v h
  | cel a => exact ⟨h.1, e.c a h.2⟩
end
section
variable {Y : Cx} {tg iter tg2 iter2 elt : Expr} {ifs ifs2 : List Expr} {scope : Scope} {fi2 : DI} {g2 : DG} {t2 : DT} {f : DE} {pos : Pos}
end
end DL
set_option Elab.async false
set_option linter.all false
set_option maxRecDepth 100000
set_option maxHeartbeats 4000000
namespace DL
open PySem PySem.Spec PyProof.Rows L2
section
variable {X : Cx} {tg iter tg2 iter2 elt : Expr} {ifs ifs2 : List Expr} {scope : Scope} {NC : List Str} {fi fi2 : DI} {g g2 : DG} {t t2 : DT} {f : DE} {pos : Pos}
end
end DL
set_option Elab.async false
set_option linter.all false
set_option maxRecDepth 100000
set_option maxHeartbeats 4000000
namespace DL
open PySem PySem.Spec PyProof.Rows L2
section
variable {prog : Program} {w : World} {A : Around} {E : Value → Shared → Prop} {s : Shared}
end
end DL
set_option Elab.async false
set_option linter.all false
set_option maxRecDepth 100000
set_option maxHeartbeats 4000000
namespace DL
open PySem PySem.Spec PyProof.Rows L2
section
variable {X : Cx} {pins : List (Addr × Obj)} {σ : L2.St} {H : Hp} {s : Shared} {h' : Heap}
end
section
variable {prog : Program} {w : World} {A : Around} {E : Value → Shared → Prop} {s : Shared}
end
section
variable {X : Cx} {a b : Expr} {elts : List Expr} {j : Nat} {f g : DE} {pos p p2 : Pos}
end
end DL
set_option Elab.async false
set_option linter.all false
set_option maxRecDepth 100000
set_option maxHeartbeats 4000000
namespace DL
open PySem PySem.Spec PyProof.Rows L2
section
variable {X : Cx} {a e o : Expr} {es : List Expr} {f g : DE} {ga : DA} {pos p p1 p2 : Pos}
theorem strs_vals : ∀ {zs : List Str} {us : List Value}, Vals (zs.map V.str) us → StrsAre us zs
  | [], _, .nil => .nil
  | z :: zs, _, .cons ⟨t, e⟩ r => by
    rw [e]
    exact .cons z t (strs_vals r)
theorem vals_strs : ∀ {zs : List Str} {us : List Value}, StrsAre us zs → Vals (zs.map V.str) us
  | _, _, .nil => .nil
  | _, _, .cons z t r => .cons ⟨t, rfl⟩ (vals_strs r)
theorem boot_sorted_ : bootBuiltins "sorted" = some (.builtin "sorted") := by decide +kernel
@[simp] def bSorted : DC
  | [.dat (.list ps)], m, Q => ∃ zs : List Str, ps = zs.map .str ∧ zs.length < 64 ∧ ∀ ys : List Str, ys.Perm zs → PyProof.Rows.sortedS ys = true → Q (.dat (.list (ys.map .str))) m
  | _, _, _ => False
theorem cd_sorted : CallD X (.builtin "sorted") bSorted := by
  intro pins s σ H Z m xs ds us R Q I ok rv rd h k
  unfold bSorted at h
  split at h
  · obtain ⟨v, rfl, r1⟩ := rd.one
    obtain ⟨zs, rfl, hl, hh⟩ := h
    simp only [RD, RP] at r1
    obtain ⟨a, vs, rfl, _, h1, h2⟩ := r1
    cases rps_strs h2
    obtain ⟨u, rfl, ru⟩ := vals1 rv
    cases ru
    obtain ⟨its, r', pl, hz⟩ := I.list h1
    have hlen := r'.length
    rw [List.length_map] at hlen
    refine sorted_strs pl.isList (strs_vals r') (by omega) fun out ys hS hp hs => ?_
    obtain ⟨e', he⟩ := sortedAll_at s.heap its out
    have hv := vals_strs hS
    have hvl := hv.length
    have hpl := hp.length_eq
    rw [List.length_map] at hvl
    have hle : s.heap.objs.size ≤ s.heap.objs.size + 1 := Nat.le_succ _
    have I2 := I.laid (t' := s.toks) (a := s.heap.objs.size + 1) (o := .lst (ys.map V.str)) (fun b u q => sortedAll_old (out := out) (vs := its) q) hle ⟨by rw [List.length_map]; have := line63; rw [sizeLine_eq]; omega, out.toList, e', hv, he⟩
    have hf : H (s.heap.objs.size + 1) = none := I.hok.fresh hle
    have sm : Same H (upd H (s.heap.objs.size + 1) (.lst (ys.map V.str))) := same_new hf
    refine ⟨.ref _, _, I2, rfl, k _ m _ _ (hh ys hp hs) (ok.ext sm) (ok.grow sm) ?_⟩
    simp only [RD, RP]
    exact ⟨_, _, rfl, ok_none ok hf, .inl (.inl upd_same), strs_rps ys⟩
  · exact h.elim
def rJoin (K : PySem.W.Frag) : V → List V → Hp → VK → Prop := fun x xs H Q => ∃ (z : Str) (a : Addr) (zs : List Str), x = .str z ∧ xs = [.ref a] ∧ SqL K H a (zs.map V.str) ∧ z.length ≤ 16 ∧ (zs.map (·.length)).sum + zs.length ≤ 1048576 ∧ Q (.str (Txt.join z zs)) H
theorem mt_join : MtR X "str.join" (rJoin X.K) := by
  intro pins s σ H x xs v us Q I rx rs ⟨z, a, zs, e1, e2, hq, h1, h2, q⟩
  subst e1 e2
  obtain ⟨t, rfl⟩ := rx
  obtain ⟨u, rfl, ru⟩ := vals1 rs
  cases ru
  obtain ⟨its, r', pl, hz⟩ := I.list hq
  exact join_listW pl.isList (strs_vals r') h1 h2 fun t' k => ⟨.str _, H, I.tok _, ⟨_, rfl⟩, q⟩
@[simp] def dJoin (z : Str) (g : DE) : DE := fun d m Q => g d m fun y m1 => ∃ zs : List Str, y = .dat (.list (zs.map .str)) ∧ z.length ≤ 16 ∧ (zs.map (·.length)).sum + zs.length ≤ 1048576 ∧ Q (.dat (.str (Txt.join z zs))) m1
theorem le_join {z : Str} {jc : Nat} {apos cpos : Pos} (he : PE X e (LE X.K g))
    (hbase : attributeBase (.Constant (.str z) jc p) "join" X.env (eval (.Constant (.str z) jc p) X.env) = eval (.Constant (.str z) jc p) X.env := by rfl)
    (hfew : ((backTo cpos (starEach [e] X.env)).all (fun x => !x.1) && (backToKw cpos (keywordEach [] X.env)).all (fun x => x.1.isSome) && decide ([e].length + ([] : List Keyword).length + (if ([] : List Keyword).isEmpty then 0 else 1) < 30)) = true := by rfl)
    (hline : (apos.endLine == cpos.line) = true := by rfl) (hs : starEach [e] X.env = (false, eval e X.env) :: starEach [] X.env := by rfl) : PE X (.Call (.Attribute (.Constant (.str z) jc p) "join" apos) [e] [] cpos) (LE X.K (dJoin z g)) :=
  PE.imp (pe_bm (T := "str") (id := "str.join") (name := "join") PySem.F.plainAttrs_str PySem.F.slot_str_join PySem.F.type_str_join mt_join pe_str (pa_cons he pa_nil hs) hbase hfew hline hs rfl) fun s H Q h => by
    obtain ⟨Z, d, m, R, ok, rs, h, k⟩ := h
    refine ⟨rfl, ?_⟩
    refine ⟨Z, d, m, _, ok, rs, h, fun y m1 v H1 ⟨zs, ey, h1, h2, q⟩ e1 ok1 rd => ?_⟩
    subst ey
    simp only [RD, RP] at rd
    obtain ⟨a, vs, rfl, _, hq, hr⟩ := rd
    cases rps_strs hr
    exact ⟨z, a, zs, rfl, rfl, hq, h1, h2, k _ m1 _ H1 q e1 ok1 .ofStr⟩
theorem boot_all_ : bootBuiltins "all" = some (.builtin "all") := by decide +kernel
@[simp] def bAll : DC
  | [.dat (.list ps)], m, Q => ∃ bs : List Bool, ps = bs.map .bool ∧ Q (.dat (.bool (bs.all id))) m
  | _, _, _ => False
theorem rps_bools {K : PySem.W.Frag} {Z : Addr → Prop} {m : Mu} {H : Hp} : ∀ {bs : List Bool} {vs : List V}, RPs K Z m H (bs.map PyData.bool) vs → vs = bs.map V.bl
  | [], vs, h => by simpa [RPs] using h
  | z :: zs, vs, h => by
    simp only [List.map_cons, RPs] at h
    obtain ⟨v, r, rfl, h1, h2⟩ := h
    simp only [RP] at h1
    subst h1
    rw [rps_bools h2]
    rfl
theorem vals_bools : ∀ {bs : List Bool} {us : List Value}, Vals (bs.map V.bl) us → us = bs.map Value.bool
  | [], _, .nil => rfl
  | b :: bs, _, .cons r t => by
    cases r
    rw [vals_bools t]
    rfl
theorem all_range (bs : List Bool) : (List.range bs.length).all (fun i => (bs[i]?).getD true) = bs.all id := by
  rw [Bool.eq_iff_iff, List.all_eq_true, List.all_eq_true]
  constructor
  · intro h b hb
    obtain ⟨i, hi, rfl⟩ := List.mem_iff_getElem.mp hb
    have := h i (List.mem_range.mpr hi)
    simpa [List.getElem?_eq_getElem hi] using this
  · intro h i hi
    have hi' := List.mem_range.mp hi
    rw [List.getElem?_eq_getElem hi']
    exact h _ (List.getElem_mem hi')
theorem cd_all (hc : X.calm = true) : CallD X (.builtin "all") bAll := by
  intro pins s σ H Z m xs ds us R Q I ok rv rd h k
  unfold bAll at h
  split at h
  · obtain ⟨v, rfl, r1⟩ := rd.one
    obtain ⟨bs, rfl, hh⟩ := h
    simp only [RD, RP] at r1
    obtain ⟨a, vs, rfl, _, h1, h2⟩ := r1
    cases rps_bools h2
    obtain ⟨u, rfl, ru⟩ := vals1 rv
    cases ru
    obtain ⟨its, r', pl, hz⟩ := I.list h1
    cases vals_bools r'
    have ne : a ≠ s.heap.objs.size := by
      obtain ⟨o, ho, _⟩ := pl.isList
      exact Nat.ne_of_lt (Heap.lt_size ho)
    refine call_all_walk (wpAny_pyIter_list pl.isList ?_)
    refine ⟨s.heap.objs.size, _, _, _, _, _, fun i => (bs[i]?).getD true, rfl, Walks.list (A := X.A.in1) (show X.A.in1.handled = none from I.ok.hd hc) s.heap.objs.size a ne (bs.map Value.bool).toArray, ⟨⟨_, Heap.get?_push_size _ rfl, rfl, rfl⟩, pl.isList.at fun o e => Heap.get?_push_of_some _ e⟩, ?_, ?_⟩
    · intro i v s' Q' E' hv hQ
      have hv' : (bs.map Value.bool)[i]? = some v := by simpa using hv
      rw [List.getElem?_map] at hv'
      cases eb : bs[i]? with
      | none => rw [eb] at hv'; cases hv'
      | some b =>
        have hQ' : Q' ((bs[i]?).getD true) s' := hQ
        rw [eb] at hv' hQ'
        cases hv'
        exact wpAny_truthy_bool hQ'
    · intro h' tk kp
      have e : ((bs.map Value.bool).toArray.size) = bs.length := by simp
      rw [e, all_range]
      refine ⟨.bl _, H, I.kept fun b o q => kp b o ?_ (Heap.get?_push_of_some _ q), rfl, k _ m _ H hh Ext.refl ok .ofBl⟩
      intro hb
      have : b = s.heap.objs.size := by simpa using hb
      exact absurd (Heap.lt_size q) (by rw [this]; exact Nat.lt_irrefl _)
  · exact h.elim
theorem fm_len {α β : Type} (f : α → Option β) : ∀ xs : List α, (xs.filterMap f).length ≤ xs.length
  | [] => Nat.le_refl _
  | x :: xs => by
    rw [List.filterMap_cons]
    have := fm_len f xs
    cases f x with
    | none => exact Nat.le_succ_of_le this
    | some y => exact Nat.succ_le_succ this
end
end DL
set_option Elab.async false
set_option linter.all false
set_option maxRecDepth 100000
set_option maxHeartbeats 4000000
namespace DL
open PySem PySem.Spec PyProof.Rows L2
def valP {κ : Type} [DecidableEq κ] (kvs : List (κ × PyData)) (k : κ) : Option PyData := (kvs.find? fun kv => decide (kv.1 = k)).map (·.2)
def putP {κ : Type} [DecidableEq κ] (kvs : List (κ × PyData)) (k : κ) (p : PyData) : List (κ × PyData) :=
  if (kvs.any fun kv => decide (kv.1 = k)) = true then kvs.map (fun kv => if kv.1 = k then (kv.1, p) else kv) else kvs ++ [(k, p)]
section
variable {κ : Type} [DecidableEq κ] {K : PySem.W.Frag} {Z : Addr → Prop} {m : Mu} {H : Hp}
theorem RKV.length : ∀ {kvs : List (κ × PyData)} {vs : List (κ × V)}, RKV K Z m H kvs vs → vs.length = kvs.length
  | [], _, h => by cases (show _ = [] from h); rfl
  | _ :: _, _, ⟨v, r, h1, _, h3⟩ => by subst h1; rw [List.length_cons, List.length_cons, RKV.length h3]
theorem RKV.val {k : κ} {p : PyData} : ∀ {kvs : List (κ × PyData)} {vs : List (κ × V)}, RKV K Z m H kvs vs → valP kvs k = some p → ∃ v, valV vs k = some v ∧ RP K Z m H p v
  | [], _, _, e => by simp [valP] at e
  | (j, q) :: xs, _, ⟨v, r, h1, h2, h3⟩, e => by
    subst h1
    unfold valP at e
    unfold valV
    by_cases c : j = k
    · simp [List.find?_cons, c] at e ⊢
      exact e ▸ h2
    · simp [List.find?_cons, c] at e ⊢
      have := RKV.val (k := k) (p := p) h3 (by unfold valP; simpa using e)
      unfold valV at this
      simpa using this
theorem RKV.any {k : κ} : ∀ {kvs : List (κ × PyData)} {vs : List (κ × V)}, RKV K Z m H kvs vs → (vs.any fun kv => decide (kv.1 = k)) = (kvs.any fun kv => decide (kv.1 = k))
  | [], _, h => by cases (show _ = [] from h); rfl
  | _ :: _, _, ⟨v, r, h1, _, h3⟩ => by subst h1; rw [List.any_cons, List.any_cons, RKV.any h3]
theorem RKV.repl {k : κ} {p : PyData} {v : V} (hp : RP K Z m H p v) : ∀ {kvs : List (κ × PyData)} {vs : List (κ × V)}, RKV K Z m H kvs vs → RKV K Z m H (kvs.map fun kv => if kv.1 = k then (kv.1, p) else kv) (vs.map fun kv => if kv.1 = k then (kv.1, v) else kv)
  | [], _, h => by cases (show _ = [] from h); exact (rfl : ([] : List (κ × V)) = [])
  | (j, q) :: xs, _, ⟨w, r, h1, h2, h3⟩ => by
    subst h1
    rw [List.map_cons, List.map_cons]
    by_cases c : j = k
    · rw [if_pos c, if_pos c]
      exact ⟨v, _, rfl, hp, RKV.repl hp h3⟩
    · rw [if_neg c, if_neg c]
      exact ⟨w, _, rfl, h2, RKV.repl hp h3⟩
theorem RKV.snoc {k : κ} {p : PyData} {v : V} (hp : RP K Z m H p v) : ∀ {kvs : List (κ × PyData)} {vs : List (κ × V)}, RKV K Z m H kvs vs → RKV K Z m H (kvs ++ [(k, p)]) (vs ++ [(k, v)])
  | [], _, h => by cases (show _ = [] from h); exact ⟨v, [], rfl, hp, rfl⟩
  | _ :: _, _, ⟨w, r, h1, h2, h3⟩ => by subst h1; exact ⟨w, _, rfl, h2, RKV.snoc hp h3⟩
theorem RKV.put {k : κ} {p : PyData} {v : V} {kvs : List (κ × PyData)} {vs : List (κ × V)} (h : RKV K Z m H kvs vs) (hp : RP K Z m H p v) : RKV K Z m H (putP kvs k p) (putK vs k v) := by
  unfold putP putK
  rw [h.any]
  split
  · exact h.repl hp
  · exact h.snoc hp
end
@[simp] def keyD : D → Option Key
  | .dat (.str z) => some (.inr z)
  | .dat (.int i) => some (.inl i)
  | _ => none
theorem RD.key {K : PySem.W.Frag} {Z : Addr → Prop} {m : Mu} {H : Hp} {x : D} {v : V} {k : Key} (h : RD K Z m H x v) (e : keyD x = some k) : v = kV k := by
  unfold keyD at e
  split at e
  · cases e; cases h.str; rfl
  · cases e; cases h.int; rfl
  · cases e
section
variable {X : Cx} {o i e : Expr} {fo fi f : DE} {pos tpos : Pos}
@[simp] def dDGet (fo fi : DE) : DE := fun d m Q => fo d m fun o m1 => fi d m1 fun y m2 => ∃ c k kvs p, o = .cel c ∧ keyD y = some k ∧ m2 c = some (.d kvs) ∧ valP kvs k = some p ∧ Q (.dat p) m2
theorem le_dget (hu : X.A.units + 100 < cLine) (ho : PE X o (LE X.K fo)) (hi : PE X i (LE X.K fi)) (hs : NoSl i := by exact fun _ _ => rfl) : PE X (.Subscript o i pos) (LE X.K (dDGet fo fi)) :=
  PE.imp (pe_dget (by omega) ho hi hs) fun s H Q h => by
    obtain ⟨Z, d, m, R, ok, rs, h, k⟩ := h
    refine ⟨Z, d, m, _, ok, rs, h, fun o m1 v H1 q e1 ok1 r1 => ⟨Z, d, m1, _, ok1, rs.ext e1, q, fun y m2 w H2 q2 e2 ok2 r2 => ?_⟩⟩
    obtain ⟨c, ky, kvs, p, rfl, hk, hm, hv, q⟩ := q2
    cases r2.key hk
    obtain ⟨rfl, _⟩ := r1.ext e2
    obtain ⟨vs, g1, g2⟩ := ok2.d hm
    obtain ⟨v, hv', rv⟩ := g2.val hv
    exact ⟨c, v, rfl, .inl ⟨vs, ky, .inl g1, rfl, hv'.symm⟩, k _ m2 _ H2 q (e1.trans e2) ok2 rv⟩
end
end DL
set_option Elab.async false
set_option linter.all false
set_option maxRecDepth 100000
set_option maxHeartbeats 4000000
namespace DL
open PySem PySem.Spec PyProof.Rows L2
open AutoSeq1 (wpAny_loadPart')
section
variable {prog : Program} {w : World} {A : Around} {E : Value → Shared → Prop} {s : Shared}
end
section
variable {X : Cx} {e : Expr} {f : DE} {pos p p2 pos2 : Pos}
end
end DL
set_option Elab.async false
set_option linter.all false
set_option maxRecDepth 100000
set_option maxHeartbeats 4000000
namespace DL
open PySem PySem.Spec PyProof.Rows L2
def KEnt (w : World) : List DictEntry → List (Str × V) → Prop
  | [], [] => True
  | e :: es, (z, v) :: kvs => e.hash = PyData.keyHash w.params z ∧ (∃ t, e.key = .str z t) ∧ RelV v e.val ∧ KEnt w es kvs
  | _, _ => False
def inrs {α : Type} (kvs : List (Str × α)) : List (Key × α) := kvs.map fun kv => (.inr kv.1, kv.2)
theorem KEnt.out {P : Program} {w : World} : ∀ {es : List DictEntry} {kvs : List (Str × V)}, KEnt w es kvs → ∃ vs : List (Str × Value), KV (inrs kvs) (inrs vs) ∧ Pairs (mixKind P w) es (inrs vs) ∧ (∀ e ∈ es, ∃ k, (mixKind P w).is k e.key = true ∧ e.hash = (mixKind P w).hash k) ∧ vs.map (·.1) = kvs.map (·.1)
  | [], [], _ => ⟨[], .nil, .nil, by simp, rfl⟩
  | e :: es, (z, v) :: kvs, ⟨h1, ⟨t, h2⟩, h3, h4⟩ => by
    obtain ⟨vs, q1, q2, q3, q4⟩ := KEnt.out (P := P) h4
    have hk : (mixKind P w).is (.inr z) e.key = true := by
      rw [h2]
      exact decide_eq_true (rfl : z = z)
    refine ⟨(z, e.val) :: vs, .cons ⟨rfl, h3⟩ q1, .cons hk rfl q2, fun x hx => ?_, by simp [q4]⟩
    rcases List.mem_cons.mp hx with rfl | hx
    · exact ⟨_, hk, h1⟩
    · exact q3 x hx
  | [], _ :: _, h => h.elim
  | _ :: _, [], h => h.elim
section
variable {X : Cx} {i e g : Expr} {fi f fg : DE} {p pos apos cpos : Pos}
end
end DL
set_option Elab.async false
set_option linter.all false
set_option maxRecDepth 100000
set_option maxHeartbeats 4000000
namespace DL
open PySem PySem.Spec PyProof.Rows L2
section
variable {X : Cx} {e g : Expr} {f fg : DE} {tg : Expr} {pos : Pos}
@[simp] def aInD : D2
  | .dat p, .dat (.list ys), m, Q => PyData.canLayAll0 ys = true ∧ p.canLay0 = true ∧ p.depth ≤ 50 ∧ Q (.dat (.bool (ys.any fun y => y.eqv p))) m
  | .dat p, .dat (.tuple ys), m, Q => PyData.canLayAll0 ys = true ∧ p.canLay0 = true ∧ p.depth ≤ 50 ∧ Q (.dat (.bool (ys.any fun y => y.eqv p))) m
  | _, _, _, _ => False
theorem od_inD (hu : X.A.units + 100 < cLine) : OpD X (compareOp .In) aInD := by
  intro pins s σ H Z m x y dx dy v u R Q I ok rx ry r1 r2 h k
  unfold aInD at h
  split at h
  · rename_i p ys
    obtain ⟨h1, h2, h3, h4⟩ := h
    obtain ⟨as, ra⟩ := RP.reads I p x v r1 rx
    obtain ⟨bs, rb⟩ := RP.reads I _ y u r2 ry
    exact SeqAt.in_list_reads rb ra h1 h2 (by omega) ⟨.bl _, H, I, rfl, k _ m _ H h4 Ext.refl ok .ofBl⟩
  · rename_i p ys
    obtain ⟨h1, h2, h3, h4⟩ := h
    obtain ⟨as, ra⟩ := RP.reads I p x v r1 rx
    obtain ⟨bs, rb⟩ := RP.reads I _ y u r2 ry
    exact SeqAt.in_tuple_reads rb ra h1 h2 (by omega) ⟨.bl _, H, I, rfl, k _ m _ H h4 Ext.refl ok .ofBl⟩
  · exact h.elim
end
end DL
set_option Elab.async false
set_option linter.all false
set_option maxRecDepth 100000
set_option maxHeartbeats 4000000
namespace DL
open PySem PySem.Spec PyProof.Rows L2
theorem lk_keys : typeLookup (.type "tuple") "keys" = pure none := by rw [typeLookup_type, builtinLookup_eq_fast]; kernel_rfl
theorem dl_plain : plainId "dict.update.loop" = true := by decide +kernel
theorem dl_entry : entryFor table "dict.update.loop" = some Builtin.«dict.update.loop» := entryFor_of_fast (by kernel_rfl)
section
variable {prog : Program} {w : World} {A : Around} {E : Value → Shared → Prop} {s : Shared}
theorem keys_miss {a : Addr} {o : Obj} {xs : Array Value} {k : Nat} {Q : Option Value → Shared → Prop}
    (hx : s.heap.get? a = some o) (hc : o.cls = .type "tuple") (hdat : o.data = .seq xs k) (hd : o.dict = none) (hA : A.handled = none)
    (h : ∀ h' tk, (∀ b ob, s.heap.get? b = some ob → h'.get? b = some ob) → Q none { s with heap := h', toks := tk }) :
    wpAny (model prog w) A (getAttr? (.ref a) "keys") Q E s := by
  obtain ⟨c, dct, dat, sl⟩ := o
  simp only at hc hdat hd
  subst hc hdat hd
  obtain ⟨hp, g, d, tk, os⟩ := s
  have hT : ∀ tk', (⟨hp, g, d, tk', os⟩ : Shared).TypeIs (.ref a) "tuple" := fun _ => ⟨_, hx, rfl⟩
  have f1 := sub_AttributeError
  have f3 := F.slot_tuple_getattribute.lookup
  have f4 := F.slot_tuple_getattribute.bind (.ref a)
  have f5 := am_tuple_getattr_none
  have hsz : (Str.ofString "keys").length + 100 ≤ sizeLine := by rw [sizeLine_eq]; decide
  have hname : (["__module__", "__name__", "__qualname__", "__doc__", "__annotations__"] : List Str).contains (Str.ofString "keys") = false := by decide
  unfold getAttr? getAttrBy? getAttrBy
  repeat (any_goals (first | assumption | exact hT _ | ((with_reducible show wpAny _ _ (call (Value.builtin "tuple.__getattribute__") _ _) _ _ _); refine call_meets F.slot_tuple_getattribute (hT _) am_entry_tuple_getattribute (F.args_tuple_getattribute_2 _ _) (meets_getattribute_miss_tuple a xs k sl (Str.ofString "keys") _ lk_keys hname hsz) ⟨hx, hA, fun h' tk' e hx' => ?_⟩) | wp_step))
  obtain ⟨t', u', he⟩ := hx'.there
  show wpAny _ _ (getattributeRaised _ _ _ _ _ _ _) _ _ _
  unfold getattributeRaised
  repeat (any_goals (first | assumption | wp_step))
  exact h h' tk' hx'.keeps
end
section
variable {prog : Program} {w : World} {κ : Type} [DecidableEq κ] {knd : KeyKind prog w κ} {A : Around} {E : Value → Shared → Prop} {s : Shared}
def PairsAt (knd : KeyKind prog w κ) (h : Heap) : List Value → List (κ × Value) → Prop
  | [], [] => True
  | x :: xs, (k, v) :: r => (∃ b key, x = .ref b ∧ h.IsTuple b #[key, v] ∧ knd.is k key = true) ∧ PairsAt knd h xs r
  | _, _ => False
def putAll (acc : List (κ × Value)) (r : List (κ × Value)) : List (κ × Value) := r.foldl (fun acc kv => stored acc kv.1 kv.2) acc
theorem stored_len (acc : List (κ × Value)) (k : κ) (v : Value) : (stored acc k v).length ≤ acc.length + 1 := by
  unfold stored
  split
  · simp
  · simp
theorem dict_loop {R : Result → Shared → Prop} {hb : Heap} {d it tq : Addr} {items : Array Value} (hh : A.handled = none) (hd : hb.get? d = none) (hi : hb.get? it = none) (hne : d ≠ it) (ht : hb.IsTuple tq items) :
    ∀ (rest : List (κ × Value)) (i : Nat) (s : Shared) (acc : List (κ × Value)) (tk0 : Tok), (∀ b o, hb.get? b = some o → s.heap.get? b = some o) → s.heap.IsTupleIter it tq i → s.heap.DictOf knd d acc → PairsAt knd hb (items.toList.drop i) rest → acc.length + rest.length ≤ sizeLine →
    (∀ h' tk, (∀ b o, hb.get? b = some o → h'.get? b = some o) → h'.DictOf knd d (putAll acc rest) → R (.ok (.ret .none)) { s with heap := h', toks := tk }) →
    codeAny (model prog w) A (.builtin "dict.update.loop" ⟨[.ref d, .ref it, .int i tk0, .none], []⟩) R s
  | [], i, s, acc, tk0, keeps, hit, hdo, hp, hsz, hR => by
    have hx : items[i]? = none := by
      cases e : items.toList.drop i with
      | nil =>
        have := List.drop_eq_nil_iff.mp e
        rw [Array.getElem?_eq_none_iff]
        simpa using this
      | cons x xs => rw [e] at hp; exact hp.elim
    have ht' : s.heap.IsTuple tq items := by
      obtain ⟨o, ho, r⟩ := ht
      exact ⟨o, keeps _ _ ho, r⟩
    refine codeAny_builtin dl_entry ?_
    rw [Around.under_plainId dl_plain _]
    show wpAny _ A.in1 (pyNext (.ref it) >>= _) _ _ s
    refine wpAny_bind (wpAny_pyNext_tuple_end hh hit ht' hx fun h' hs => ?_)
    show wpAny _ A.in1 (Builtin.Dict.addKeywords d [] >>= _) _ _ _
    refine wpAny_bind (wpAny_pure (wpAny_pure ?_))
    refine hR h' s.toks (fun b o e => hs b o (fun q => by rw [q, hi] at e; cases e) (keeps b o e)) (hdo.extBut hs hne)
  | (k, v) :: rest, i, s, acc, tk0, keeps, hit, hdo, hp, hsz, hR => by
    cases e : items.toList.drop i with
    | nil => rw [e] at hp; exact hp.elim
    | cons x xs =>
      rw [e] at hp
      obtain ⟨⟨b, key, rfl, hb2, hk⟩, hp2⟩ := hp
      have hx : items[i]? = some (.ref b) := by
        have := congrArg List.head? e
        rw [List.head?_drop] at this
        simpa using this
      have e2 : items.toList.drop (i + 1) = xs := by
        have := congrArg List.tail e
        rw [List.tail_drop] at this
        simpa using this
      have ht' : s.heap.IsTuple tq items := by
        obtain ⟨o, ho, r⟩ := ht
        exact ⟨o, keeps _ _ ho, r⟩
      refine codeAny_builtin dl_entry ?_
      rw [Around.under_plainId dl_plain _]
      show wpAny _ A.in1 (pyNext (.ref it) >>= _) _ _ s
      refine wpAny_bind (wpAny_pyNext_tuple_item hit ht' hx fun h1 hit1 hs1 => ?_)
      have k1 : ∀ b o, hb.get? b = some o → h1.get? b = some o := fun b o e => hs1.extBut b o (fun q => by rw [q, hi] at e; cases e) (keeps b o e)
      have ht1 : ({ s with heap := h1 } : Shared).heap.IsTuple b #[key, v] := by
        obtain ⟨o, ho, r⟩ := hb2
        exact ⟨o, k1 _ _ ho, r⟩
      have hdo1 : ({ s with heap := h1 } : Shared).heap.DictOf knd d acc := hdo.sameBut hs1 hne
      obtain ⟨o, ho, hoc, no, hod⟩ := id ht1
      refine wpAny_bind (wpAny_holding (wpAny_bind (wpAny_tryCatch ?_)))
      unfold Builtin.Dict.pairItems
      refine wpAny_bind (wpAny_typeOf ht1.typeIs ?_)
      rw [if_pos (by decide)]
      refine wpAny_bind (wpAny_seqItems ho hod (wpAny_pure ?_))
      show wpAny _ A.in1 (holding [key, v] (dictSet d key v)) _ _ _
      refine wpAny_holding (wpAny_dictSet_pairs (hsz := by simp at hsz; omega) hk hdo1 fun h2 hdo2 hs2 => ?_)
      refine wpAny_pure ⟨plainId_quiet dl_plain _, ?_⟩
      have ih := dict_loop (R := R) hh hd hi hne ht rest (i + 1) { s with heap := h2, toks := s.toks + 1 } (stored acc k v) 0
        (fun b o e => hs2.extBut b o (fun q => by rw [q, hd] at e; cases e) (k1 b o e)) (hit1.extBut hs2.extBut (Ne.symm hne)) hdo2 (by rw [e2]; exact hp2)
        (by have := stored_len acc k v; simp at hsz; omega) (fun h' tk q1 q2 => hR h' tk q1 q2)
      exact ih
theorem call_dict_pairs {Q : Value → Shared → Prop} {tq : Addr} {o : Obj} {items : Array Value} {n : Nat} {kvs : List (κ × Value)} (hh : A.handled = none) (ho : s.heap.get? tq = some o) (hc : o.cls = .type "tuple") (hdn : o.dict = none) (hdat : o.data = .seq items n)
    (hp : PairsAt knd s.heap items.toList kvs) (hsz : kvs.length ≤ sizeLine)
    (hQ : ∀ h' tk, (∀ b o, s.heap.get? b = some o → h'.get? b = some o) → h'.DictOf knd s.heap.objs.size (putAll [] kvs) → Q (.ref s.heap.objs.size) { s with heap := h', toks := tk }) :
    wpAny (model prog w) A (call (.type "dict") [.ref tq]) Q E s := by
  refine callType_codes (Q₁ := fun obj s₁ => obj = .ref s.heap.objs.size ∧ s₁ = { s with heap := s.heap.push { cls := .type "dict", data := .dict #[] } }) F.kt_called_dict (F.kt_typeCall_dict_1 _) F.entry_dict_init (kt_code_dict_new _ ⟨rfl, rfl⟩) ?_
  rintro obj s₁ ⟨rfl, rfl⟩
  have hnew : (s.heap.push { cls := .type "dict", data := .dict #[] }).DictOf knd s.heap.objs.size [] := Heap.DictOf.new s.heap
  refine ⟨hnew.typeIs, F.args_dict_init_2 _ _, ?_⟩
  unfold Builtin.«dict.__init__»
  refine wpAny_bind ?_
  unfold Builtin.Dict.selfAndRest
  refine wpAny_bind (wpAny_notOrdered_dict hnew.typeIs ?_)
  show wpAny _ _ (pure (s.heap.objs.size, [Value.ref tq])) _ _ _
  refine wpAny_pure ?_
  show wpAny _ _ (Builtin.Dict.updateFrom "dict.__init__" s.heap.objs.size (.ref tq) [] .none) _ _ _
  unfold Builtin.Dict.updateFrom
  have ho1 : (s.heap.push { cls := .type "dict", data := .dict #[] }).get? tq = some o := Heap.get?_push_of_some _ ho
  refine wpAny_bind (wpAny_typeOf (T := "tuple") ⟨_, ho1, hc⟩ ?_)
  rw [if_pos (by decide)]
  refine wpAny_bind (keys_miss ho1 hc hdat hdn hh fun h1 tk1 k1 => ?_)
  rw [if_pos (show (none : Option Value).isNone = true from rfl)]
  have g0 : s.heap.get? s.heap.objs.size = none := by
    cases e : s.heap.get? s.heap.objs.size with
    | none => rfl
    | some ob => exact absurd (Heap.lt_size e) (Nat.lt_irrefl _)
  have g1 : s.heap.get? h1.objs.size = none := by
    cases e : s.heap.get? h1.objs.size with
    | none => rfl
    | some ob => exact absurd (Heap.lt_size (k1 _ _ (Heap.get?_push_of_some _ e))) (Nat.lt_irrefl _)
  have hd1 : h1.DictOf knd s.heap.objs.size [] := by
    obtain ⟨ob, es, ep, q, r⟩ := hnew
    exact ⟨ob, es, ep, k1 _ _ q, r⟩
  have hne : s.heap.objs.size ≠ h1.objs.size := by
    obtain ⟨ob, es, ep, q, r⟩ := hd1
    exact Nat.ne_of_lt (Heap.lt_size q)
  have ht : s.heap.IsTuple tq items := ⟨o, ho, hc, n, hdat⟩
  refine wpAny_bind (wpAny_rule (wpAny_bind (wpAny_pyIter_tuple (t := tq) (items := items) ⟨o, k1 _ _ ho1, hc, n, hdat⟩ ?_)))
  refine wpAny_pure ⟨plainId_quiet dl_plain _, ?_⟩
  refine dict_loop (A := A.in1) (knd := knd) (hb := s.heap) (show A.in1.handled = none from hh) g0 g1 hne ht kvs 0 { s with heap := h1.push { cls := .type "tuple_iterator", data := .fields #[.ref tq, .int 0 0] }, toks := tk1 } [] 0 (fun b ob e => Heap.get?_push_of_some _ (k1 _ _ (Heap.get?_push_of_some _ e))) ⟨_, Heap.get?_push_size _ rfl, rfl, rfl⟩ (hd1.push _) (by simpa using hp) (by simpa using hsz) fun h' tk q1 q2 => ?_
  exact ⟨rfl, hQ h' tk q1 q2⟩
end
end DL
set_option Elab.async false
set_option linter.all false
set_option maxRecDepth 100000
set_option maxHeartbeats 4000000
namespace DL
open PySem PySem.Spec PyProof.Rows L2
@[simp] def keysD : List D → Option (List Key)
  | [] => some []
  | x :: xs => match keyD x, keysD xs with
    | some k, some ks => some (k :: ks)
    | _, _ => none
theorem RDs.keys {K : PySem.W.Frag} {Z : Addr → Prop} {m : Mu} {H : Hp} : ∀ {xs : List D} {vs : List V} {ks : List Key}, RDs K Z m H xs vs → keysD xs = some ks → vs = ks.map kV
  | [], vs, ks, h, e => by
    cases e
    exact h
  | x :: xs, vs, ks, h, e => by
    obtain ⟨v, r, rfl, h1, h2⟩ := h
    unfold keysD at e
    cases e1 : keyD x with
    | none => rw [e1] at e; cases e
    | some k =>
      cases e2 : keysD xs with
      | none => rw [e1, e2] at e; cases e
      | some ks' =>
        rw [e1, e2] at e
        cases e
        rw [h1.key e1, RDs.keys h2 e2]
        rfl
section
variable {X : Cx} {o i e : Expr} {es : List Expr} {fo f : DE} {fa : DA} {pos tpos ipos : Pos} {j : Nat}
end
end DL
set_option Elab.async false
set_option linter.all false
set_option maxRecDepth 100000
set_option maxHeartbeats 4000000
namespace DL
open PySem PySem.Spec PyProof.Rows L2
def keyP : Key → PyData
  | .inl i => .int i
  | .inr z => .str z
theorem Inv.noD {X : Cx} {pins : List (Addr × Obj)} {σ : L2.St} {H : Hp} {s : Shared} {a : Addr} {xs : List V} (I : Inv X pins σ H s) (h : SqT X.K H a xs) : NoD s.heap a := by
  rcases h with h | ⟨o, its, n, hk, hc, hs, hz, r⟩
  · obtain ⟨z, its, r, p⟩ := h.ok I.hok
    exact z.2
  · exact ⟨o, I.kIn a o hk, hc.2⟩
theorem pairs_at {X : Cx} {pins : List (Addr × Obj)} {σ : L2.St} {H : Hp} {s : Shared} {Z : Addr → Prop} {m : Mu} (I : Inv X pins σ H s) : ∀ {kvs : List (Key × PyData)} {vs : List V} {us : List Value}, RPs X.K Z m H (kvs.map fun kv => PyData.tuple [keyP kv.1, kv.2]) vs → Vals vs us →
    ∃ ws : List (Key × V), ∃ xs : List (Key × Value), RKV X.K Z m H kvs ws ∧ KV ws xs ∧ PairsAt (mixKind X.prog X.w) s.heap us xs ∧ xs.length = kvs.length
  | [], vs, us, h, r => by
    simp only [List.map_nil, RPs] at h
    subst h
    cases r
    exact ⟨[], [], rfl, .nil, trivial, rfl⟩
  | (k, p) :: kvs, vs, us, h, r => by
    simp only [List.map_cons, RPs] at h
    obtain ⟨v, vs', rfl, h1, h2⟩ := h
    cases r with
    | cons r1 r2 =>
      obtain ⟨ws, xs, q1, q2, q3, q4⟩ := pairs_at I h2 r2
      simp only [RP] at h1
      obtain ⟨a, ps, rfl, hs, hp⟩ := h1
      obtain ⟨its, rv, it, _⟩ := I.tuple hs
      simp only [RPs] at hp
      obtain ⟨v1, r', rfl, g1, v2, r'', rfl, g2, rfl⟩ := hp
      cases rv with
      | cons w1 rv =>
        cases rv with
        | cons w2 rv =>
          cases rv
          have ev : v1 = kV k := by
            cases k with
            | inl i =>
              simp only [keyP, RP] at g1
              exact g1
            | inr z =>
              simp only [keyP, RP] at g1
              exact g1
          subst ev
          refine ⟨(k, v2) :: ws, (k, _) :: xs, ⟨_, _, rfl, g2, q1⟩, .cons ⟨rfl, w2⟩ q2, ⟨⟨a, _, r1, it, kV_is w1⟩, q3⟩, by simp [q4]⟩
def putsP (acc : List (Key × PyData)) (r : List (Key × PyData)) : List (Key × PyData) := r.foldl (fun acc kv => putP acc kv.1 kv.2) acc
def putsV (acc : List (Key × V)) (r : List (Key × V)) : List (Key × V) := r.foldl (fun acc kv => putK acc kv.1 kv.2) acc
theorem RKV.puts {K : PySem.W.Frag} {Z : Addr → Prop} {m : Mu} {H : Hp} : ∀ {r : List (Key × PyData)} {ws : List (Key × V)} {acc : List (Key × PyData)} {aw : List (Key × V)}, RKV K Z m H acc aw → RKV K Z m H r ws → RKV K Z m H (putsP acc r) (putsV aw ws)
  | [], ws, acc, aw, ha, hr => by
    cases (show ws = [] from hr)
    exact ha
  | (k, p) :: r, vs, acc, aw, ha, h => by
    obtain ⟨v, ws, rfl, h1, h2⟩ := h
    exact RKV.puts (r := r) (ws := ws) (acc := putP acc k p) (aw := putK aw k v) (ha.put h1) h2
theorem KV.puts {ws : List (Key × V)} {xs : List (Key × Value)} (t : KV ws xs) : ∀ {aw : List (Key × V)} {ax : List (Key × Value)}, KV aw ax → KV (putsV aw ws) (putAll ax xs) := by
  unfold KV at t
  induction t with
  | nil => exact fun ha => ha
  | @cons p q ps qs h t ih =>
    intro aw ax ha
    obtain ⟨e, h⟩ := h
    have := ih (KV.put ha p.1 h)
    show KV (putsV (putK aw p.1 p.2) ps) (putAll (stored ax q.1 q.2) qs)
    rw [← e]
    exact this
theorem puts_len : ∀ (r acc : List (Key × PyData)), (putsP acc r).length ≤ acc.length + r.length
  | [], acc => by simp [putsP]
  | kv :: r, acc => by
    have := puts_len r (putP acc kv.1 kv.2)
    have h2 : (putP acc kv.1 kv.2).length ≤ acc.length + 1 := by
      unfold putP
      split
      · rw [List.length_map]; omega
      · simp
    unfold putsP at *
    simp only [List.foldl_cons, List.length_cons]
    omega
section
variable {X : Cx} {e : Expr} {f : DE} {pos p : Pos}
@[simp] def dDictP (f : DE) : DE := fun d m Q => f d m fun x m1 => ∃ kvs : List (Key × PyData), x = .dat (.tuple (kvs.map fun kv => .tuple [keyP kv.1, kv.2])) ∧ kvs.length ≤ sizeLine ∧ ∀ a, m1 a = none → Q (.cel a) (updM m1 a (.d (putsP [] kvs)))
theorem le_dictP (hc : X.calm = true) (hg : Gl X "dict") (hm : X.mg "dict" = none) (he : PE X e (LE X.K f)) (hs : starEach [e] X.env = [(false, eval e X.env)] := by rfl) : PE X (.Call (.Name "dict" p) [e] [] pos) (LE X.K (dDictP f)) := by
  intro pins s σ H Q I h
  obtain ⟨Z, d, m, R, ok, rs, h, k⟩ := h
  have hA := pa_cons (X := X) he pa_nil (by rw [hs]; rfl) pos pins s σ H (fun vs H1 => ∃ (v : V) (kvs : List (Key × PyData)) (m1 : Mu), vs = [v] ∧ RD X.K Z m1 H1 (.dat (.tuple (kvs.map fun kv => .tuple [keyP kv.1, kv.2]))) v ∧ kvs.length ≤ sizeLine ∧ (∀ a, m1 a = none → R (.cel a) (updM m1 a (.d (putsP [] kvs)))) ∧ Ext X.K Z m H m1 H1 ∧ Ok X.K Z m1 H1) I ⟨Z, d, m, _, ok, rs, h, fun x m1 v H1 ⟨kvs, ex, hn, q⟩ e1 ok1 rd => by
    subst ex
    exact ⟨v, kvs, m1, rfl, rd, hn, q, e1, ok1⟩⟩
  refine Call_ (ld_blt I hg hm boot_dict (PyProof.Rows.callWith_type1 (thn hA fun us s1 ⟨vs, H1, I1, r1, q1⟩ => ?_) hs rfl))
  obtain ⟨v, kvs, m1, ev, rd, hn, q, e1, ok1⟩ := q1
  subst ev
  simp only [RD, RP] at rd
  obtain ⟨a, ps, rfl, hsq, hp⟩ := rd
  obtain ⟨u, rfl, hu⟩ := vals1 r1
  cases (show u = Value.ref a from hu)
  obtain ⟨its, rv, ⟨o, ho, hoc, n, hod⟩, _⟩ := I1.tuple hsq
  obtain ⟨o', ho', hdn⟩ := Inv.noD I1 hsq
  rw [ho] at ho'
  cases ho'
  obtain ⟨ws, xs, q1, q2, q3, q4⟩ := pairs_at (Z := Z) (m := m1) I1 hp rv
  have hp0 : H1 s1.heap.objs.size = none := I1.hok.fresh (Nat.le_refl _)
  have hk0 : X.K.lookup s1.heap.objs.size = none := by
    cases e : X.K.lookup s1.heap.objs.size with
    | none => rfl
    | some o => exact absurd (Heap.lt_size (I1.kIn _ o e)) (Nat.lt_irrefl _)
  refine call_dict_pairs (knd := mixKind X.prog X.w) (I1.ok.hd hc) ho hoc hdn hod (by simpa using q3) (by rw [q4]; exact hn) fun h' tk kp dd => ?_
  have rk : RKV X.K Z m1 H1 (putsP [] kvs) (putsV [] ws) := RKV.puts (show RKV _ _ _ _ _ _ from rfl) q1
  have ob : ObjOk X.prog X.w (upd H1 s1.heap.objs.size (.dK (putsV [] ws))) h' s1.heap.objs.size (.dK (putsV [] ws)) := by
    refine ⟨?_, beq_eq_false_iff_ne.mpr (Ne.symm (Nat.ne_of_lt I1.big)), _, KV.puts q2 .nil, dd⟩
    rw [rk.length]
    exact Nat.le_trans (puts_len kvs []) (by simpa using hn)
  exact ⟨.ref s1.heap.objs.size, _, I1.laid (t' := tk) kp (Nat.le_refl _) ob, rfl, k _ _ _ _ (q _ (ok_none ok1 hp0).1) (e1.trans (Ext.cell ok1 hp0 hk0)) (ok1.cell hp0 hk0 (show RKV _ _ _ _ _ _ from rk)) ⟨rfl, by rw [updM_same]; rfl⟩⟩
end
end DL
set_option Elab.async false
set_option linter.all false
set_option maxRecDepth 100000
set_option maxHeartbeats 4000000
namespace DL
open PySem PySem.Spec PyProof.Rows L2
def KTEnt (K : PySem.W.Frag) (w : World) : List DictEntry → List (List Str × Addr × V) → Prop
  | [], [] => True
  | e :: es, (zs, a, v) :: xs => e.hash = reduceHash (Builtin.Tuple.tupleHashOf (zs.map (PyData.keyHash w.params))) ∧ e.key = .ref a ∧ RelV v e.val ∧ KT K a zs ∧ KTEnt K w es xs
  | _, _ => False
def KTDt (K : PySem.W.Frag) (w : World) (c : Addr) (xs : List (List Str × Addr × V)) : Prop :=
  ∃ (o : Obj) (es : Array DictEntry) (ep : Nat), K.lookup c = some o ∧ o.cls = .type "dict" ∧ o.dict = none ∧ o.slots = #[] ∧ o.data = .dict es ep ∧ KTEnt K w es.toList xs ∧ (xs.map (·.1)).Nodup ∧ (c == sysModules) = false
theorem kV_strs (zs : List Str) : (zs.map (Sum.inr : Str → Key)).map kV = zs.map V.str := by
  rw [List.map_map]
  rfl
section
variable {X : Cx} {pins : List (Addr × Obj)} {σ : L2.St} {H : Hp} {s : Shared}
theorem key_sq {a : Addr} {zs : List Str} (I : Inv X pins σ H s) (h : SqT X.K H a (zs.map V.str)) : (tupleKind (mixKind X.prog X.w)).is s.heap (zs.map Sum.inr) a := by
  obtain ⟨its, r, ⟨o, h1, h2, n, h3⟩, _⟩ := I.tuple h
  rw [← kV_strs] at r
  exact ⟨o, its.toArray, n, h1, h2, h3, by simpa using items_are r⟩
theorem KTEnt.out (I : Inv X pins σ H s) : ∀ {es : List DictEntry} {xs : List (List Str × Addr × V)}, KTEnt X.K X.w es xs → ∃ ys : List (List Key × Addr × Value), es = ys.map (entryOfKey (tupleKind (mixKind X.prog X.w))) ∧ (∀ y ∈ ys, (tupleKind (mixKind X.prog X.w)).is s.heap y.1 y.2.1) ∧ ys.map (·.1) = xs.map (fun x => x.1.map Sum.inr) ∧
    ∀ zs : List Str, RelO (valV (xs.map fun x => (x.1, x.2.2)) zs) ((atKey ys (zs.map Sum.inr)).map (·.2))
  | [], [], _ => ⟨[], rfl, by simp, rfl, fun _ => True.intro⟩
  | e :: es, (zs, a, v) :: xs, ⟨h1, h2, h3, h4, h5⟩ => by
    obtain ⟨ys, q1, q2, q3, q4⟩ := KTEnt.out I h5
    refine ⟨(zs.map Sum.inr, a, e.val) :: ys, ?_, fun y hy => ?_, by simp [q3], fun z => ?_⟩
    · rw [List.map_cons, ← q1]
      congr 1
      obtain ⟨eh, ek, ev⟩ := e
      simp only at h1 h2
      subst h1 h2
      unfold entryOfKey
      congr 1
      show _ = reduceHash (Builtin.Tuple.tupleHashOf ((zs.map Sum.inr).map (mixKind X.prog X.w).hash))
      rw [List.map_map]
      rfl
    · rcases List.mem_cons.mp hy with rfl | hy
      · exact key_sq I h4.sq
      · exact q2 y hy
    · by_cases c : zs = z
      · subst c
        unfold valV atKey
        simp only [List.map_cons, List.find?_cons, decide_true, Option.map_some]
        exact h3
      · have c' : ¬ zs.map (Sum.inr : Str → Key) = z.map Sum.inr := fun h => c ((List.map_inj_right (fun _ _ q => Sum.inr.inj q)).mp h)
        have := q4 z
        unfold valV atKey at this ⊢
        simp only [List.map_cons, List.find?_cons, decide_eq_false c, decide_eq_false c']
        exact this
  | [], _ :: _, h => h.elim
  | _ :: _, [], h => h.elim
theorem KTDt.out {c : Addr} {xs : List (List Str × Addr × V)} (I : Inv X pins σ H s) (q : KTDt X.K X.w c xs) : (c == sysModules) = false ∧ ∃ ys : List (List Key × Addr × Value), s.heap.DictOfH (tupleKind (mixKind X.prog X.w)) c ys ∧
    ∀ zs : List Str, RelO (valV (xs.map fun x => (x.1, x.2.2)) zs) ((atKey ys (zs.map Sum.inr)).map (·.2)) := by
  obtain ⟨o, es, ep, h1, h2, h3, h4, h5, h6, h7, h8⟩ := q
  obtain ⟨ys, q1, q2, q3, q4⟩ := KTEnt.out I h6
  refine ⟨h8, ys, ⟨o, es, ep, I.kIn _ _ h1, ⟨h2, h3, h4⟩, h5, q1, q2, ?_⟩, q4⟩
  rw [q3]
  have e : xs.map (fun x => x.1.map (Sum.inr : Str → Key)) = (xs.map (·.1)).map (fun z => z.map Sum.inr) := by simp
  rw [e]
  exact List.Pairwise.map _ (fun a b hab h => hab ((List.map_inj_right (fun _ _ q => Sum.inr.inj q)).mp h)) h7
end
theorem KT.rp {K : PySem.W.Frag} {a : Addr} {zs : List Str} {Z : Addr → Prop} {m : Mu} {H : Hp} (h : KT K a zs) : RP K Z m H (.tuple (zs.map PyData.str)) (.ref a) := by
  simp only [RP]
  exact ⟨a, _, rfl, h.sq, strs_rps zs⟩
section
variable {X : Cx} {e g : Expr} {fi fg : DE} {p apos cpos : Pos}
end
end DL
set_option Elab.async false
set_option linter.all false
set_option maxRecDepth 100000
set_option maxHeartbeats 4000000
namespace DL
open PySem PySem.Spec PyProof.Rows L2
section
variable {X : Cx} {o e : Expr} {f g : DE} {apos cpos : Pos}
end
end DL
set_option Elab.async false
set_option linter.all false
set_option maxRecDepth 100000
set_option maxHeartbeats 4000000
namespace DL
open PySem PySem.Spec PyProof.Rows L2
section
variable {X : Cx} {a : Expr} {f : DE} {pos p2 : Pos}
theorem part_is {v : Value} {lo : Option Int} (h : IsPart v lo) : ∃ l : Option (Int × Tok), v = partValue l ∧ lo = l.map (·.1) := by
  cases h with
  | none => exact ⟨none, rfl, rfl⟩
  | int i t => exact ⟨some (i, t), rfl, rfl⟩
theorem slice_len (z : Str) (lo hi : Option Int) : (Txt.slice z lo hi).length ≤ z.length := by
  unfold Txt.slice
  split
  · exact Nat.le_refl _
  · show ((Builtin.Str.strSliceIndices lo hi 1 z.length).filterMap (z.cps[·]?)).toArray.size ≤ z.length
    rw [List.size_toArray]
    exact Nat.le_trans (fm_len _ _) (sliceIndices_le lo hi z.length)
def rSlE : V → Option Int → Option Int → Hp → VK → Prop := fun x lo hi H Q => ∃ z : Str, x = .str z ∧ z.length ≤ sizeLine ∧ Q (.str (Txt.slice z lo hi)) H
theorem sl_strE : SlR X rSlE := by
  intro pins s σ H x v vl vu lo hi sl Q I rx hs pl pu h
  obtain ⟨z, rfl, hz, q⟩ := h
  obtain ⟨t, rfl⟩ := rx
  obtain ⟨l, rfl, rfl⟩ := part_is pl
  obtain ⟨u, rfl, rfl⟩ := part_is pu
  refine ⟨"str", _, PySem.F.slot_str_getitem.lookup, typeIs_str s z t, ?_⟩
  refine wpAny_getItem_str_slice (l := l) (u := u) (st := none) hs rfl ?_
  have hl := slice_len z (l.map (·.1)) (u.map (·.1))
  unfold Txt.slice at q hl
  unfold sliceMade
  split
  · rename_i c
    have c2 : ((1 : Int) == 1 && (Builtin.Str.strSliceIndices (l.map (·.1)) (u.map (·.1)) 1 z.length).length == z.length) = true := c
    rw [if_pos c2] at q
    exact ⟨.str z, H, I, ⟨_, rfl⟩, q⟩
  · rename_i c
    have c2 : ¬ ((1 : Int) == 1 && (Builtin.Str.strSliceIndices (l.map (·.1)) (u.map (·.1)) 1 z.length).length == z.length) = true := c
    rw [if_neg c2] at q hl
    exact ⟨Nat.le_trans hl hz, .str _, H, I.tok _, ⟨_, rfl⟩, q⟩
@[simp] def dSlE (f : DE) (lo hi : DO) : DE := fun d m Q => f d m fun x m1 => lo d m1 fun l m2 => hi d m2 fun u m3 => ∃ z : Str, x = .dat (.str z) ∧ z.length ≤ sizeLine ∧ Q (.dat (.str (Txt.slice z l u))) m3
theorem le_slE {lo hi : Option Expr} {tl th : DO} (ha : PE X a (LE X.K f)) (hl : PO X lo (LO X.K tl)) (hu : PO X hi (LO X.K th)) : PE X (.Subscript a (.Slice lo hi none p2) pos) (LE X.K (dSlE f tl th)) :=
  PE.imp (pe_slice sl_strE ha hl hu) fun s H Q h => by
    obtain ⟨Z, d, m, R, ok, rs, h, k⟩ := h
    refine ⟨Z, d, m, _, ok, rs, h, fun x m1 v H1 q e1 ok1 rx => ⟨Z, d, m1, _, ok1, rs.ext e1, q, fun l m2 H2 q2 e2 ok2 => ⟨Z, d, m2, _, ok2, (rs.ext e1).ext e2, q2, fun u m3 H3 q3 e3 ok3 => ?_⟩⟩⟩
    obtain ⟨z, rfl, hz, q4⟩ := q3
    cases (rx.ext (e2.trans e3)).str
    exact ⟨z, rfl, hz, k _ m3 _ H3 q4 (e1.trans (e2.trans e3)) ok3 .ofStr⟩
end
end DL
set_option Elab.async false
set_option linter.all false
set_option maxRecDepth 100000
set_option maxHeartbeats 4000000
namespace DL
open PySem PySem.Spec PyProof.Rows L2
section
variable {X : Cx} {a : Expr} {elts : List Expr} {j : Nat} {f : DE} {pos p p2 : Pos}
end
end DL
set_option Elab.async false
set_option linter.all false
set_option maxRecDepth 100000
set_option maxHeartbeats 4000000
namespace DL
open PySem PySem.Spec PyProof.Rows L2
section
variable {prog : Program} {w : World} {A : Around} {E : Value → Shared → Prop} {s : Shared}
end
section
variable {X : Cx} {a : Expr} {elts : List Expr} {j : Nat} {f : DE} {pos p p2 : Pos}
end
end DL
set_option Elab.async false
set_option linter.all false
set_option maxRecDepth 100000
set_option maxHeartbeats 4000000
namespace DL
open PySem PySem.Spec PyProof.Rows L2
section
variable {prog : Program} {w : World} {A : Around} {E : Value → Shared → Prop} {s : Shared}
end
def Itl (K : PySem.W.Frag) (t1 t2 : Addr) (n : Nat) : It :=
  ⟨fun i H => i < n ∧ ∃ xs ys, SqL K H t1 xs ∧ SqT K H t2 ys ∧ n = min xs.length ys.length, fun i H v H' => ∃ p x y, v = .ref p ∧ H p = none ∧ H' = upd H p (.tup [x, y]) ∧ ∀ xs ys, SqL K H t1 xs → SqT K H t2 ys → xs[i]? = some x ∧ ys[i]? = some y,
    fun i H => i = n ∧ ∃ xs ys, SqL K H t1 xs ∧ SqT K H t2 ys ∧ n = min xs.length ys.length⟩
section
variable {X : Cx} {a b : Expr} {elts : List Expr} {j : Nat} {f g : DE} {pos p p2 : Pos}
end
end DL
set_option Elab.async false
set_option linter.all false
set_option maxRecDepth 100000
set_option maxHeartbeats 4000000
namespace DL
open PySem PySem.Spec PyProof.Rows L2
section
variable {K : PySem.W.Frag} {Z : Addr → Prop} {m m' : Mu} {H : Hp}
def offM (m : Mu) (a : Addr) : Mu := fun b => if b = a then none else m b
theorem off_none {a b : Addr} (h : m b = none) : offM m a b = none := by unfold offM; split <;> first | rfl | exact h
end
section
variable {X : Cx} {a : Expr} {f : DE} {pos p2 : Pos}
@[simp] def dSlY (f : DE) (lo hi : DO) : DE := fun d m Q => f d m fun x m1 => lo d m1 fun l m2 => hi d m2 fun u m3 =>
  (∃ xs, x = .dat (.tuple xs) ∧ Q (.dat (.tuple (cutP xs l u))) m3) ∨ (∃ xs, x = .dat (.list xs) ∧ Q (.dat (.list (cutP xs l u))) m3) ∨ (∃ z : Str, x = .dat (.str z) ∧ z.length ≤ sizeLine ∧ Q (.dat (.str (Txt.slice z l u))) m3) ∨
  (∃ c xs, x = .cel c ∧ m3 c = some (.l xs) ∧ Q (.dat (.list (cutP xs l u))) m3)
theorem le_slY {lo hi : Option Expr} {tl th : DO} (ha : PE X a (LE X.K f)) (hl : PO X lo (LO X.K tl)) (hu : PO X hi (LO X.K th)) : PE X (.Subscript a (.Slice lo hi none p2) pos) (LE X.K (dSlY f tl th)) :=
  PE.imp (pe_slice (sl_tup.or (sl_whole.or (sl_list.or sl_strE))) ha hl hu) fun s H Q h => by
    obtain ⟨Z, d, m, R, ok, rs, h, k⟩ := h
    refine ⟨Z, d, m, _, ok, rs, h, fun x m1 v H1 q e1 ok1 rx => ⟨Z, d, m1, _, ok1, rs.ext e1, q, fun l m2 H2 q2 e2 ok2 => ⟨Z, d, m2, _, ok2, (rs.ext e1).ext e2, q2, fun u m3 H3 q3 e3 ok3 => ?_⟩⟩⟩
    have e13 := e1.trans (e2.trans e3)
    have rx3 := rx.ext (e2.trans e3)
    rcases q3 with ⟨xs, rfl, q4⟩ | ⟨xs, rfl, q4⟩ | ⟨z, rfl, hz, q4⟩ | ⟨c, xs, rfl, hm, q4⟩
    · simp only [RD, RP] at rx3
      obtain ⟨a, vs, rfl, h1, h2⟩ := rx3
      by_cases hw : HT.sIx vs.length 0 l = 0 ∧ HT.sIx vs.length vs.length u = vs.length
      · refine .inr (.inl ⟨a, vs, rfl, h1, hw, k _ m3 _ H3 q4 e13 ok3 ?_⟩)
        rw [h2.length] at hw
        rw [cut_whole xs hw]
        simp only [RD, RP]
        exact ⟨a, vs, rfl, h1, h2⟩
      · refine .inl ⟨a, vs, rfl, h1, hw, fun p hp => ?_⟩
        have sm : Same H3 (upd H3 p (.tup (cutV vs l u))) := same_new hp
        refine k _ m3 _ _ q4 (e13.trans (ok3.ext sm)) (ok3.grow sm) ?_
        simp only [RD, RP]
        exact ⟨p, _, rfl, .inl (.inl upd_same), RPs.ext (ok3.ext sm) _ _ h2.cut⟩
    · simp only [RD, RP] at rx3
      obtain ⟨a, vs, rfl, h0, h1, h2⟩ := rx3
      refine .inr (.inr (.inl ⟨a, vs, rfl, h1, fun p hp => ?_⟩))
      have sm : Same H3 (upd H3 p (.lst (cutV vs l u))) := same_new hp
      refine k _ m3 _ _ q4 (e13.trans (ok3.ext sm)) (ok3.grow sm) ?_
      simp only [RD, RP]
      exact ⟨p, _, rfl, ok_none ok3 hp, .inl (.inl upd_same), RPs.ext (ok3.ext sm) _ _ h2.cut⟩
    · cases rx3.str
      exact .inr (.inr (.inr ⟨z, rfl, hz, k _ m3 _ H3 q4 e13 ok3 .ofStr⟩))
    · obtain ⟨rfl, _⟩ := rx3
      obtain ⟨vs, h1, h2⟩ := ok3.l hm
      refine .inr (.inr (.inl ⟨c, vs, rfl, .inl (.inl h1), fun p hp => ?_⟩))
      have sm : Same H3 (upd H3 p (.lst (cutV vs l u))) := same_new hp
      refine k _ m3 _ _ q4 (e13.trans (ok3.ext sm)) (ok3.grow sm) ?_
      simp only [RD, RP]
      exact ⟨p, _, rfl, ok_none ok3 hp, .inl (.inl upd_same), RPs.ext (ok3.ext sm) _ _ h2.cut⟩
end
end DL
set_option Elab.async false
set_option linter.all false
set_option maxRecDepth 100000
set_option maxHeartbeats 4000000
namespace DL
open PySem PySem.Spec PyProof.Rows L2
section
variable {prog : Program} {w : World} {A : Around} {E : Value → Shared → Prop} {s : Shared}
end
section
variable {prog : Program} {w : World} {κ : Type} [DecidableEq κ] {knd : KeyKind prog w κ} {A : Around} {E : Value → Shared → Prop} {s : Shared}
end
section
variable {X : Cx} {e : Expr} {f : DE} {pos p : Pos}
end
end DL
set_option Elab.async false
set_option linter.all false
set_option maxRecDepth 100000
set_option maxHeartbeats 4000000
namespace DL
open PySem PySem.Spec PyProof.Rows L2
section
variable {prog : Program} {w : World} {A : Around} {E : Value → Shared → Prop} {s : Shared}
end
end DL
set_option Elab.async false
set_option linter.all false
set_option maxRecDepth 100000
set_option maxHeartbeats 4000000
namespace DL
open PySem PySem.Spec PyProof.Rows L2
section
variable {prog : Program} {w : World} {A : Around} {E : Value → Shared → Prop} {s : Shared}
end
section
variable {X : Cx} {pins : List (Addr × Obj)} {σ : L2.St}
def PairsH (H : Hp) (xs ys : List V) (ps : List Addr) : Prop := ∀ (j : Nat) (p : Addr), ps[j]? = some p → ∃ x y, xs[j]? = some x ∧ ys[j]? = some y ∧ H p = some (.tup [x, y])
theorem PairsH.same {H H' : Hp} {xs ys : List V} {ps : List Addr} (h : PairsH H xs ys ps) (e : Same H H') : PairsH H' xs ys ps := fun j p q => let ⟨x, y, h1, h2, h3⟩ := h j p q; ⟨x, y, h1, h2, e _ _ h3⟩
theorem PairsH.snoc {H : Hp} {xs ys : List V} {ps : List Addr} {a : Addr} {x y : V} (h : PairsH H xs ys ps) (hx : xs[ps.length]? = some x) (hy : ys[ps.length]? = some y) (ha : H a = some (.tup [x, y])) : PairsH H xs ys (ps ++ [a]) := fun j p q => by
  rcases Nat.lt_or_ge j ps.length with c | c
  · rw [List.getElem?_append_left c] at q
    exact h j p q
  · rw [List.getElem?_append_right c] at q
    have : j - ps.length = 0 := by
      rcases Nat.eq_zero_or_pos (j - ps.length) with z | z
      · exact z
      · rw [List.getElem?_eq_none (by simp; omega)] at q; cases q
    rw [this] at q
    cases q
    have e : j = ps.length := by omega
    subst e
    exact ⟨x, y, hx, hy, ha⟩
end
end DL
set_option Elab.async false
set_option linter.all false
set_option maxRecDepth 100000
set_option maxHeartbeats 4000000
namespace DL
open PySem PySem.Spec PyProof.Rows L2
open AutoSeq1 (wpAny_loadPart')
section
variable {X : Cx} {pins : List (Addr × Obj)} {σ : L2.St}
end
end DL
set_option Elab.async false
set_option linter.all false
set_option maxRecDepth 100000
set_option maxHeartbeats 4000000
namespace DL
open PySem PySem.Spec PyProof.Rows L2
open AutoSeq1 (wpAny_loadPart')
section
variable {X : Cx} {pins : List (Addr × Obj)} {σ : L2.St}
end
section
variable {X : Cx} {a b : Expr} {f g : DE} {pos p p2 pos2 : Pos}
end
end DL
set_option Elab.async false
set_option linter.all false
set_option maxRecDepth 100000
set_option maxHeartbeats 4000000
namespace DL
open PySem PySem.Spec PyProof.Rows L2
section
variable {X : Cx} {o e : Expr} {f g : DE}
theorem RPs.eraseIdx {K : PySem.W.Frag} {Z : Addr → Prop} {m : Mu} {H : Hp} {xs : List PyData} {vs : List V} (h : RPs K Z m H xs vs) (i : Nat) : RPs K Z m H (xs.eraseIdx i) (vs.eraseIdx i) := by
  rw [List.eraseIdx_eq_take_drop_succ, List.eraseIdx_eq_take_drop_succ]
  exact (h.take _).append (h.drop _)
end
end DL
set_option Elab.async false
set_option linter.all false
set_option maxRecDepth 100000
set_option maxHeartbeats 4000000
namespace DL
open PySem PySem.Spec PyProof.Rows L2
section
variable {K : PySem.W.Frag} {Z : Addr → Prop} {m m1 : Mu} {H H1 : Hp}
theorem Ok.off {a : Addr} (ok : Ok K Z m H) : Ok K Z (offM m a) H :=
  ⟨fun b c h => by
    unfold offM at h
    split at h
    · cases h
    · obtain ⟨o, h1, h2⟩ := ok.g b c h
      exact ⟨o, h1, h2.lift fun p v q => RP.tr (fun _ _ q => q) (fun b ws q1 q2 => ⟨⟨off_none q1.1, q1.2⟩, q2⟩) p v q⟩, fun b hz => ⟨off_none (ok.z b hz).1, (ok.z b hz).2⟩⟩
theorem Ext.off {a : Addr} (e : Ext K Z m H m1 H1) (h : m a = none) : Ext K Z m H (offM m1 a) H1 :=
  ⟨e.t, fun b vs h1 h2 => let ⟨q1, q2⟩ := e.l b vs h1 h2; ⟨off_none q1, q2⟩, e.z, fun b hb => by
    unfold offM
    split
    · rename_i q; rw [q, h] at hb; cases hb
    · exact e.c b hb, e.fz, fun b hb => by
    unfold offM
    split
    · rename_i q; rw [q, h] at hb; cases hb
    · exact e.fm b hb⟩
end
section
variable {X : Cx} {e : Expr} {f : DE}
end
end DL
set_option Elab.async false
set_option linter.all false
set_option maxRecDepth 100000
set_option maxHeartbeats 4000000
namespace DL
open PySem PySem.Spec PyProof.Rows L2
section
variable {X : Cx} {pos : Pos}
variable {o e : Expr} {f g : DE}
end
end DL
set_option Elab.async false
set_option linter.all false
set_option maxRecDepth 100000
set_option maxHeartbeats 4000000
namespace DL
open PySem PySem.Spec PyProof.Rows L2
section
variable {X : Cx} {o i : Expr} {fo fi : DE} {pos : Pos}
end
end DL
set_option Elab.async false
set_option linter.all false
set_option maxRecDepth 100000
set_option maxHeartbeats 4000000
namespace DL
open PySem PySem.Spec PyProof.Rows L2
section
variable {X : Cx} {e : Expr} {f : DE} {pos p p2 pos2 : Pos}
variable {e2 : Expr} {f2 : DE}
end
end DL
set_option Elab.async false
set_option linter.all false
set_option maxRecDepth 100000
set_option maxHeartbeats 4000000
namespace DL
open PySem PySem.Spec PyProof.Rows L2
section
variable {X : Cx} {a b c : Expr} {f g h : DE} {pos : Pos}
@[simp] def dChain (r r' : D2) (f g h : DE) : DE := fun d m Q => f d m fun x m1 => g d m1 fun y m2 => r x y m2 fun z m3 => ∃ k, z = .dat (.bool k) ∧ (if k = true then h d m3 fun w m4 => r' y w m4 Q else Q (.dat (.bool false)) m3)
theorem lt_chain {op op' : CmpOp} {r r' : D2} (ho : OpD X (compareOp op) r) (ho' : OpD X (compareOp op') r') (ha : PE X a (LE X.K f)) (hb : PE X b (LE X.K g)) (hc : PE X c (LE X.K h))
    (hm : lastMarks [op, op'] [b, c] = false := by with_unfolding_all rfl) : PT X (.Compare a [op, op'] [b, c] pos) (LT X.K (dTst (dChain r r' f g h))) := by
  intro pins s σ H Q I hh
  obtain ⟨Z, d, m, R, ok, rs, hf, k⟩ := hh.le
  refine isTrue_chain (thn (ha pins s σ H (fun x H1 => ∃ (dx : D) (m1 : Mu), RD X.K Z m1 H1 dx x ∧ (g d m1 fun y m2 => r dx y m2 fun z m3 => ∃ k, z = .dat (.bool k) ∧ (if k = true then h d m3 fun w m4 => r' y w m4 R else R (.dat (.bool false)) m3)) ∧ Ext X.K Z m H m1 H1 ∧ Ok X.K Z m1 H1) I
    ⟨Z, d, m, _, ok, rs, hf, fun x m1 v H1 q e1 ok1 rd => ⟨x, m1, rd, q, e1, ok1⟩⟩) fun v s1 ⟨x, H1, I1, r1, dx, m1, rd, q, e1, ok1⟩ => test_link (thn (hb pins s1 σ H1 (fun y H2 => ∃ (dy : D) (m2 : Mu), RD X.K Z m2 H2 dy y ∧ (r dx dy m2 fun z m3 => ∃ k, z = .dat (.bool k) ∧ (if k = true then h d m3 fun w m4 => r' dy w m4 R else R (.dat (.bool false)) m3)) ∧ Ext X.K Z m1 H1 m2 H2 ∧ Ok X.K Z m2 H2) I1
    ⟨Z, d, m1, _, ok1, rs.ext e1, q, fun y m2 w H2 q2 e2 ok2 rd2 => ⟨y, m2, rd2, q2, e2, ok2⟩⟩) fun u s2 ⟨y, H2, I2, r2, dy, m2, rd2, q2, e2, ok2⟩ =>
    thn (ho pins s2 σ H2 Z m2 x y dx dy v u _ (fun z H3 => ∃ (kk : Bool) (m3 : Mu), z = .bl kk ∧ (if kk = true then h d m3 fun w m4 => r' dy w m4 R else R (.dat (.bool false)) m3) ∧ Ext X.K Z m2 H2 m3 H3 ∧ Ok X.K Z m3 H3) I2 ok2 r1 r2 (rd.ext e2) rd2 q2 (fun z m3 v3 H3 ⟨kk, ez, q3⟩ e3 ok3 rd3 => by subst ez; exact ⟨kk, m3, by simpa only [RD, RP] using rd3, q3, e3, ok3⟩))
      fun cv s3 ⟨z, H3, I3, r3, kk, m3, ez, q3, e3, ok3⟩ => ?_)) hm
  subst ez
  cases r3
  refine wpAny_truthy_bool ?_
  cases kk with
  | false =>
    obtain ⟨k', e', q'⟩ := k (.dat (.bool false)) m3 (.bl false) H3 (by simpa using q3) (e1.trans (e2.trans e3)) ok3 .ofBl
    cases e'
    exact ite_ff ⟨H3, I3, q'⟩
  | true =>
    refine ite_tt (test_last (thn (hc pins s3 σ H3 (fun w H4 => ∃ (dw : D) (m4 : Mu), RD X.K Z m4 H4 dw w ∧ r' dy dw m4 R ∧ Ext X.K Z m3 H3 m4 H4 ∧ Ok X.K Z m4 H4) I3 ⟨Z, d, m3, _, ok3, ((rs.ext e1).ext e2).ext e3, by simpa using q3, fun w m4 v4 H4 q4 e4 ok4 rd4 => ⟨w, m4, rd4, q4, e4, ok4⟩⟩)
      fun w' s4 ⟨z', H4, I4, r4, dw, m4, rd4, q4, e4, ok4⟩ => ?_))
    refine thn (ho' pins s4 σ H4 Z m4 y z' dy dw u w' R (fun x H' => ∃ k, x = .bl k ∧ Q k H') I4 ok4 r2 r4 (rd2.ext (e3.trans e4)) rd4 q4 fun d' m' v' H' h1 h2 h3 h4 => k d' m' v' H' h1 (e1.trans (e2.trans (e3.trans (e4.trans h2)))) h3 h4) fun d' s5 ⟨z2, H5, I5, r5, k2, e5, q5⟩ => ?_
    subst e5
    cases r5
    exact wpAny_truthy_bool ⟨H5, I5, q5⟩
@[simp] def aInS : D2
  | .dat (.str x), .dat (.str y), m, Q => Q (.dat (.bool (Txt.contains y x))) m
  | _, _, _, _ => False
theorem od_inS : OpD X (compareOp .In) aInS := by
  intro pins s σ H Z m x y dx dy v u R Q I ok rx ry r1 r2 h k
  unfold aInS at h
  split at h
  · cases r1.str
    cases r2.str
    obtain ⟨t, rfl⟩ := rx
    obtain ⟨t', rfl⟩ := ry
    exact PySem.SB.contains (h := ⟨.bl _, H, I, rfl, k _ m _ H h Ext.refl ok .ofBl⟩)
  · exact h.elim
theorem le_gint {x : Str} {i : Int} {t : Tok} (hg : Gl X x) (hm : X.mg x = some (.int i t)) (hd : (x == ("__debug__" : Str)) = false := by decide) : PE X (.Name x pos) (LE X.K (dCon (.int i))) :=
  PE.imp (pe_glob (v := .int i) hg hm ⟨t, rfl⟩ hd) fun s H Q h => by
    obtain ⟨Z, d, m, R, ok, rs, h, k⟩ := h
    exact k _ m _ H h Ext.refl ok (by simp only [RD, RP])
theorem le_gstr {x : Str} {z : Str} {t : Tok} (hg : Gl X x) (hm : X.mg x = some (.str z t)) (hd : (x == ("__debug__" : Str)) = false := by decide) : PE X (.Name x pos) (LE X.K (dCon (.str z))) :=
  PE.imp (pe_glob (v := .str z) hg hm ⟨t, rfl⟩ hd) fun s H Q h => by
    obtain ⟨Z, d, m, R, ok, rs, h, k⟩ := h
    exact k _ m _ H h Ext.refl ok (by simp only [RD, RP])
end
end DL
set_option Elab.async false
set_option linter.all false
set_option maxRecDepth 100000
set_option maxHeartbeats 4000000
namespace DL
open PySem PySem.Spec PyProof.Rows L2
section
variable {K : PySem.W.Frag} {Z : Addr → Prop} {m : Mu} {H : Hp}
end
section
variable {X : Cx}
end
end DL
set_option Elab.async false
set_option linter.all false
set_option maxRecDepth 100000
set_option maxHeartbeats 4000000
namespace DL
open PySem PySem.Spec PyProof.Rows L2
section
variable {X : Cx}
end
end DL
set_option Elab.async false
set_option linter.all false
set_option maxRecDepth 100000
set_option maxHeartbeats 4000000
namespace DL
open PySem PySem.Spec PyProof.Rows L2
section
variable {P : Program} {w : World} {A : Around} {E : Value → Shared → Prop} {s : Shared} {it d : Addr} {i ep : Nat} {es : Array DictEntry} {od : Obj}
end
theorem Paired.at {α β : Type} {r : α → β → Prop} : ∀ {xs : List α} {ys : List β} {i : Nat} {x : α}, Paired r xs ys → xs[i]? = some x → ∃ y, ys[i]? = some y ∧ r x y
  | _, _, _, _, .nil, e => by simp at e
  | _, _, 0, x, .cons h _, e => by
    simp at e
    subst e
    exact ⟨_, rfl, h⟩
  | _, _, i + 1, x, .cons _ h, e => by
    obtain ⟨y, h1, h2⟩ := Paired.at (i := i) h (by simpa using e)
    exact ⟨y, by simpa using h1, h2⟩
theorem Paired.len {α β : Type} {r : α → β → Prop} : ∀ {xs : List α} {ys : List β}, Paired r xs ys → xs.length = ys.length
  | _, _, .nil => rfl
  | _, _, .cons _ h => by rw [List.length_cons, List.length_cons, Paired.len h]
section
variable {X : Cx} {a : Expr} {tg : Expr} {f : DE}
end
section
variable {X : Cx} {o : Expr} {es : List Expr} {fo : DE} {fa : DA} {pos ipos : Pos} {j : Nat}
theorem Ok.ft {K : PySem.W.Frag} {Z : Addr → Prop} {m : Mu} {H : Hp} {a : Addr} {xs : List (List Key × PyData)} (ok : Ok K Z m H) (h : m a = some (.ft xs)) : ∃ ob vs, H a = some (.frz ob (.dT vs)) ∧ RKV K Z m H xs vs := by
  obtain ⟨o, h1, h2⟩ := ok.g a _ h
  cases o with
  | frz ob u => cases u <;> first | exact ⟨_, _, h1, h2⟩ | exact h2.elim
  | _ => exact h2.elim
end
end DL
set_option Elab.async false
set_option linter.all false
set_option maxRecDepth 100000
set_option maxHeartbeats 4000000
namespace DL
open PySem PySem.Spec PyProof.Rows L2
def kaV (kas : List (Key × Addr)) : List (Key × V) := kas.map fun x => (x.1, V.ref x.2)
theorem Ok.dl {K : PySem.W.Frag} {Z : Addr → Prop} {m : Mu} {H : Hp} {a : Addr} {kas : List (Key × Addr)} (ok : Ok K Z m H) (h : m a = some (.dl kas)) : H a = some (.dK (kaV kas)) := by
  obtain ⟨o, h1, h2⟩ := ok.g a _ h
  cases o <;> first | (cases (show _ = kaV kas from h2); exact h1) | exact h2.elim
section
variable {X : Cx} {o i e : Expr} {fo fi f : DE} {pos tpos : Pos}
end
end DL
set_option Elab.async false
set_option linter.all false
set_option maxRecDepth 100000
set_option maxHeartbeats 4000000
namespace DL
open PySem PySem.Spec PyProof.Rows L2
def many (n lo st : Nat) : Nat := if lo < n then (n - lo - 1) / st + 1 else 0
def places (n lo st : Nat) : List Nat := (List.range (many n lo st)).map fun k => lo + k * st
theorem Vals.at {xs : List V} {us : List Value} : ∀ {i : Nat} {x : V}, Vals xs us → xs[i]? = some x → ∃ u, us[i]? = some u ∧ RelV x u := fun h e => h.get e
section
variable {prog : Program} {w : World} {A : Around} {E : Value → Shared → Prop} {s : Shared}
end
section
variable {X : Cx} {a lo st : Expr} {f g h : DE} {pos p2 : Pos}
end
end DL
set_option Elab.async false
set_option linter.all false
set_option maxRecDepth 100000
set_option maxHeartbeats 4000000
namespace DL
open PySem PySem.Spec PyProof.Rows L2
theorem orStand_led (t : SetTable) (n : Nat) : (t.orStandIn n).led = t.led := by
  unfold SetTable.orStandIn
  split <;> rfl
theorem lay_led (t : SetTable) (es : Array (Int × Value)) (h : Int) (x : Value) : (layNew t es h x).2.1.led = t.led := by
  unfold layNew
  split
  · exact orStand_led _ _
  · rfl
theorem relay_led (t : SetTable) (es : Array (Int × Value)) (n : Nat) : (relayAll t es n).2.1.led = t.led ∧ (t.plain = false → (relayAll t es n).2.1.plain = false) := by
  unfold relayAll
  split
  · rename_i t' order e
    unfold SetTable.relaid SetTable.laid at e
    cases q : SetTable.layClean (SetTable.sizeAbove n - 1) (es.map (·.1)) with
    | none => rw [q] at e; cases e
    | some owner =>
      rw [q] at e
      have e := Option.some.inj e
      have e1 := congrArg Prod.fst e
      dsimp only at e1
      dsimp only
      split
      · exact ⟨by rw [← e1], fun hp => by rw [← e1]; exact hp⟩
      · exact ⟨rfl, fun _ => rfl⟩
  · exact ⟨rfl, fun _ => rfl⟩
def TSet (P : Program) (w : World) (h : Heap) (a : Addr) (zs : List Str) : Prop :=
  ∃ o es ep t, h.get? a = some o ∧ o.ExactSet ∧ o.data = .set es ep t ∧ ElemsOf (mixKind P w) es.toList ∧ (∃ vs, StrsAre (es.toList.map (·.2)) vs ∧ vs.Perm zs) ∧ zs.Nodup ∧ es.size < scanBound ∧ t.fits es.size = true ∧ t.led = !w.params.followText "set-order" ∧ (zs ≠ [] → t.plain = false)
theorem strs_perm {l l' : List Value} (p : l'.Perm l) : ∀ {vs : List Str}, StrsAre l vs → ∃ vs', StrsAre l' vs' ∧ vs'.Perm vs := fun {vs} h => by
  have all : ∀ v, v ∈ l' → ∃ x t, v = .str x t := fun v hv => h.all v (p.mem_iff.mp hv)
  refine ⟨l'.map strOf, strsAre_map l' all, ?_⟩
  rw [← h.strs]
  exact p.map strOf
theorem StrsAre.snoc : ∀ {l : List Value} {vs : List Str} (z : Str) (tk : Tok), StrsAre l vs → StrsAre (l ++ [.str z tk]) (vs ++ [z])
  | _, _, z, tk, .nil => .cons z tk .nil
  | _, _, z, tk, .cons x t h => .cons x t (StrsAre.snoc z tk h)
section
variable {P : Program} {w : World} {A : Around} {E : Value → Shared → Prop} {s : Shared} {a : Addr} {zs : List Str} {z : Str} {tk : Tok}
theorem key_str (z : Str) (tk : Tok) : (mixKind P w).is (.inr z) (.str z tk) = true := keyIs_str z tk
theorem TSet.len {h : Heap} (T : TSet P w h a zs) : ∃ o es ep t, h.get? a = some o ∧ o.data = .set es ep t ∧ es.size = zs.length := by
  obtain ⟨o, es, ep, t, h1, _, h3, _, ⟨vs, h5, h6⟩, _⟩ := T
  refine ⟨o, es, ep, t, h1, h3, ?_⟩
  have q1 := congrArg List.length h5.strs
  have q2 := h6.length_eq
  simp at q1
  omega
theorem ts_tail {es1 : Array (Int × Value)} {t2 : SetTable} {o : Obj} {es : Array (Int × Value)} {ep : Nat} {t : SetTable} {zs' : List Str} {wasDummy : Bool} {R : Option Bool → Shared → Prop} {g : Bool → Sem Unit} (hg : ∀ (b : Bool) (s₁ : Shared) (Q' : Unit → Shared → Prop), Q' () s₁ → wpAny (model P w) A (g b) Q' E s₁)
    (ho : s.heap.get? a = some o) (hex : o.ExactSet) (hd : o.data = .set es ep t) (hel : ElemsOf (mixKind P w) es1.toList) (hvs : ∃ vs, StrsAre (es1.toList.map (·.2)) vs ∧ vs.Perm zs') (nd : zs'.Nodup) (hb : es1.size < scanBound) (hf : t2.fits es1.size = true) (hl : t2.led = !w.params.followText "set-order") (hp : t2.plain = false)
    (h : ∀ h', Heap.SameBut a s.heap h' → TSet P w h' a zs' → R (some true) { s with heap := h' }) :
    wpAny (model P w) A (do
        storeSet a es1 t2
        if (!wasDummy && t2.tooFull) = true then do
            g (relayAll t2 es1 (SetTable.grown es1.size)).2.2
            storeSet a (relayAll t2 es1 (SetTable.grown es1.size)).1 (relayAll t2 es1 (SetTable.grown es1.size)).2.1
            pure (some true)
          else pure (some true)) R E s := by
  have put : ∀ (hh : Heap) (o : Obj) (es : Array (Int × Value)) (ep : Nat) (t : SetTable) (es' : Array (Int × Value)) (t' : SetTable), hh.get? a = some o → o.data = .set es ep t → (hh.update a (Obj.putSet es' t')).get? a = some { o with data := .set es' (ep + 1) t' } := fun hh o es ep t es' t' e1 e2 => by
    have := Heap.get?_update_self (Obj.putSet es' t') e1 (by rw [putSet_of es' t' e2]; rfl)
    rw [putSet_of es' t' e2] at this
    exact this
  refine wpAny_bind (wpAny_storeSet_of ho hd ?_ (fits_of_scanBound hb))
  have o1 := put s.heap o es ep t es1 t2 ho hd
  have sb1 := Heap.SameBut.update s.heap a (Obj.putSet es1 t2)
  split
  · have rp := relayAll_perm t2 es1 (SetTable.grown es1.size)
    have rf := relayAll_fits t2 es1 (SetTable.grown es1.size)
    obtain ⟨rl, rq⟩ := relay_led t2 es1 (SetTable.grown es1.size)
    generalize relayAll t2 es1 (SetTable.grown es1.size) = Rl at rp rf rl rq ⊢
    obtain ⟨es2, t3, gv⟩ := Rl
    dsimp only at rp rf rl rq ⊢
    have sz2 : es2.size = es1.size := by rw [← Array.length_toList, rp.length_eq, Array.length_toList]
    refine wpAny_bind (hg _ _ _ (wpAny_bind (wpAny_storeSet_of o1 rfl ?_ (fits_of_scanBound (by rw [sz2]; exact hb)))))
    obtain ⟨vs, v1, v2⟩ := hvs
    obtain ⟨vs', v3, v4⟩ := strs_perm (rp.map (·.2)) v1
    exact wpAny_pure (h _ (sb1.trans (Heap.SameBut.update _ a _)) ⟨_, es2, _, t3, put _ _ _ _ _ es2 t3 o1 rfl, hex, rfl, hel.perm rp, ⟨vs', v3, v4.trans v2⟩, nd, by rw [sz2]; exact hb, rf, by rw [rl]; exact hl, fun _ => rq hp⟩)
  · exact wpAny_pure (h _ sb1 ⟨_, es1, _, t2, o1, hex, rfl, hel, hvs, nd, hb, hf, hl, fun _ => hp⟩)
theorem mem_of {es : Array (Int × Value)} {vs zs : List Str} (hv : StrsAre (es.toList.map (·.2)) vs) (hp : vs.Perm zs) : (∃ e ∈ es.toList, (mixKind P w).is (.inr z) e.2 = true) ↔ z ∈ zs := by
  rw [← hp.mem_iff, ← hv.strs, List.map_map]
  constructor
  · rintro ⟨e, he, q⟩
    obtain ⟨x, t, ex⟩ := hv.all e.2 (List.mem_map.mpr ⟨e, he, rfl⟩)
    rw [ex] at q
    have q : keyIs (.inr z) (.str x t) = true := q
    rcases keyIs_shape q with ⟨i, t', e1, _⟩ | ⟨y, t', e1, e2⟩
    · cases e1
    · cases e1
      cases e2
      exact List.mem_map.mpr ⟨e, he, by show strOf e.2 = _; rw [ex]; rfl⟩
  · intro h
    obtain ⟨e, he, q⟩ := List.mem_map.mp h
    obtain ⟨x, t, ex⟩ := hv.all e.2 (List.mem_map.mpr ⟨e, he, rfl⟩)
    refine ⟨e, he, ?_⟩
    have q : strOf e.2 = z := q
    rw [ex] at q ⊢
    have q : x = z := q
    subst q
    exact key_str x t
theorem ts_add {Q : Bool → Shared → Prop} (T : TSet P w s.heap a zs) (hroom : zs.length + 1 < scanBound)
    (h : ∀ b h', Heap.SameBut a s.heap h' → TSet P w h' a (if z ∈ zs then zs else zs ++ [z]) → Q b { s with heap := h' }) :
    wpAny (model P w) A (setAddHashed a (.str z tk) ((mixKind P w).hash (.inr z))) Q E s := by
  have T0 := T
  obtain ⟨o, es, ep, t, ho, hex, hd, hel, ⟨vs, hv, hp⟩, nd, hb, hf, hl, hpl⟩ := T
  have sz0 : es.size = zs.length := by
    have q1 := congrArg List.length hv.strs
    have q2 := hp.length_eq
    simp at q1
    omega
  have hkey := key_str (P := P) (w := w) z tk
  have mem := mem_of (P := P) (w := w) (z := z) hv hp
  unfold setAddHashed setAddHashedIn
  refine wpAny_holding (wpAny_bind (wpAny_setState_of ho hd hf ?_))
  dsimp only
  rw [byScan_of (x := .str z tk) rfl hb hel, if_pos rfl]
  unfold setAddByScan
  refine wpAny_bind (wpAny_bind (wpAny_rule (wpAny_bind (wpAny_setScan_of hkey ho hd hf hel ?_))))
  cases hr : List.findIdx? (fun e => (mixKind P w).is (.inr z) e.2) es.toList with
  | some j =>
    obtain ⟨hj, hpj, _⟩ := List.findIdx?_eq_some_iff_getElem.mp hr
    have hz : z ∈ zs := mem.mp ⟨_, List.getElem_mem hj, hpj⟩
    have q := h false s.heap (Heap.SameBut.refl a s.heap) (by rw [if_pos hz]; exact T0)
    exact wpAny_pure (wpAny_pure q)
  | none =>
    have hz : z ∉ zs := fun hz => by
      obtain ⟨e, he, q⟩ := mem.mpr hz
      have := List.findIdx?_eq_none_iff.mp hr e he
      rw [q] at this
      cases this
    dsimp only
    have lp := layNew_perm t es ((mixKind P w).hash (.inr z)) (.str z tk)
    have lf := layNew_fits t es ((mixKind P w).hash (.inr z)) (.str z tk)
    have ll := lay_led t es ((mixKind P w).hash (.inr z)) (.str z tk)
    generalize layNew t es ((mixKind P w).hash (.inr z)) (.str z tk) = L at lp lf ll ⊢
    obtain ⟨es1, t1, wasDummy, gave⟩ := L
    dsimp only at lp lf ll ⊢
    rw [Array.toList_push] at lp
    have hel1 : ElemsOf (mixKind P w) es1.toList := (hel.push hkey rfl).perm lp
    have hb1 : es1.size < scanBound := by
      rw [← Array.length_toList, lp.length_eq, List.length_append, Array.length_toList, sz0]
      exact hroom
    have hvs : ∃ vs', StrsAre (es1.toList.map (·.2)) vs' ∧ vs'.Perm (zs ++ [z]) := by
      have q := lp.map (·.2)
      rw [List.map_append] at q
      obtain ⟨vs', v3, v4⟩ := strs_perm q (StrsAre.snoc z tk hv)
      exact ⟨vs', v3, v4.trans (hp.append_right [z])⟩
    have nd1 : (zs ++ [z]).Nodup := by
      rw [List.nodup_append]
      refine ⟨nd, by simp, fun x hx y hy => ?_⟩
      rw [List.mem_singleton.mp hy]
      rintro rfl
      exact hz hx
    have fin : ∀ h', Heap.SameBut a s.heap h' → TSet P w h' a (zs ++ [z]) → Q true { s with heap := h' } := fun h' q1 q2 => h true h' q1 (by rw [if_neg hz]; exact q2)
    have gw : ∀ (b : Bool) (s₁ : Shared) (Q' : Unit → Shared → Prop), Q' () s₁ → wpAny (model P w) A (match b with | true => rule "set.scan.the-table-gave-way" | false => pure ()) Q' E s₁ :=
      fun b s₁ Q' hq => by cases b <;> first | exact wpAny_pure hq | exact wpAny_rule hq
    refine wpAny_bind (gw _ _ _ ?_)
    cases c : t1.plain with
    | true =>
      rw [if_pos rfl]
      refine wpAny_bind ?_
      rw [hashByValue_scannable 8 (x := .str z tk) rfl]
      refine wpAny_pure ?_
      refine ts_tail (t2 := { t1 with plain := false }) (fun b s₁ Q' hq => gw b s₁ Q' hq) ho hex hd hel1 hvs nd1 hb1 (SetTable.fits_plain_off lf) (by show t1.led = _; rw [ll]; exact hl) rfl fun h' q1 q2 => ?_
      exact wpAny_pure (fin h' q1 q2)
    | false =>
      rw [if_neg Bool.false_ne_true]
      refine wpAny_bind (wpAny_pure ?_)
      refine ts_tail (t2 := t1) (fun b s₁ Q' hq => gw b s₁ Q' hq) ho hex hd hel1 hvs nd1 hb1 lf (by rw [ll]; exact hl) c fun h' q1 q2 => ?_
      exact wpAny_pure (fin h' q1 q2)
end
end DL
set_option Elab.async false
set_option linter.all false
set_option maxRecDepth 100000
set_option maxHeartbeats 4000000
namespace DL
open PySem PySem.Spec PyProof.Rows L2
def once (zs : List Str) (z : Str) : List Str := if z ∈ zs then zs else zs ++ [z]
def metS (val : Nat → Str) (i : Nat) : List Str := ((List.range i).map val).foldl once []
theorem metS_succ (val : Nat → Str) (i : Nat) : metS val (i + 1) = once (metS val i) (val i) := by
  unfold metS
  rw [List.range_succ, List.map_append, List.foldl_append]
  rfl
theorem metS_len (val : Nat → Str) : ∀ i, (metS val i).length ≤ i
  | 0 => Nat.le_refl _
  | i + 1 => by
    have ih := metS_len val i
    rw [metS_succ]
    unfold once
    split
    · omega
    · rw [List.length_append, List.length_singleton]
      omega
section
variable {P : Program} {w : World} {A : Around} {R : Result → Shared → Prop} {I : Addr} {fp wr : List Addr} {G : Array GenState → Array GenState → Prop} {n : Nat} {Pv : Nat → Value → Prop} {St : Nat → Shared → Prop}
theorem TSet.at {h h' : Heap} {a : Addr} {zs : List Str} (T : TSet P w h a zs) (k : ∀ o, h.get? a = some o → h'.get? a = some o) : TSet P w h' a zs := by
  obtain ⟨o, es, ep, t, ho, rest⟩ := T
  exact ⟨o, es, ep, t, k o ho, rest⟩
theorem ts_loop (W : WalksS P w A.in1 I fp wr G n Pv St) (S : Addr) (hSf : S ∉ fp) (val : Nat → Str) (hval : ∀ i v, Pv i v → ∃ t, v = .str (val i) t) (hb : n + 1 < scanBound) :
    ∀ (k i : Nat) (s : Shared), n - i = k → i ≤ n → St i s → TSet P w s.heap S (metS val i) → (∀ s', Moved (S :: wr) G s s' → TSet P w s'.heap S (metS val n) → R (.ok (.ret .none)) s') →
      codeAny (model P w) A (.builtin "set.update.loop" ⟨[.ref S, .ref I], []⟩) R s := by
  have nw : S ∉ wr := fun z => hSf (W.sub _ z)
  have sub : ∀ b ∈ wr, b ∈ S :: wr := fun b hb => List.mem_cons_of_mem _ hb
  intro k
  induction k with
  | zero =>
    intro i s hk hi hst T hR
    obtain rfl : i = n := by omega
    refine codeAny_builtin F.entry_set_update_loop ?_
    rw [Around.under_plainId F.plain_set_update_loop _]
    show wpAny _ A.in1 (pyNext (.ref I) >>= _) _ _ s
    refine wpAny_bind (W.done s _ _ hst fun s' hm => ?_)
    show wpAny _ A.in1 (ret Value.none) _ _ s'
    exact wpAny_pure (hR s' (hm.mono sub) (T.at fun o e => hm.heap S _ nw e))
  | succ k ih =>
    intro i s hk hi hst T hR
    refine codeAny_builtin F.entry_set_update_loop ?_
    rw [Around.under_plainId F.plain_set_update_loop _]
    show wpAny _ A.in1 (pyNext (.ref I) >>= _) _ _ s
    refine wpAny_bind (W.item i s _ _ (by omega) hst fun v s' hP hst' hm => ?_)
    obtain ⟨t, rfl⟩ := hval i v hP
    have T' : TSet P w s'.heap S (metS val i) := T.at fun o e => hm.heap S _ nw e
    show wpAny _ A.in1 (holding [Value.str (val i) t] (setAdd S (.str (val i) t)) >>= _) _ _ s'
    refine wpAny_bind (wpAny_holding ?_)
    unfold setAdd
    refine wpAny_holding (wpAny_bind ((mixKind P w).pyHash (k := .inr (val i)) (key_str _ _) ?_))
    have room : (metS val i).length + 1 < scanBound := by have := metS_len val i; omega
    refine ts_add (s := { s' with toks := s'.toks + 1 }) (z := val i) T' room fun b h' sb T2 => ?_
    have T3 : TSet P w h' S (metS val (i + 1)) := by rw [metS_succ]; exact T2
    refine wpAny_pure ⟨plainId_quiet F.plain_set_update_loop _, ih (i + 1) _ (by omega) (by omega) (W.frame _ s' _ _ hst' (Nat.le_succ _) fun b hb o e => ?_) T3 fun s'' hm'' T4 => ?_⟩
    · rw [sb.2 b (by rintro rfl; exact hSf hb)]
      exact e
    · refine hR s'' (Moved.trans W.gtrans ((hm.mono sub).then_heap (Nat.le_succ _) fun b o hb e => ?_) hm'') T4
      rw [sb.2 b (by rintro rfl; exact hb List.mem_cons_self)]
      exact e
end
end DL
set_option Elab.async false
set_option linter.all false
set_option maxRecDepth 100000
set_option maxHeartbeats 4000000
namespace DL
open PySem PySem.Spec PyProof.Rows L2
abbrev freshSet (w : World) : Obj := { cls := .type "set", dict := none, data := .set #[] 0 (.fresh 0 0 (!w.params.followText "set-order")) }
section
variable {P : Program} {w : World} {A : Around} {E : Value → Shared → Prop} {s : Shared}
theorem ts_fresh {h : Heap} {a : Addr} (e : h.get? a = some (freshSet w)) : TSet P w h a [] :=
  ⟨_, #[], 0, _, e, ⟨rfl, rfl, rfl⟩, rfl, fun x hx => by simp at hx, ⟨[], .nil, List.Perm.refl _⟩, List.nodup_nil, by decide, by rfl, rfl, fun q => absurd rfl q⟩
theorem code_newT (a : Value) {Q₁ : Value → Shared → Prop} (h : Q₁ (.ref s.heap.objs.size) { s with heap := s.heap.push (freshSet w) }) : codeAny (model P w) A (.call (.builtin "set.__new__") ⟨[.type "set", a], []⟩) (wants Q₁ E) s := by
  refine codeAny_of_tree ?_
  show wpAny _ A.in1 (do checkBuiltinCall "set.__new__" ⟨[.type "set", a], []⟩; again (.builtin "set.__new__" ⟨[.type "set", a], []⟩)) _ _ s
  refine wpAny_bind (wpAny_of_eq (PySem.F.newCall_set_1 a) (wpAny_pure ⟨plainId_quiet F.plain_set_new _, codeAny_builtin F.entry_set_new ?_⟩))
  rw [Around.under_plainId F.plain_set_new _]
  unfold Builtin.«set.__new__» Builtin.Frozenset.newClass
  have hsub := sub_set_self
  obtain ⟨hp, g, d, tk, os⟩ := s
  dsimp only
  wp_walk
  refine wpAny_askSetting (wpAny_pure ?_)
  dsimp only
  simp only [newObj]
  exact wpAny_bind (wpAny_alloc (wpAny_pure (wpAny_pure h)))
theorem ts_call {l : Addr} {items : Array Value} {zs : List Str} {Q : Value → Shared → Prop} (hh : A.handled = none) (hl : s.heap.IsList l items) (hi : StrsAre items.toList zs) (hb : items.size + 1 < scanBound)
    (h : ∀ (h' : Heap) (tk : Nat), TSet P w h' s.heap.objs.size (metS (fun i => zs.getD i "") items.size) → (∀ b o, b < s.heap.objs.size → s.heap.get? b = some o → h'.get? b = some o) → Q (.ref s.heap.objs.size) { s with heap := h', toks := tk }) :
    wpAny (model P w) A (call (.type "set") [.ref l]) Q E s := by
  obtain ⟨c, tl, hmro⟩ := F.called_set.mro
  have hmade := F.called_set.made
  have hsub := F.called_set.sub
  refine wpAny_call (codeAny_of_tree ?_)
  show wpAny _ _ (callAny (.type "set") _) _ _ _
  refine wpAny_pure ⟨Code.quiet_builtin _ (by decide +kernel), codeAny_builtin F.entry_type_call ?_⟩
  rw [Around.under_plain (weight_type_call_type "set" [.ref l] []) rfl]
  have h1 := F.called_set.notType
  have h2 := F.called_set.canCreate
  have hct := PySem.F.typeCall_set_1 (.ref l)
  repeat (any_goals (first | assumption | wp_step))
  refine codeAny_mono (code_newT (.ref l) (E := E) (Q₁ := fun obj s₁ => obj = .ref s.heap.objs.size ∧ s₁ = { s with heap := s.heap.push (freshSet w) }) ⟨rfl, rfl⟩) fun r s₁ hr => ?_
  cases r with
  | error e => exact hr
  | ok fl =>
    cases fl with
    | ret obj =>
      obtain ⟨rfl, rfl⟩ := hr
      have hS : (s.heap.push (freshSet w)).get? s.heap.objs.size = some (freshSet w) := Heap.get?_push_size _ rfl
      have hT : Shared.TypeIs { s with heap := s.heap.push (freshSet w) } (.ref s.heap.objs.size) "set" := ⟨_, hS, rfl⟩
      have hli := F.called_set.init.lookup
      have hbi := F.called_set.init.bind (.ref s.heap.objs.size)
      repeat (any_goals (first | assumption | wp_step))
      refine codeAny_mono (codeAny_call_builtin (R := wants (fun r s₂ => r = .none ∧ ∃ h' tk, s₂ = { s with heap := h', toks := tk } ∧ TSet P w h' s.heap.objs.size (metS (fun i => zs.getD i "") items.size) ∧
          (∀ b o, b < s.heap.objs.size → s.heap.get? b = some o → h'.get? b = some o)) E) F.called_set.init.plain F.entry_set_init (check_set_init_1 hT ?_)) fun r₂ s₂ hr₂ => ?_
      · obtain ⟨ol, hol, hcl, nl, hdl⟩ := hl
        obtain ⟨ocls, odict, odata, oslots⟩ := ol
        simp only at hcl hdl
        subst hcl; subst hdl
        have hol' : (s.heap.push (freshSet w)).get? l = some { cls := .type "list", dict := odict, data := .seq items nl, slots := oslots } := Heap.get?_push_of_some _ hol
        have hsls := PySem.F.sub_list_set
        have hslf := PySem.F.sub_list_frozenset
        have hne : (Value.type "list" == Value.type "dict") = false := by decide
        have hl1 : (s.heap.push (freshSet w)).IsList l items := ⟨_, hol', rfl, nl, rfl⟩
        unfold Builtin.«set.__init__» noKeywords Builtin.Frozenset.updateFrom
        generalize hPI : pyIter = PI
        wp_walk
        subst hPI
        refine wpAny_pyIter_list hl1 (wpAny_bind (wpAny_runValue ?_))
        have ltl : l < s.heap.objs.size := Heap.lt_size hol
        have hh3 : A.in1.in1.in1.handled = none := by simp [hh]
        have nI : l ≠ (s.heap.push (freshSet w)).objs.size := by rw [Heap.size_push]; exact Nat.ne_of_lt (Nat.lt_succ_of_lt ltl)
        have hSf : s.heap.objs.size ∉ [(s.heap.push (freshSet w)).objs.size, l] := by
          rw [Heap.size_push]
          simp only [List.mem_cons, List.mem_singleton, List.not_mem_nil, or_false, not_or]
          exact ⟨Nat.ne_of_lt (Nat.lt_succ_self _), Nat.ne_of_gt ltl⟩
        have hval : ∀ (i : Nat) (v : Value), items[i]? = some v → ∃ t, v = .str ((fun i => zs.getD i "") i) t := fun i v hv => by
          have hv : items.toList[i]? = some v := by rw [Array.getElem?_toList]; exact hv
          have hm : v ∈ items.toList := List.mem_of_getElem? hv
          obtain ⟨x, t, rfl⟩ := hi.all v hm
          refine ⟨t, ?_⟩
          have : zs[i]? = some x := by rw [← hi.strs, List.getElem?_map, hv]; rfl
          show _ = Value.str (zs.getD i "") t
          rw [List.getD_eq_getElem?_getD, this]
          rfl
        refine ts_loop ((Walks.list hh3 _ l nI items).toS) s.heap.objs.size hSf (fun i => zs.getD i "") hval hb (items.size - 0) 0 _ (by omega) (Nat.zero_le _) ⟨⟨_, Heap.get?_push_size _ rfl, rfl, rfl⟩, (hl1.push _)⟩ ?hS0 ?hR
        case hS0 => exact ts_fresh (Heap.get?_push_of_some _ hS)
        case hR =>
          intro s' hm T
          obtain ⟨h', g', d', tk', os'⟩ := s'
          have eg : g' = s.gens := hm.gens
          have ed : d' = s.drawn := hm.drawn
          have eo : os' = s.os := hm.os
          subst eg; subst ed; subst eo
          show wpAny _ _ _ _ _ _
          refine wpAny_pure ?_
          show wpAny _ _ (ret Value.none) _ _ _
          refine wpAny_pure ⟨rfl, h', tk', rfl, T, fun b o hb e => ?_⟩
          have n1 : b ≠ s.heap.objs.size := Nat.ne_of_lt hb
          have n2 : b ≠ (s.heap.push (freshSet w)).objs.size := by rw [Heap.size_push]; exact Nat.ne_of_lt (Nat.lt_succ_of_lt hb)
          exact hm.heap b o (by simp only [List.mem_cons, List.mem_singleton, List.not_mem_nil, or_false, not_or]; exact ⟨n1, n2⟩) (Heap.get?_push_of_some _ (Heap.get?_push_of_some _ e))
      · cases r₂ with
        | error e => exact hr₂
        | ok fl₂ =>
          cases fl₂ with
          | ret r =>
            obtain ⟨rfl, h', tk, rfl, T, hk'⟩ := hr₂
            repeat (any_goals (first | assumption | wp_step))
            exact h _ _ T hk'
          | _ => exact hr₂.elim
    | _ => exact hr.elim
end
end DL
set_option Elab.async false
set_option linter.all false
set_option maxRecDepth 100000
set_option maxHeartbeats 4000000
namespace DL
open PySem PySem.Spec PyProof.Rows L2
theorem si_owner : Manifest.owners.lookup (String.ofList "rotareti_tes".toList.reverse) = some Manifest.sig_set_iterator := by kernel_rfl
theorem si_slot_next : Slot "set_iterator" "__next__" "set_iterator.__next__" := .of (owner := "set_iterator") (n := "__next__") (by rw [typeLookup_type, builtinLookup_eq_fast]; kernel_rfl) (by decide +kernel) (by decide +kernel) (by decide +kernel) (by first | exact .inl (by decide +kernel) | exact .inr (by decide +kernel)) (by rw [isSubtype_type]; kernel_rfl)
theorem si_entry_next : entryFor table "set_iterator.__next__" = some Builtin.«set_iterator.__next__» := entryFor_of_tree (by kernel_rfl)
theorem si_args_next (a : Value) : argsOk "set_iterator.__next__" ⟨[a], []⟩ := by
  unfold argsOk
  rw [signature?_of (id := "set_iterator.__next__") (n := "__txen__".toList) (o := "rotareti_tes".toList) (by kernel_rfl) si_owner]
  kernel_rfl
theorem si_slot_iter : Slot "set_iterator" "__iter__" "set_iterator.__iter__" := .of (owner := "set_iterator") (n := "__iter__") (by rw [typeLookup_type, builtinLookup_eq_fast]; kernel_rfl) (by decide +kernel) (by decide +kernel) (by decide +kernel) (by first | exact .inl (by decide +kernel) | exact .inr (by decide +kernel)) (by rw [isSubtype_type]; kernel_rfl)
theorem si_args_iter (a : Value) : argsOk "set_iterator.__iter__" ⟨[a], []⟩ := by
  unfold argsOk
  rw [signature?_of (id := "set_iterator.__iter__") (n := "__reti__".toList) (o := "rotareti_tes".toList) (by kernel_rfl) si_owner]
  kernel_rfl
theorem si_entry_iter : entryFor table "set_iterator.__iter__" = some Builtin.«dict_keyiterator.__iter__» := entryFor_alias (id' := "dict_keyiterator.__iter__") (by kernel_rfl) (by first | rfl | decide +kernel | (unfold String.splitOn; simp +decide [String.splitOnAux])) (by decide +kernel) (by kernel_rfl)
theorem set_entry_iter : entryFor table "set.__iter__" = some Builtin.«frozenset.__iter__» := entryFor_alias (id' := "frozenset.__iter__") (by kernel_rfl) rfl (by decide +kernel) (by kernel_rfl)
end DL
set_option Elab.async false
set_option linter.all false
set_option maxRecDepth 100000
set_option maxHeartbeats 4000000
namespace DL
open PySem PySem.Spec PyProof.Rows L2
abbrev siObj (first : Value) (i : Nat) (S : Addr) (n ep : Nat) : Obj := { cls := .type "set_iterator", dict := none, data := .fields #[first, .int i 0, .ref S, .int n 0, .int ep 0], slots := #[] }
section
variable {P : Program} {w : World} {A : Around} {E : Value → Shared → Prop} {s : Shared} {I S T : Addr} {o : Obj} {es : Array (Int × Value)} {ep i : Nat} {t : SetTable} {places : Array Value}
theorem si_type {first : Value} {n : Nat} (h : s.heap.get? I = some (siObj first i S n ep)) : s.TypeIs (.ref I) "set_iterator" := ⟨_, h, rfl⟩
theorem siA_item {Q : Option Value → Shared → Prop} {p : Nat} {tk : Tok} {x : Int × Value} (hI : s.heap.get? I = some (siObj (.ref T) i S es.size ep)) (hT : IsTup s.heap T places) (hS : s.heap.get? S = some o) (hd : o.data = .set es ep t) (hf : t.fits es.size = true)
    (hp : places[i]? = some (.int p tk)) (hx : es[p]? = some x) (hQ : ∀ h', h'.get? I = some (siObj (.ref T) (i + 1) S es.size ep) → Heap.SameBut I s.heap h' → Q (some x.2) { s with heap := h' }) : wpAny (model P w) A (pyNext (.ref I)) Q E s := by
  have ty := si_type hI
  unfold pyNext
  refine wpAny_bind (wpAny_attempt (wpAny_callSpecial?_slot (name := Str.ofString "__next__") ty si_slot_next (wpAny_call_entry si_slot_next ty si_entry_next ?_ (si_args_next _))))
  unfold Builtin.«set_iterator.__next__»
  refine wpAny_bind (wpAny_pure ?_)
  refine wpAny_bind (wpAny_fieldsOf hI rfl ?_)
  show wpAny _ _ (setEntries S >>= _) _ _ s
  refine wpAny_bind (wpAny_setEntries_of hS hd hf ?_)
  rw [if_neg (by simp)]
  show wpAny _ _ (seqItems? (.ref T) >>= _) _ _ s
  refine wpAny_bind ?_
  obtain ⟨ot, ht1, ht2, nt, ht3⟩ := id hT
  unfold seqItems?
  refine wpAny_bind (wpAny_load ht1 ?_)
  rw [ht3]
  refine wpAny_pure ?_
  dsimp only
  rw [Int.toNat_natCast, hp]
  dsimp only
  rw [Int.toNat_natCast, Int.toNat_natCast]
  refine wpAny_bind ?_
  unfold setNextDrawn
  refine wpAny_bind (wpAny_setState_of hS hd hf ?_)
  dsimp only
  rw [if_neg (by simp)]
  rw [hx]
  refine wpAny_pure ?_
  refine wpAny_bind (wpAny_setField_rec hI (by simp) fun h' e sb => ?_)
  exact wpAny_pure ⟨_, rfl, wpAny_pure (hQ h' e sb)⟩
theorem stop_here {X : Fin → Shared → Prop} {Q : Option Value → Shared → Prop} (hh : A.handled = none) (h : ∀ h', (∀ b ob, s.heap.get? b = some ob → h'.get? b = some ob) → Q none { s with heap := h' }) :
    wpAny (model P w) A.in1 (newExc (.type "StopIteration") [] >>= fun e => raiseNew e) X (fun e s' => wpAny (model P w) A (isInstance e (.type "StopIteration") >>= fun b => if b = true then pure none else throw e) Q E s') s := by
  refine wpAny_bind ?_
  simp only [newExc, newTuple]
  refine wpAny_bind (wpAny_newObj_type ?_ (by size_fits))
  refine wpAny_bind (m := firstArgMember _ _) (wpAny_of_eq (a := Value.none) (by first | rfl | (simp only [firstArgMember]; rfl)) (wpAny_newObj_type ?_ (by size_fits)))
  simp only [raiseNew]
  refine wpAny_bind (wpAny_handled ?_)
  rw [show A.in1.handled = none from hh]
  refine wpAny_bind (wpAny_pure (wpAny_throw ?_))
  refine wpAny_bind (wpAny_isInstance (T := "StopIteration") (b := true) ⟨_, Heap.get?_push_size _ rfl, rfl⟩ isSubtype_stop (wpAny_pure (h _ fun b ob e => ?_)))
  exact Heap.get?_push_of_some _ (Heap.get?_push_of_some _ e)
theorem siA_done {Q : Option Value → Shared → Prop} (hh : A.handled = none) (hI : s.heap.get? I = some (siObj (.ref T) i S es.size ep)) (hT : IsTup s.heap T places) (hS : s.heap.get? S = some o) (hd : o.data = .set es ep t) (hf : t.fits es.size = true)
    (hp : places[i]? = none) (hQ : ∀ h', (∀ b ob, b ≠ I → s.heap.get? b = some ob → h'.get? b = some ob) → Q none { s with heap := h' }) : wpAny (model P w) A (pyNext (.ref I)) Q E s := by
  have ty := si_type hI
  unfold pyNext
  refine wpAny_bind (wpAny_attempt (wpAny_callSpecial?_slot (name := Str.ofString "__next__") ty si_slot_next (wpAny_call_entry si_slot_next ty si_entry_next ?_ (si_args_next _))))
  unfold Builtin.«set_iterator.__next__»
  refine wpAny_bind (wpAny_pure (wpAny_bind (wpAny_fieldsOf hI rfl ?_)))
  show wpAny _ _ (setEntries S >>= _) _ _ s
  refine wpAny_bind (wpAny_setEntries_of hS hd hf ?_)
  rw [if_neg (by simp)]
  show wpAny _ _ (seqItems? (.ref T) >>= _) _ _ s
  refine wpAny_bind ?_
  obtain ⟨ot, ht1, ht2, nt, ht3⟩ := id hT
  unfold seqItems?
  refine wpAny_bind (wpAny_load ht1 ?_)
  rw [ht3]
  refine wpAny_pure ?_
  dsimp only
  rw [Int.toNat_natCast, hp]
  refine wpAny_bind (wpAny_setField_rec hI (by simp) fun h1 e1 sb1 => ?_)
  refine wpAny_bind (wpAny_setField_rec (s := { s with heap := h1 }) e1 (by simp) fun h2 e2 sb2 => ?_)
  refine stop_here (s := { s with heap := h2 }) hh fun h' k => hQ h' fun b ob hb e => k b ob ?_
  rw [sb2.2 b hb]
  show h1.get? b = _
  rw [sb1.2 b hb]
  exact e
theorem siB_item {Q : Option Value → Shared → Prop} {x : Int × Value} (bt : w.params.followText "set-order" = true) (hI : s.heap.get? I = some (siObj (.int 0 0) i S es.size ep)) (hS : s.heap.get? S = some o) (hd : o.data = .set es ep t) (hf : t.fits es.size = true)
    (hx : (pickOrder (w.params.setOrder S ep) es)[i]? = some x) (hQ : ∀ h', h'.get? I = some (siObj (.int 0 0) (i + 1) S es.size ep) → Heap.SameBut I s.heap h' → Q (some x.2) { s with heap := h' }) : wpAny (model P w) A (pyNext (.ref I)) Q E s := by
  have ty := si_type hI
  unfold pyNext
  refine wpAny_bind (wpAny_attempt (wpAny_callSpecial?_slot (name := Str.ofString "__next__") ty si_slot_next (wpAny_call_entry si_slot_next ty si_entry_next ?_ (si_args_next _))))
  unfold Builtin.«set_iterator.__next__»
  refine wpAny_bind (wpAny_pure (wpAny_bind (wpAny_fieldsOf hI rfl ?_)))
  show wpAny _ _ (setEntries S >>= _) _ _ s
  refine wpAny_bind (wpAny_setEntries_of hS hd hf ?_)
  rw [if_neg (by simp)]
  show wpAny _ _ (setNext S 0 i ep >>= _) _ _ s
  refine wpAny_bind ?_
  unfold setNext
  refine wpAny_bind (wpAny_setState_of hS hd hf ?_)
  dsimp only
  unfold setsByText
  refine wpAny_bind (wpAny_bind (wpAny_askSetting (wpAny_pure ?_)))
  show wpAny _ _ (if w.params.followText "set-order" = true then _ else _) _ _ s
  rw [if_pos bt, if_neg (by simp)]
  refine wpAny_bind ?_
  unfold setWalk
  refine wpAny_bind (wpAny_setState_of hS hd hf ?_)
  dsimp only
  unfold setsByText
  refine wpAny_bind (wpAny_bind (wpAny_askSetting (wpAny_pure ?_)))
  show wpAny _ _ (if w.params.followText "set-order" = true then _ else _) _ _ s
  rw [if_pos bt]
  refine wpAny_bind (wpAny_askSetting (wpAny_pure (wpAny_pure ?_)))
  show wpAny _ _ (match ((pickOrder (w.params.setOrder S ep) es)[i]?).map fun e => (e.2, 0) with | some (x, next) => _ | none => _) _ _ s
  rw [hx]
  refine wpAny_bind (wpAny_setField_rec hI (by simp) fun h1 e1 sb1 => ?_)
  refine wpAny_bind (wpAny_setField_rec (s := { s with heap := h1 }) e1 (by simp) fun h2 e2 sb2 => ?_)
  exact wpAny_pure ⟨_, rfl, wpAny_pure (hQ h2 e2 (sb1.trans sb2))⟩
theorem siB_done {Q : Option Value → Shared → Prop} (hh : A.handled = none) (bt : w.params.followText "set-order" = true) (hI : s.heap.get? I = some (siObj (.int 0 0) i S es.size ep)) (hS : s.heap.get? S = some o) (hd : o.data = .set es ep t) (hf : t.fits es.size = true)
    (hx : (pickOrder (w.params.setOrder S ep) es)[i]? = none) (hQ : ∀ h', (∀ b ob, b ≠ I → s.heap.get? b = some ob → h'.get? b = some ob) → Q none { s with heap := h' }) : wpAny (model P w) A (pyNext (.ref I)) Q E s := by
  have ty := si_type hI
  unfold pyNext
  refine wpAny_bind (wpAny_attempt (wpAny_callSpecial?_slot (name := Str.ofString "__next__") ty si_slot_next (wpAny_call_entry si_slot_next ty si_entry_next ?_ (si_args_next _))))
  unfold Builtin.«set_iterator.__next__»
  refine wpAny_bind (wpAny_pure (wpAny_bind (wpAny_fieldsOf hI rfl ?_)))
  show wpAny _ _ (setEntries S >>= _) _ _ s
  refine wpAny_bind (wpAny_setEntries_of hS hd hf ?_)
  rw [if_neg (by simp)]
  show wpAny _ _ (setNext S 0 i ep >>= _) _ _ s
  refine wpAny_bind ?_
  unfold setNext
  refine wpAny_bind (wpAny_setState_of hS hd hf ?_)
  dsimp only
  unfold setsByText
  refine wpAny_bind (wpAny_bind (wpAny_askSetting (wpAny_pure ?_)))
  show wpAny _ _ (if w.params.followText "set-order" = true then _ else _) _ _ s
  rw [if_pos bt, if_neg (by simp)]
  refine wpAny_bind ?_
  unfold setWalk
  refine wpAny_bind (wpAny_setState_of hS hd hf ?_)
  dsimp only
  unfold setsByText
  refine wpAny_bind (wpAny_bind (wpAny_askSetting (wpAny_pure ?_)))
  show wpAny _ _ (if w.params.followText "set-order" = true then _ else _) _ _ s
  rw [if_pos bt]
  refine wpAny_bind (wpAny_askSetting (wpAny_pure (wpAny_pure ?_)))
  show wpAny _ _ (match ((pickOrder (w.params.setOrder S ep) es)[i]?).map fun e => (e.2, 0) with | some (x, next) => _ | none => _) _ _ s
  rw [hx]
  refine wpAny_bind (wpAny_setField_rec hI (by simp) fun h1 e1 sb1 => ?_)
  refine stop_here (s := { s with heap := h1 }) hh fun h' k => hQ h' fun b ob hb e => k b ob ?_
  rw [sb1.2 b hb]
  exact e
end
end DL
set_option Elab.async false
set_option linter.all false
set_option maxRecDepth 100000
set_option maxHeartbeats 4000000
namespace DL
open PySem PySem.Spec PyProof.Rows L2
theorem below_0 (j : Nat) : SetTable.below #[j] 0 = 0 := by simp [SetTable.below, SetTable.below.go]
theorem below_1 (j : Nat) : SetTable.below #[j] (j + 1) = 1 := by simp [SetTable.below, SetTable.below.go]
theorem below_n (slot : Nat) : SetTable.below #[] slot = 0 := by simp [SetTable.below, SetTable.below.go]
section
variable {P : Program} {w : World} {A : Around} {E : Value → Shared → Prop} {s : Shared} {I S T : Addr} {o : Obj} {es : Array (Int × Value)} {ep i slot : Nat} {t : SetTable}
theorem siC_next {Q : Option Value → Shared → Prop} (hh : A.handled = none) (bt : w.params.followText "set-order" = false) (hI : s.heap.get? I = some (siObj (.int slot 0) i S es.size ep)) (hS : s.heap.get? S = some o) (hd : o.data = .set es ep t) (hf : t.fits es.size = true) (hl : t.led = true) (h1 : es.size ≤ 1)
    (hsome : ∀ x j h', es[SetTable.below t.place slot]? = some x → t.place[SetTable.below t.place slot]? = some j → h'.get? I = some (siObj (.int ((j + 1 : Nat) : Int) 0) (i + 1) S es.size ep) → Heap.SameBut I s.heap h' → Q (some x.2) { s with heap := h' })
    (hnone : ∀ h', es[SetTable.below t.place slot]? = none → (∀ b ob, b ≠ I → s.heap.get? b = some ob → h'.get? b = some ob) → Q none { s with heap := h' }) : wpAny (model P w) A (pyNext (.ref I)) Q E s := by
  have ty := si_type hI
  have hpl : t.place.size = es.size := by
    simp only [SetTable.fits, Bool.and_eq_true, beq_iff_eq] at hf
    exact hf.1
  unfold pyNext
  refine wpAny_bind (wpAny_attempt (wpAny_callSpecial?_slot (name := Str.ofString "__next__") ty si_slot_next (wpAny_call_entry si_slot_next ty si_entry_next ?_ (si_args_next _))))
  unfold Builtin.«set_iterator.__next__»
  refine wpAny_bind (wpAny_pure (wpAny_bind (wpAny_fieldsOf hI rfl ?_)))
  show wpAny _ _ (setEntries S >>= _) _ _ s
  refine wpAny_bind (wpAny_setEntries_of hS hd hf ?_)
  rw [if_neg (by simp)]
  show wpAny _ _ (setNext S slot i ep >>= _) _ _ s
  refine wpAny_bind ?_
  unfold setNext
  refine wpAny_bind (wpAny_setState_of hS hd hf ?_)
  dsimp only
  unfold setsByText
  refine wpAny_bind (wpAny_bind (wpAny_askSetting (wpAny_pure ?_)))
  show wpAny _ _ (if w.params.followText "set-order" = true then _ else _) _ _ s
  rw [bt, if_neg Bool.false_ne_true]
  show wpAny _ _ (if (!t.plain && decide (es.size > 1)) = true then _ else _) _ _ s
  rw [if_neg (by rw [Bool.and_eq_true]; intro q; have := of_decide_eq_true q.2; omega)]
  refine wpAny_bind ?_
  show wpAny _ _ (if (!t.led && !es.isEmpty) = true then _ else _) _ _ s
  rw [hl, if_neg (by simp)]
  refine wpAny_pure (wpAny_pure ?_)
  cases e1 : es[SetTable.below t.place slot]? with
  | none =>
    dsimp only
    refine wpAny_bind (wpAny_setField_rec hI (by simp) fun h1 e1' sb1 => ?_)
    refine stop_here (s := { s with heap := h1 }) hh fun h' k => hnone h' e1 fun b ob hb e => k b ob ?_
    rw [sb1.2 b hb]
    exact e
  | some x =>
    have lt : SetTable.below t.place slot < es.size := (Array.getElem?_eq_some_iff.mp e1).1
    have e2 : t.place[SetTable.below t.place slot]? = some (t.place[SetTable.below t.place slot]'(by omega)) := Array.getElem?_eq_getElem (by omega)
    rw [e2]
    dsimp only
    refine wpAny_bind (wpAny_setField_rec hI (by simp) fun h1 e1' sb1 => ?_)
    refine wpAny_bind (wpAny_setField_rec (s := { s with heap := h1 }) e1' (by simp) fun h2 e2' sb2 => ?_)
    exact wpAny_pure ⟨_, rfl, wpAny_pure (hsome x _ h2 e1 e2 e2' (sb1.trans sb2))⟩
theorem si_self {first : Value} {n : Nat} {Q : Value → Shared → Prop} (hI : s.heap.get? I = some (siObj first i S n ep)) (h : Q (.ref I) s) : wpAny (model P w) A (pyIter (.ref I)) Q E s := by
  refine wpAny_pyIter_slot (si_type hI) si_slot_iter (wpAny_call_entry si_slot_iter (si_type hI) si_entry_iter ?_ (si_args_iter _))
  show wpAny _ _ (ret (.ref I)) _ _ s
  exact wpAny_pure ⟨_, rfl, "set_iterator", _, si_type hI, si_slot_next.lookup, h⟩
theorem walkA (hh : A.handled = none) (places : Array Value) (qs : List Nat) (ne1 : S ≠ I) (ne2 : T ≠ I) (hd : o.data = .set es ep t) (hf : t.fits es.size = true) (hpl : places.toList = qs.map fun q : Nat => Value.int q 0) (hq : ∀ q ∈ qs, q < es.size) (hn : qs.length = es.size) :
    Walks P w A I [I, S, T] [I] es.size (fun i v => ∃ q x, qs[i]? = some q ∧ es[q]? = some x ∧ v = x.2) (fun i h => h.get? I = some (siObj (.ref T) i S es.size ep) ∧ h.get? S = some o ∧ h.get? T = some { cls := .type "tuple", data := .seq places }) where
  sub := fun b hb => by simp at hb; simp [hb]
  frame := fun _ _ _ st hk => ⟨hk I (by simp) _ st.1, hk S (by simp) _ st.2.1, hk T (by simp) _ st.2.2⟩
  item := fun i s Q E hi st hQ => by
    have lt : i < qs.length := by omega
    have e1 : qs[i]? = some qs[i] := List.getElem?_eq_getElem lt
    have lq := hq _ (List.getElem_mem lt)
    have e2 : es[qs[i]]? = some es[qs[i]] := Array.getElem?_eq_getElem lq
    have e3 : places[i]? = some (.int (qs[i] : Nat) 0) := by rw [← Array.getElem?_toList, hpl, List.getElem?_map, e1]; rfl
    refine siA_item st.1 (places := places) ⟨_, st.2.2, rfl, 0, rfl⟩ st.2.1 hd hf e3 e2 fun h' g sb => ?_
    exact hQ _ h' s.toks ⟨_, _, e1, e2, rfl⟩ ⟨g, (sb.2 S ne1).trans st.2.1, (sb.2 T ne2).trans st.2.2⟩ fun b ob hb e => (sb.2 b (by simpa using hb)).trans e
  done := fun s Q E st hQ => by
    refine siA_done hh st.1 (places := places) ⟨_, st.2.2, rfl, 0, rfl⟩ st.2.1 hd hf ?_ fun h' k => hQ h' s.toks fun b ob hb e => k b ob (by simpa using hb) e
    rw [← Array.getElem?_toList, hpl, List.getElem?_map, List.getElem?_eq_none (by omega)]
    rfl
  self := fun _ _ _ _ st hQ => si_self st.1 hQ
theorem walkB (hh : A.handled = none) (bt : w.params.followText "set-order" = true) (ne1 : S ≠ I) (hd : o.data = .set es ep t) (hf : t.fits es.size = true) (hn : (pickOrder (w.params.setOrder S ep) es).size = es.size) :
    Walks P w A I [I, S] [I] es.size (fun i v => ∃ x, (pickOrder (w.params.setOrder S ep) es)[i]? = some x ∧ v = x.2) (fun i h => h.get? I = some (siObj (.int 0 0) i S es.size ep) ∧ h.get? S = some o) where
  sub := fun b hb => by simp at hb; simp [hb]
  frame := fun _ _ _ st hk => ⟨hk I (by simp) _ st.1, hk S (by simp) _ st.2⟩
  item := fun i s Q E hi st hQ => by
    have e1 : (pickOrder (w.params.setOrder S ep) es)[i]? = some ((pickOrder (w.params.setOrder S ep) es)[i]'(by omega)) := Array.getElem?_eq_getElem (by omega)
    refine siB_item bt st.1 st.2 hd hf e1 fun h' g sb => ?_
    exact hQ _ h' s.toks ⟨_, e1, rfl⟩ ⟨g, (sb.2 S ne1).trans st.2⟩ fun b ob hb e => (sb.2 b (by simpa using hb)).trans e
  done := fun s Q E st hQ => siB_done hh bt st.1 st.2 hd hf (Array.getElem?_eq_none (by omega)) fun h' k => hQ h' s.toks fun b ob hb e => k b ob (by simpa using hb) e
  self := fun _ _ _ _ st hQ => si_self st.1 hQ
theorem walkC (hh : A.handled = none) (bt : w.params.followText "set-order" = false) (ne1 : S ≠ I) (hd : o.data = .set es ep t) (hf : t.fits es.size = true) (hl : t.led = true) (h1 : es.size ≤ 1) :
    Walks P w A I [I, S] [I] es.size (fun i v => ∃ x, es[i]? = some x ∧ v = x.2) (fun i h => (∃ slot : Nat, h.get? I = some (siObj (.int (slot : Int) 0) i S es.size ep) ∧ SetTable.below t.place slot = i) ∧ h.get? S = some o) where
  sub := fun b hb => by simp at hb; simp [hb]
  frame := fun _ _ _ st hk => ⟨let ⟨slot, e, q⟩ := st.1; ⟨slot, hk I (by simp) _ e, q⟩, hk S (by simp) _ st.2⟩
  item := fun i s Q E hi st hQ => by
    obtain ⟨⟨slot, e, q⟩, hS⟩ := st
    have hpl : t.place.size = es.size := by
      simp only [SetTable.fits, Bool.and_eq_true, beq_iff_eq] at hf
      exact hf.1
    refine siC_next hh bt e hS hd hf hl h1 (fun x j h' g1 g2 g3 sb => ?_) fun h' g _ => ?_
    · rw [q] at g1 g2
      refine hQ _ h' s.toks ⟨x, g1, rfl⟩ ⟨⟨j + 1, g3, ?_⟩, (sb.2 S ne1).trans hS⟩ fun b ob hb e => (sb.2 b (by simpa using hb)).trans e
      obtain rfl : i = 0 := by omega
      have : t.place = #[j] := by
        have l1 : t.place.size = 1 := by omega
        apply Array.ext
        · simpa using l1
        · intro k k1 k2
          obtain rfl : k = 0 := by simp at k2; omega
          have := Array.getElem?_eq_getElem k1
          rw [g2] at this
          simpa using (Option.some.inj this).symm
      rw [this, below_1]
    · rw [q, Array.getElem?_eq_getElem hi] at g
      cases g
  done := fun s Q E st hQ => by
    obtain ⟨⟨slot, e, q⟩, hS⟩ := st
    refine siC_next hh bt e hS hd hf hl h1 (fun x j h' g1 g2 g3 sb => ?_) fun h' g k => hQ h' s.toks fun b ob hb e => k b ob (by simpa using hb) e
    rw [q, Array.getElem?_eq_none (Nat.le_refl _)] at g1
    cases g1
  self := fun _ _ _ _ st hQ => let ⟨⟨_, e, _⟩, _⟩ := st; si_self e hQ
end
end DL
set_option Elab.async false
set_option linter.all false
set_option maxRecDepth 100000
set_option maxHeartbeats 4000000
namespace DL
open PySem PySem.Spec PyProof.Rows L2
theorem take_perm {α : Type} : ∀ {l : List α} {n : Nat} (h : n < l.length), (l[n] :: l.eraseIdx n).Perm l
  | x :: l, 0, h => List.Perm.refl _
  | x :: l, n + 1, h => by
    have ih := take_perm (l := l) (n := n) (by simpa using h)
    rw [List.eraseIdx_cons_succ]
    exact (List.Perm.swap _ _ _).trans (ih.cons x)
theorem pick_go {α : Type} (next : Nat → Nat) : ∀ (fuel k : Nat) (left : List α) (out : Array α), left.length = fuel → (pickOrder.go next fuel k left out).toList.Perm (out.toList ++ left)
  | 0, k, left, out, h => by
    have : left = [] := List.length_eq_zero_iff.mp h
    subst this
    simp [pickOrder.go]
  | fuel + 1, k, left, out, h => by
    have lt : next k % left.length < left.length := Nat.mod_lt _ (by omega)
    unfold pickOrder.go
    rw [List.getElem?_eq_getElem lt]
    dsimp only
    refine (pick_go next fuel (k + 1) _ _ (by rw [List.length_eraseIdx_of_lt lt]; omega)).trans ?_
    rw [Array.toList_push, List.append_assoc]
    exact List.Perm.append_left _ (take_perm lt)
theorem pick_perm {α : Type} (next : Nat → Nat) (xs : Array α) : (pickOrder next xs).toList.Perm xs.toList := by
  unfold pickOrder
  have := pick_go next xs.size 0 xs.toList #[] (by simp)
  simpa using this
section
variable {P : Program} {w : World} {A : Around} {E : Value → Shared → Prop} {s : Shared} {I S T : Addr} {o : Obj} {es : Array (Int × Value)} {ep i slot : Nat} {t : SetTable}
theorem wp_chosen {src : Source} {n : Nat} {Q : Nat → Shared → Prop} (hn : n ≠ 0) (h : ∀ i d', i < n → Q i { s with drawn := d' }) : wpAny (model P w) A (choose src n) Q E s := fun Γ p hΓ => by
  unfold choose
  rw [Sem.wp_choose]
  refine ⟨hn, ?_⟩
  rw [Sem.wp_pure]
  exact h _ _ (Nat.mod_lt _ (by omega))
theorem draw_perm {α : Type} : ∀ (n : Nat) (xs : List α) (s : Shared) (Q : List α → Shared → Prop), xs.length = n → (∀ ys d', ys.Perm xs → Q ys { s with drawn := d' }) → wpAny (model P w) A (drawOrder n xs) Q E s
  | 0, xs, s, Q, hl, h => by
    have : xs = [] := List.length_eq_zero_iff.mp hl
    subst this
    unfold drawOrder
    exact wpAny_pure (h [] s.drawn (List.Perm.refl _))
  | n + 1, [], s, Q, hl, h => by cases hl
  | n + 1, x :: xs, s, Q, hl, h => by
    unfold drawOrder
    refine wpAny_bind (wp_chosen (by simp) fun i d' hi => ?_)
    rw [List.getElem?_eq_getElem hi]
    dsimp only
    refine wpAny_bind (draw_perm n ((x :: xs).eraseIdx i) _ _ (by rw [List.length_eraseIdx_of_lt hi]; simp at hl ⊢; omega) fun ys d'' hp => ?_)
    refine wpAny_pure (h _ d'' ?_)
    exact (List.Perm.cons _ hp).trans (take_perm hi)
theorem set_iter {Q : Value → Shared → Prop} (hS : s.heap.get? S = some o) (hx : o.ExactSet) (hd : o.data = .set es ep t) (hf : t.fits es.size = true) (hz : es.size ≤ 60)
    (hA : w.params.followText "set-order" = false → t.plain = false → 1 < es.size → ∀ (ys : List Nat) (d' : Drawn), ys.Perm (List.range es.size) → Q (.ref (s.heap.objs.size + 1)) { s with drawn := d', heap := (s.heap.push { cls := .type "tuple", data := .seq (ys.map fun q : Nat => Value.int q 0).toArray }).push (siObj (.ref s.heap.objs.size) 0 S es.size ep) })
    (hB : w.params.followText "set-order" = true ∨ t.plain = true ∨ es.size ≤ 1 → Q (.ref s.heap.objs.size) { s with heap := s.heap.push (siObj (.int 0 0) 0 S es.size ep) }) : wpAny (model P w) A (pyIter (.ref S)) Q E s := by
  have hT : s.TypeIs (.ref S) "set" := ⟨o, hS, hx.1⟩
  refine wpAny_pyIter_slot hT PySem.F.slot_set_iter (wpAny_call_entry PySem.F.slot_set_iter hT set_entry_iter ?_ (PySem.F.args_set_iter_1 _))
  unfold Builtin.«frozenset.__iter__» Builtin.Frozenset.slot0 slotArgs
  simp only [List.isEmpty_nil, Bool.not_true, Bool.false_eq_true, ↓reduceIte, bind_assoc, List.length_nil, bne_self_eq_false]
  unfold Builtin.Frozenset.addrOf Builtin.Frozenset.sizeOf
  refine wpAny_bind (wpAny_pure ?_)
  try dsimp only
  refine wpAny_bind (wpAny_pure ?_)
  refine wpAny_bind (wpAny_bind (wpAny_setEntries_of hS hd hf (wpAny_pure ?_)))
  refine wpAny_bind ?_
  unfold setDrawn setsByText
  refine wpAny_bind (wpAny_setState_of hS hd hf ?_)
  dsimp only
  refine wpAny_bind (wpAny_bind (wpAny_askSetting (wpAny_pure (wpAny_pure ?_))))
  show wpAny _ _ (if (!w.params.followText "set-order" && (!t.plain && decide (es.size > 1))) = true then _ else _) _ _ s
  by_cases c : (!w.params.followText "set-order" && (!t.plain && decide (es.size > 1))) = true
  · rw [if_pos c]
    simp only [Bool.and_eq_true, Bool.not_eq_true', decide_eq_true_eq] at c
    refine wpAny_bind (draw_perm _ _ _ _ (by simp) fun ys d' hp => ?_)
    have yl : ys.length = es.size := by rw [hp.length_eq, List.length_range]
    refine wpAny_bind ?_
    unfold newTuple
    refine wpAny_newObj_type ?_ ?_
    · refine wpAny_bind (wpAny_setEpoch_of (s := { s with drawn := d', heap := _ }) (Heap.get?_push_of_some _ hS) hd hf ?_)
      refine wpAny_bind ?_
      unfold newFields
      refine wpAny_newObj_type (wpAny_pure ⟨_, rfl, "set_iterator", _, ⟨_, Heap.get?_push_size _ rfl, rfl⟩, si_slot_next.lookup, ?_⟩) ?_
      · have := hA c.1 c.2.1 c.2.2 ys d' hp
        rw [show s.heap.objs.size + 1 = (s.heap.push { cls := .type "tuple", data := .seq (ys.map fun q : Nat => Value.int q 0).toArray }).objs.size by rw [Heap.size_push]] at this
        exact this
      · size_fits
    · show ((ys.map fun i : Nat => rawInt i).toArray).size ≤ sizeLine
      rw [List.size_toArray, List.length_map, yl, sizeLine_eq]
      omega
  · rw [if_neg c]
    refine wpAny_bind (wpAny_pure (wpAny_bind (wpAny_setEpoch_of hS hd hf (wpAny_bind ?_))))
    unfold newFields
    refine wpAny_newObj_type (wpAny_pure ⟨_, rfl, "set_iterator", _, ⟨_, Heap.get?_push_size _ rfl, rfl⟩, si_slot_next.lookup, ?_⟩) ?_
    · refine hB ?_
      cases b1 : w.params.followText "set-order" with
      | true => exact .inl rfl
      | false =>
        cases b2 : t.plain with
        | true => exact .inr (.inl rfl)
        | false =>
          rw [b1, b2] at c
          simp at c
          exact .inr (.inr c)
    · size_fits
end
end DL
set_option Elab.async false
set_option linter.all false
set_option maxRecDepth 100000
set_option maxHeartbeats 4000000
namespace DL
open PySem PySem.Spec PyProof.Rows L2
section
variable {P : Program} {w : World} {A : Around} {E : Value → Shared → Prop} {s : Shared} {I S T : Addr} {o : Obj} {es : Array (Int × Value)} {ep i slot : Nat} {t : SetTable}
theorem hint_set {Q : Bool → Shared → Prop} (hT : s.TypeIs (.ref S) "set") (h : Q false s) : wpAny (model P w) A (Builtin.List.listLengthHint (.ref S)) Q E s := by
  unfold Builtin.List.listLengthHint
  refine wpAny_bind (wpAny_specialOf hT PySem.F.slot_set_len.lookup ?_)
  dsimp only
  rw [show splitId "set.__len__" = some ("set", "__len__") by decide +kernel]
  dsimp only
  refine wpAny_bind (wpAny_isInstance (b := true) hT sub_set_self ?_)
  rw [if_neg (by simp), if_pos (by decide +kernel)]
  refine wpAny_bind (wpAny_typeOf hT ?_)
  exact wpAny_pure h
theorem acc_eq {Pv : Nat → Value → Prop} {acc : Array Value} {n : Nat} {L : List Value} (h : ItemsOf Pv acc n) (hL : L.length = n) (hP : ∀ j v, Pv j v → L[j]? = some v) : acc.toList = L := by
  refine List.ext_getElem? fun j => ?_
  rw [Array.getElem?_toList]
  cases e : acc[j]? with
  | some v => exact (hP j v (h.2 j v e)).symm
  | none =>
    have := Array.getElem?_eq_none_iff.mp e
    rw [List.getElem?_eq_none (by rw [hL, ← h.1]; exact this)]
structure WalkOk (P : Program) (w : World) (s s2 : Shared) (S I : Addr) (zs : List Str) (fp : List Addr) (n : Nat) (Pv : Nat → Value → Prop) (St : Nat → Heap → Prop) : Prop where
  walk : ∀ B : Around, B.handled = none → Walks P w B I fp [I] n Pv St
  st : St 0 s2.heap
  fps : ∀ b ∈ fp, b = S ∨ s.heap.objs.size ≤ b
  lt : ∀ b ∈ fp, b < s2.heap.objs.size
  ext : ∀ b ob, s.heap.get? b = some ob → s2.heap.get? b = some ob
  gens : s2.gens = s.gens
  os : s2.os = s.os
  n60 : n ≤ 60
  new : s.heap.objs.size ≤ I
  all : ∀ acc, ItemsOf Pv acc n → ∃ ss, StrsAre acc.toList ss ∧ ss.Perm zs
theorem vals_range {es : Array (Int × Value)} : ((List.range es.size).filterMap fun q => (es[q]?).map (·.2)) = es.toList.map (·.2) := by
  rw [← filterMap_getElem?_range es, List.map_filterMap]
theorem set_walk {zs : List Str} {Q : Value → Shared → Prop} (hh : True) (TS : TSet P w s.heap S zs) (hz : zs.length ≤ 60) (h : ∀ I s2 fp n Pv St, WalkOk P w s s2 S I zs fp n Pv St → Q (.ref I) s2) : wpAny (model P w) A (pyIter (.ref S)) Q E s := by
  obtain ⟨o, es, ep, t, ho, hex, hd, hel, ⟨vs, hv, hp⟩, nd, hb, hf, hl, hpl⟩ := TS
  have sz0 : es.size = zs.length := by
    have q1 := congrArg List.length hv.strs
    have q2 := hp.length_eq
    simp at q1
    omega
  have ltS : S < s.heap.objs.size := Heap.lt_size ho
  have fin : ∀ acc : Array Value, acc.toList.Perm (es.toList.map (·.2)) → ∃ ss, StrsAre acc.toList ss ∧ ss.Perm zs := fun acc q => by
    obtain ⟨ss, s1, s2⟩ := strs_perm q hv
    exact ⟨ss, s1, s2.trans hp⟩
  refine set_iter ho hex hd hf (by omega) (fun b1 b2 b3 ys d' yp => ?_) fun c => ?_
  · have yl : ys.length = es.size := by rw [yp.length_eq, List.length_range]
    have yq : ∀ q ∈ ys, q < es.size := fun q hq => List.mem_range.mp (yp.mem_iff.mp hq)
    refine h _ _ [s.heap.objs.size + 1, S, s.heap.objs.size] es.size _ _ ⟨fun B hB => walkA hB _ ys (Nat.ne_of_lt (Nat.lt_succ_of_lt ltS)) (Nat.ne_of_lt (Nat.lt_succ_self _)) hd hf rfl yq yl, ⟨?_, ?_, ?_⟩, ?_, ?_, ?_, rfl, rfl, by omega, Nat.le_succ _, fun acc ha => ?_⟩
    · have : s.heap.objs.size + 1 = (s.heap.push { cls := .type "tuple", data := .seq (ys.map fun q : Nat => Value.int q 0).toArray }).objs.size := by rw [Heap.size_push]
      rw [this]
      exact Heap.get?_push_size _ rfl
    · exact Heap.get?_push_of_some _ (Heap.get?_push_of_some _ ho)
    · exact Heap.get?_push_of_some _ (Heap.get?_push_size _ rfl)
    · intro b hb
      simp at hb
      rcases hb with rfl | rfl | rfl
      · exact .inr (Nat.le_succ _)
      · exact .inl rfl
      · exact .inr (Nat.le_refl _)
    · intro b hb
      simp at hb
      show b < (Heap.push _ _).objs.size
      rw [Heap.size_push, Heap.size_push]
      rcases hb with rfl | rfl | rfl
      · exact Nat.lt_succ_self _
      · exact Nat.lt_succ_of_lt (Nat.lt_succ_of_lt ltS)
      · exact Nat.lt_succ_of_lt (Nat.lt_succ_self _)
    · exact fun b ob e => Heap.get?_push_of_some _ (Heap.get?_push_of_some _ e)
    · have e : acc.toList = ys.filterMap fun q => (es[q]?).map (·.2) := by
        have ey : (ys.filterMap fun q => (es[q]?).map (·.2)) = ys.map fun q => (es.getD q (0, .none)).2 := by
          clear ha yp yl
          induction ys with
          | nil => rfl
          | cons y ys ih =>
            have ly := yq y List.mem_cons_self
            rw [List.filterMap_cons, List.map_cons, ih fun q hq => yq q (List.mem_cons_of_mem _ hq), Array.getElem?_eq_getElem ly]
            simp [Array.getD, ly]
        rw [ey]
        refine acc_eq ha (by rw [List.length_map, yl]) fun j v ⟨q, x, e1, e2, e3⟩ => ?_
        rw [List.getElem?_map, e1, e3]
        obtain ⟨l1, l2⟩ := Array.getElem?_eq_some_iff.mp e2
        simp [Array.getD, l1, l2]
      refine fin acc ?_
      rw [e, ← vals_range]
      exact yp.filterMap _
  · by_cases bt : w.params.followText "set-order" = true
    · have pp := pick_perm (w.params.setOrder S ep) es
      have ps : (pickOrder (w.params.setOrder S ep) es).size = es.size := by rw [← Array.length_toList, pp.length_eq, Array.length_toList]
      refine h _ _ [s.heap.objs.size, S] es.size _ _ ⟨fun B hB => walkB hB bt (Nat.ne_of_lt ltS) hd hf ps, ⟨Heap.get?_push_size _ rfl, Heap.get?_push_of_some _ ho⟩, ?_, ?_, fun b ob e => Heap.get?_push_of_some _ e, rfl, rfl, by omega, Nat.le_refl _, fun acc ha => ?_⟩
      · intro b hb
        simp at hb
        rcases hb with rfl | rfl
        · exact .inr (Nat.le_refl _)
        · exact .inl rfl
      · intro b hb
        simp at hb
        show b < (Heap.push _ _).objs.size
        rw [Heap.size_push]
        rcases hb with rfl | rfl
        · exact Nat.lt_succ_self _
        · exact Nat.lt_succ_of_lt ltS
      · have e : acc.toList = (pickOrder (w.params.setOrder S ep) es).toList.map (·.2) := by
          refine acc_eq ha (by rw [List.length_map, Array.length_toList, ps]) fun j v ⟨x, e1, e2⟩ => ?_
          rw [List.getElem?_map, Array.getElem?_toList, e1, e2]
          rfl
        refine fin acc ?_
        rw [e]
        exact pp.map _
    · have bf : w.params.followText "set-order" = false := by simpa using bt
      have e1 : es.size ≤ 1 := by
        rcases c with c | c | c
        · exact absurd c bt
        · by_cases q : zs = []
          · subst q
            have : es.size = 0 := sz0
            omega
          · rw [hpl q] at c
            cases c
        · exact c
      have lt : t.led = true := by rw [hl, bf]; rfl
      have b0 : SetTable.below t.place 0 = 0 := by
        have hps : t.place.size = es.size := by
          simp only [SetTable.fits, Bool.and_eq_true, beq_iff_eq] at hf
          exact hf.1
        match hpq : t.place, hps with
        | ⟨[]⟩, _ => exact below_n 0
        | ⟨[j]⟩, _ => exact below_0 j
        | ⟨_ :: _ :: _⟩, q => simp at q; omega
      refine h _ _ [s.heap.objs.size, S] es.size _ _ ⟨fun B hB => walkC hB bf (Nat.ne_of_lt ltS) hd hf lt e1, ⟨⟨0, Heap.get?_push_size _ rfl, b0⟩, Heap.get?_push_of_some _ ho⟩, ?_, ?_, fun b ob e => Heap.get?_push_of_some _ e, rfl, rfl, by omega, Nat.le_refl _, fun acc ha => ?_⟩
      · intro b hb
        simp at hb
        rcases hb with rfl | rfl
        · exact .inr (Nat.le_refl _)
        · exact .inl rfl
      · intro b hb
        simp at hb
        show b < (Heap.push _ _).objs.size
        rw [Heap.size_push]
        rcases hb with rfl | rfl
        · exact Nat.lt_succ_self _
        · exact Nat.lt_succ_of_lt ltS
      · have e : acc.toList = es.toList.map (·.2) := by
          refine acc_eq ha (by rw [List.length_map, Array.length_toList]) fun j v ⟨x, e1, e2⟩ => ?_
          rw [List.getElem?_map, Array.getElem?_toList, e1, e2]
          rfl
        refine fin acc ?_
        rw [e]
end
end DL
set_option Elab.async false
set_option linter.all false
set_option maxRecDepth 100000
set_option maxHeartbeats 4000000
namespace DL
open PySem PySem.Spec PyProof.Rows L2
section
variable {P : Program} {w : World} {A : Around} {E : Value → Shared → Prop} {s : Shared} {S : Addr} {zs : List Str}
theorem TSet.type {h : Heap} (T : TSet P w h S zs) : ∃ o, h.get? S = some o ∧ o.cls = .type "set" := let ⟨o, _, _, _, ho, hx, _⟩ := T; ⟨o, ho, hx.1⟩
theorem collect_set {Q : List Value → Shared → Prop} (hh : A.handled = none) (T : TSet P w s.heap S zs) (hz : zs.length ≤ 60)
    (h : ∀ s' vs ss, StrsAre vs ss → ss.Perm zs → (∀ b ob, s.heap.get? b = some ob → s'.heap.get? b = some ob) → s'.gens = s.gens → s'.os = s.os → Q vs s') : wpAny (model P w) A (collect (.ref S)) Q E s := by
  obtain ⟨oS, hoS, hcS⟩ := T.type
  have ltS : S < s.heap.objs.size := Heap.lt_size hoS
  have neL : s.heap.objs.size ≠ S := Nat.ne_of_gt ltS
  unfold collect
  refine wpAny_bind (wpAny_runValue (codeAny_builtin PySem.F.entry_proto_collect ?_))
  rw [Around.under_plainId PySem.F.plain_proto_collect _]
  show wpAny _ A.in1 (newList [] >>= fun l => again (.builtin "list.__iadd__" ⟨[l, .ref S], []⟩)) _ _ s
  refine wpAny_bind (wpAny_newObj_type ?_)
  refine wpAny_pure ⟨plainId_quiet PySem.F.plain_list_iadd _, codeAny_builtin PySem.F.entry_list_iadd ?_⟩
  rw [Around.under_plainId PySem.F.plain_list_iadd _]
  obtain ⟨h1, eh1⟩ : ∃ h1, h1 = s.heap.push { cls := .type "list", data := .seq ([] : List Value).toArray } := ⟨_, rfl⟩
  rw [← eh1]
  have k1 : ∀ b ob, s.heap.get? b = some ob → h1.get? b = some ob := fun b ob e => by rw [eh1]; exact Heap.get?_push_of_some _ e
  have hL1 : h1.get? s.heap.objs.size = some { cls := .type "list", data := .seq ([] : List Value).toArray } := by rw [eh1]; exact Heap.get?_push_size _ rfl
  have sz1 : h1.objs.size = s.heap.objs.size + 1 := by rw [eh1, Heap.size_push]
  have T1 : TSet P w h1 S zs := T.at fun ob e => k1 S ob e
  have hT1 : Shared.TypeIs { s with heap := h1 } (.ref S) "set" := ⟨oS, k1 S oS hoS, hcS⟩
  show wpAny _ A.in1 (Builtin.List.listExtendWith (.ref s.heap.objs.size) (.ref S) (.ref s.heap.objs.size)) _ _ _
  unfold Builtin.List.listExtendWith
  refine wpAny_bind (wpAny_typeOf hT1 ?_)
  have c1 : Builtin.List.listSameRef (.ref s.heap.objs.size) (.ref S) = false := by simp [Builtin.List.listSameRef, neL]
  rw [c1, if_neg (by decide)]
  refine wpAny_bind (set_walk (s := { s with heap := h1 }) True.intro T1 hz fun I s2 fp n Pv St W => ?_)
  have hT2 : s2.TypeIs (.ref S) "set" := ⟨oS, W.ext S oS (k1 S oS hoS), hcS⟩
  refine wpAny_bind (wpAny_holding (hint_set hT2 ?_))
  rw [if_pos (by decide +kernel)]
  refine wpAny_bind (wpAny_rule ?_)
  have hL2 : s2.heap.get? s.heap.objs.size = some { cls := .type "list", data := .seq ([] : List Value).toArray } := W.ext _ _ hL1
  refine wpAny_bind ?_
  show wpAny _ A.in1 (updateSeq s.heap.objs.size (·.push .none) >>= fun _ => updateSeq s.heap.objs.size (·.pop)) _ _ _
  refine wpAny_bind (wpAny_updateSeq hL2 rfl ?_)
  have hL3 := Heap.get?_update_self (Obj.mapSeq (·.push Value.none)) hL2 rfl
  refine wpAny_updateSeq hL3 rfl ?_
  have hL4 := Heap.get?_update_self (Obj.mapSeq (·.pop)) hL3 rfl
  have nf : s.heap.objs.size ∉ fp := fun q => by
    rcases W.fps _ q with e | e
    · exact neL e
    · have e : h1.objs.size ≤ s.heap.objs.size := e
      rw [sz1] at e
      exact absurd e (Nat.not_succ_le_self _)
  have oth : ∀ b ob, b ≠ s.heap.objs.size → s2.heap.get? b = some ob → ((s2.heap.update s.heap.objs.size (Obj.mapSeq (·.push Value.none))).update s.heap.objs.size (Obj.mapSeq (·.pop))).get? b = some ob := fun b ob hb e => (Heap.get?_update_other _ _ (Ne.symm hb)).trans ((Heap.get?_update_other _ _ (Ne.symm hb)).trans e)
  have WS := (W.walk A.in1 (by simp [hh])).toS
  have n1 : n ≤ sizeLine := Nat.le_trans W.n60 (by rw [sizeLine_eq]; decide)
  have st2 := (W.walk A.in1 (by simp [hh])).frame 0 s2.heap _ W.st fun b hb ob e => oth b ob (by rintro rfl; exact nf hb) e
  refine wpAny_pure ⟨plainId_quiet PySem.F.plain_extend_loop _, codeAny_extend_loopS WS n1 _ nf _ n 0 _ _ _ rfl (Nat.zero_le _) st2 hL4 (ItemsOf.nil Pv) fun s' acc' c' hm hS' hacc => ?_⟩
  show wpAny _ A (load s.heap.objs.size >>= _) _ _ s'
  refine wpAny_bind (wpAny_load hS' ?_)
  obtain ⟨ss, q1, q2⟩ := W.all acc' hacc
  refine wpAny_pure (h s' acc'.toList ss q1 q2 (fun b ob e => hm.heap b ob ?_ (oth b ob ?_ (W.ext b ob (k1 b ob e)))) (hm.gens.trans W.gens) (hm.os.trans W.os))
  · intro q
    rcases List.mem_cons.mp q with q | q
    · exact absurd (Heap.lt_size e) (by rw [q]; exact Nat.lt_irrefl _)
    · have q : b = I := by simpa using q
      have l1 := Heap.lt_size e
      have l2 : h1.objs.size ≤ I := W.new
      rw [sz1] at l2
      rw [q] at l1
      exact absurd (Nat.lt_of_lt_of_le l1 (Nat.le_trans (Nat.le_succ _) l2)) (Nat.lt_irrefl _)
  · intro q
    exact absurd (Heap.lt_size e) (by rw [q]; exact Nat.lt_irrefl _)
theorem sorted_set {Q : Value → Shared → Prop} (hh : A.handled = none) (T : TSet P w s.heap S zs) (hz : zs.length ≤ 60)
    (h : ∀ (s' : Shared) (vs : List Value) (ss : List Str) (e : Nat) (L : Addr), StrsAre vs ss → ss.Perm zs → sortedS ss = true → S < L → s'.heap.get? L = some (seqObj "list" vs.toArray e) → (∀ b ob, s.heap.get? b = some ob → s'.heap.get? b = some ob) → s'.gens = s.gens → s'.os = s.os → Q (.ref L) s') :
    wpAny (model P w) A (call (.builtin "sorted") [.ref S]) Q E s := by
  refine Calls.call_function_entry kind_sorted plain_sorted entry_sorted (args_sorted1 _) ?_
  unfold Builtin.«sorted»
  refine wpAny_bind (m := checkCount "sorted" 1 1 _) (wpAny_pure ?_)
  refine wpAny_bind (collect_set (by simp [hh]) T hz fun s1 vs ss hS hp k1 g1 o1 => ?_)
  have vl : vs.length < 64 := by
    have q1 := congrArg List.length hS.strs
    have q2 := hp.length_eq
    simp at q1
    omega
  refine wpAny_bind (wpAny_newList ?_)
  obtain ⟨h2, eh2⟩ : ∃ h2, h2 = s1.heap.push (seqObj "list" vs.toArray 0) := ⟨_, rfl⟩
  have hoL : h2.get? s1.heap.objs.size = some (seqObj "list" vs.toArray 0) := by rw [eh2]; exact Heap.get?_push_size _ rfl
  show wpAny _ _ _ _ _ { s1 with heap := s1.heap.push (seqObj "list" vs.toArray 0) }
  rw [← eh2]
  refine wpAny_bind (wpAny_holding (wpAny_call_entry slot_list_sort ⟨_, hoL, rfl⟩ entry_list_sort (list_sort_treeK strKind_oneLt (s := { s1 with heap := h2 }) hoL hS.keysOf (fun v₁ v₂ rest e => keyKind_strs (by rw [← e]; exact hS)) vl fun st' a1 a2 => ⟨_, rfl, ?_⟩) (args_list_sort _)))
  obtain ⟨ss', b1, b2, b3⟩ := sorted_out_str hS a1 a2
  obtain ⟨e, he⟩ := sortedHeap_at (h := h2) (a := s1.heap.objs.size) (vs := vs) (n := 0) (out := (arrOf st').map (·.2)) hoL
  obtain ⟨oS, hoS, _⟩ := T.type
  have ltS : S < s1.heap.objs.size := Heap.lt_size (k1 S oS hoS)
  refine wpAny_pure ⟨_, rfl, h _ _ ss' e s1.heap.objs.size b1 (b2.trans hp) b3 ltS (by rw [Array.toArray_toList]; exact he) (fun b ob hb => ?_) g1 o1⟩
  have lb : b < s1.heap.objs.size := Heap.lt_size (k1 b ob hb)
  show (sortedHeap h2 _ _ _).get? b = _
  rw [sortedHeap_old (Nat.ne_of_lt lb) (by rw [eh2, Heap.size_push]; exact Nat.lt_succ_of_lt lb), eh2]
  exact Heap.get?_push_of_some _ (k1 b ob hb)
end
end DL
set_option Elab.async false
set_option linter.all false
set_option maxRecDepth 100000
set_option maxHeartbeats 4000000
namespace DL
open PySem PySem.Spec PyProof.Rows L2
theorem boot_set_ : bootBuiltins "set" = some (.type "set") := by decide +kernel
theorem inv_like {X : Cx} {pins : List (Addr × Obj)} {σ : L2.St} {H : Hp} {s s' : Shared} (I : Inv X pins σ H s) (e1 : s'.heap = s.heap) (e2 : s'.gens = s.gens) (e3 : s'.os = s.os) : Inv X pins σ H s' := by
  obtain ⟨h, g, d, tk, o⟩ := s
  obtain ⟨h', g', d', tk', o'⟩ := s'
  dsimp only at e1 e2 e3
  subst e1; subst e2; subst e3
  exact ⟨I.ok, I.os, I.bare, I.base, I.loc, I.cell, I.free, I.freeC, I.pin, I.hok, I.len⟩
def onceS (zs : List Str) : List Str := zs.foldl once []
theorem metS_all (zs : List Str) : metS (fun i => zs.getD i "") zs.length = onceS zs := by
  unfold metS onceS
  congr 1
  refine List.ext_getElem? fun i => ?_
  rw [List.getElem?_map]
  by_cases h : i < zs.length
  · rw [List.getElem?_range h, List.getElem?_eq_getElem h]
    simp [List.getD_eq_getElem?_getD, List.getElem?_eq_getElem h]
  · rw [List.getElem?_eq_none (by simpa using h), List.getElem?_eq_none (by omega)]
    rfl
theorem once_mem {zs : List Str} {x z : Str} : x ∈ once zs z ↔ x ∈ zs ∨ x = z := by
  unfold once
  split
  · rename_i h
    constructor
    · exact .inl
    · rintro (q | rfl)
      · exact q
      · exact h
  · simp
theorem once_nodup {zs : List Str} {z : Str} (h : zs.Nodup) : (once zs z).Nodup := by
  unfold once
  split
  · exact h
  · rename_i q
    rw [List.nodup_append]
    refine ⟨h, by simp, fun x hx y hy => ?_⟩
    rw [List.mem_singleton.mp hy]
    rintro rfl
    exact q hx
theorem onceS_from : ∀ (zs acc : List Str), acc.Nodup → (zs.foldl once acc).Nodup ∧ (∀ x, x ∈ zs.foldl once acc ↔ x ∈ acc ∨ x ∈ zs) ∧ (zs.foldl once acc).length ≤ acc.length + zs.length
  | [], acc, h => ⟨h, by simp, by simp⟩
  | z :: zs, acc, h => by
    obtain ⟨h1, h2, h3⟩ := onceS_from zs (once acc z) (once_nodup h)
    refine ⟨h1, fun x => ?_, ?_⟩
    · rw [List.foldl_cons, h2, once_mem, List.mem_cons]
      constructor
      · rintro ((q | q) | q)
        · exact .inl q
        · exact .inr (.inl q)
        · exact .inr (.inr q)
      · rintro (q | q | q)
        · exact .inl (.inl q)
        · exact .inl (.inr q)
        · exact .inr q
    · have : (once acc z).length ≤ acc.length + 1 := by
        unfold once
        split <;> simp
      rw [List.foldl_cons, List.length_cons]
      omega
theorem onceS_ok (zs : List Str) : (onceS zs).Nodup ∧ (∀ x, x ∈ onceS zs ↔ x ∈ zs) ∧ (onceS zs).length ≤ zs.length := by
  obtain ⟨h1, h2, h3⟩ := onceS_from zs [] List.nodup_nil
  exact ⟨h1, fun x => by unfold onceS; rw [h2]; simp, by simpa [onceS] using h3⟩
section
variable {X : Cx} {e : Expr} {f : DE} {pos p p2 pos2 : Pos}
@[simp] def dSortSet (f : DE) : DE := fun d m Q => f d m fun x m1 => ∃ zs : List Str, x = .dat (.list (zs.map .str)) ∧ zs.length ≤ 60 ∧ ∀ ys : List Str, ys.Perm (onceS zs) → PyProof.Rows.sortedS ys = true → Q (.dat (.list (ys.map .str))) m1
theorem le_sortSet (hc : X.calm = true) (hg : Gl X "sorted") (hm : X.mg "sorted" = none) (hg2 : Gl X "set") (hm2 : X.mg "set" = none) (he : PE X e (LE X.K f)) (hs : starEach [e] X.env = [(false, eval e X.env)] := by rfl)
    (hs2 : starEach [.Call (.Name "set" p2) [e] [] pos2] X.env = [(false, eval (.Call (.Name "set" p2) [e] [] pos2) X.env)] := by rfl) : PE X (.Call (.Name "sorted" p) [.Call (.Name "set" p2) [e] [] pos2] [] pos) (LE X.K (dSortSet f)) := by
  intro pins s σ H Q I h
  obtain ⟨Z, d, m, R, ok, rs, h, k⟩ := h
  have hA := pa_cons (X := X) he pa_nil (by rw [hs]; rfl) pos2 pins s σ H (fun vs H1 => ∃ (zs : List Str) (m1 : Mu) (a : Addr), vs = [V.ref a] ∧ SqL X.K H1 a (zs.map V.str) ∧ zs.length ≤ 60 ∧ (∀ ys : List Str, ys.Perm (onceS zs) → PyProof.Rows.sortedS ys = true → R (.dat (.list (ys.map .str))) m1) ∧ Ext X.K Z m H m1 H1 ∧ Ok X.K Z m1 H1) I ⟨Z, d, m, _, ok, rs, h, fun x m1 v H1 ⟨zs, ex, hn, q⟩ e1 ok1 rd => by
    subst ex
    simp only [RD, RP] at rd
    obtain ⟨a, vs, rfl, _, h1, h2⟩ := rd
    cases rps_strs h2
    exact ⟨zs, m1, a, rfl, h1, hn, q, e1, ok1⟩⟩
  refine Call_ (ld_blt I hg hm boot_sorted_ (PyProof.Rows.callWith_builtin1 ?_ hs2 rfl))
  rw [hs2]
  show wpAny _ _ (spliced ((false, eval (.Call (.Name "set" p2) [e] [] pos2) X.env) :: [])) _ _ s
  refine Calls.spliced_cons (Call_ (ld_blt I hg2 hm2 boot_set_ (PyProof.Rows.callWith_type1 (thn hA fun us s1 ⟨vs, H1, I1, r1, q1⟩ => ?_) hs rfl)))
  obtain ⟨zs, m1, a, ev, hq, hn, q, e1, ok1⟩ := q1
  subst ev
  obtain ⟨u, rfl, ru⟩ := vals1 r1
  obtain rfl : u = Value.ref a := ru
  obtain ⟨its, r', pl, hz⟩ := I1.list hq
  have hlen := r'.length
  rw [List.length_map] at hlen
  have hsb : its.toArray.size + 1 < scanBound := by
    rw [List.size_toArray, ← hlen]
    unfold scanBound
    omega
  refine ts_call (I1.ok.hd hc) pl.isList (strs_vals r') hsb fun h' tk T kp => ?_
  have em : metS (fun i => zs.getD i "") its.toArray.size = onceS zs := by rw [List.size_toArray, ← hlen]; exact metS_all zs
  rw [em] at T
  obtain ⟨on1, on2, on3⟩ := onceS_ok zs
  refine Calls.spliced_nil ?_
  refine sorted_set (s := { s1 with heap := h', toks := tk }) (I1.ok.hd hc) T (by omega) fun s' vs' ys e' L hS hp hs' lt hL k2 g2 o2 => ?_
  have hv := vals_strs hS
  have hvl := hv.length
  have hpl := hp.length_eq
  rw [List.length_map] at hvl
  have hle : s1.heap.objs.size ≤ L := Nat.le_of_lt lt
  have hf : H1 L = none := I1.hok.fresh hle
  have kk : ∀ b ob, s1.heap.get? b = some ob → s'.heap.get? b = some ob := fun b ob q => k2 b ob (kp b ob (Heap.lt_size q) q)
  have I2 := I1.laid (t' := s'.toks) (h' := s'.heap) (a := L) (o := .lst (ys.map V.str)) kk hle ⟨by rw [List.length_map, sizeLine_eq]; omega, vs', e', hv, hL⟩
  have I3 : Inv X pins σ (upd H1 L (.lst (ys.map V.str))) s' := inv_like I2 rfl g2 o2
  have sm : Same H1 (upd H1 L (.lst (ys.map V.str))) := same_new hf
  refine ⟨.ref L, _, I3, rfl, k _ m1 _ _ (q ys hp hs') (e1.trans (ok1.ext sm)) (ok1.grow sm) ?_⟩
  simp only [RD, RP]
  exact ⟨L, _, rfl, ok_none ok1 hf, .inl (.inl upd_same), strs_rps ys⟩
end
end DL
set_option Elab.async false
set_option linter.all false
set_option maxRecDepth 100000
set_option maxHeartbeats 4000000
namespace DL
open PySem PySem.Spec PyProof.Rows L2
def Its (z : Str) : It := ⟨fun i _ => i < z.cps.size, fun i H v H' => H' = H ∧ ∃ c, z.cps[i]? = some c ∧ v = .str ⟨#[c]⟩, fun i _ => i = z.cps.size⟩
theorem turn_str {P : Program} {w : World} {K : PySem.W.Frag} {tg : Expr} (it : Addr) (z : Str) (t : Tok) (ty : String) (hty : ty = "str_ascii_iterator" ∨ ty = "str_iterator") : Turn P w K tg (Its z) [it] it (fun i h => h.IsStrIter it ty z t i) where
  mem := by simp
  obj := fun i h st b hb => by
    have e : b = it := by simpa using hb
    subst e
    obtain ⟨o, e, _, d⟩ := st
    exact ⟨o, e, fun v q => by rw [d] at q; cases q⟩
  keep := fun i h h' st k => by
    obtain ⟨o, e, q⟩ := st
    exact ⟨o, k it (by simp) o e, q⟩
  item := by
    intro X hP hw hK hc i pins s σ H E I hf st hg
    subst hP hw hK
    have hg : i < z.cps.size := hg
    obtain ⟨f0, f1, f2, f3, f4, f5⟩ := hf it (by simp)
    have hx : z.cps[i]? = some z.cps[i] := Array.getElem?_eq_getElem hg
    have fin : ∀ h', h'.IsStrIter it ty z t (i + 1) → Heap.SameBut it s.heap h' → ∃ u, some (Value.str ⟨#[z.cps[i]]⟩ s.toks) = some u ∧ wpAny (model X.prog X.w) X.A (letOwnedTupleGo tg (.ref it) u) (fun _ s2 => ∃ x H', Inv X pins σ H' s2 ∧ RelV x u ∧ (Its z).yld i H x H' ∧ s2.heap.IsStrIter it ty z t (i + 1) ∧ ∀ b ∈ [it], H' b = none) E { s with heap := h', toks := s.toks + 1 } := fun h' st' sb => by
      have I1 : Inv X pins σ H { s with heap := h', toks := s.toks + 1 } := I.turned (fun b o hb e => (sb.2 b hb).trans e) f0 f1 f3 f4 f5
      obtain ⟨o, e, c, d⟩ := id st'
      refine ⟨_, rfl, go_of (s := { s with heap := h', toks := s.toks + 1 }) e c d (by rcases hty with rfl | rfl <;> decide) ⟨.str ⟨#[z.cps[i]]⟩, H, I1, ⟨_, rfl⟩, ⟨rfl, _, hx, rfl⟩, st', fun b hb => (hf b hb).1⟩⟩
    rcases hty with rfl | rfl
    · exact wpAny_pyNext_ascii_item st hx fun h' st' sb => fin h' st' sb
    · exact wpAny_pyNext_wide_item st hx fun h' st' sb => fin h' st' sb
  done := by
    intro X hP hw hK hc i pins s σ H E I hf st hg
    subst hP hw hK
    have hg : i = z.cps.size := hg
    obtain ⟨f0, f1, f2, f3, f4, f5⟩ := hf it (by simp)
    rcases hty with rfl | rfl
    · exact wpAny_pyNext_ascii_end (I.ok.hd hc) st (by simp [hg]) fun h' eb => ⟨rfl, I.turned (t' := s.toks) (fun b o hb e => eb b o hb e) f0 f1 f3 f4 f5⟩
    · exact wpAny_pyNext_wide_end (I.ok.hd hc) st (by simp [hg]) fun h' eb => ⟨rfl, I.turned (t' := s.toks) (fun b o hb e => eb b o hb e) f0 f1 f3 f4 f5⟩
  self := fun _ _ _ _ _ st h => by
    rcases hty with rfl | rfl
    · exact wpAny_pyIter_striter_ascii st h
    · exact wpAny_pyIter_striter_wide st h
@[simp] def sgnS (z : Str) : List PyData := z.cps.toList.map fun c => .str ⟨#[c]⟩
@[simp] def dStrI (f : DE) : DI := fun d m Q => f d m fun x m1 => ∃ z : Str, x = .dat (.str z) ∧ Q ((sgnS z).map .dat) m1
section
variable {X : Cx} {a : Expr} {tg : Expr} {f : DE}
theorem li_str (ha : PE X a (LE X.K f)) : PI X tg a (LI X.K (dStrI f)) := by
  intro pins s σ H R I h
  obtain ⟨Z, d, m, ZZ, ok, rs, h, k⟩ := h
  refine thn (ha pins s σ H (fun x H1 => ∃ (m1 : Mu) (z : Str), x = .str z ∧ ZZ ((sgnS z).map .dat) m1 ∧ Ext X.K Z m H m1 H1 ∧ Ok X.K Z m1 H1) I
    ⟨Z, d, m, _, ok, rs, h, fun x m1 v H1 ⟨z, ex, q⟩ e1 ok1 rd => by subst ex; exact ⟨m1, z, rd.str, q, e1, ok1⟩⟩) fun u s1 ⟨x, H1, I1, r1, m1, z, ex, q, e1, ok1⟩ => ?_
  subst ex
  obtain ⟨t, rfl⟩ := r1
  have yl : Yields X.K Z m1 H1 ((sgnS z).map .dat) (Its z) := by
    intro m3 H3 ey
    refine ⟨fun i x hx => ?_, ?_⟩
    · have lt : i < z.cps.size := by
        have := (List.getElem?_eq_some_iff.mp hx).1
        simpa using this
      refine ⟨lt, fun v H4 y => .inl ⟨y.1, ?_⟩⟩
      obtain ⟨_, c, hc, rfl⟩ := y
      rw [List.getElem?_map] at hx
      unfold sgnS at hx
      rw [List.getElem?_map, Array.getElem?_toList, hc] at hx
      cases hx
      exact .ofStr
    · show _ = z.cps.size
      simp
  have go : ∀ (o : Obj) (ty : String), (ty = "str_ascii_iterator" ∨ ty = "str_iterator") → (s1.heap.push o).IsStrIter s1.heap.objs.size ty z t 0 → PIE X pins σ tg R (.ref s1.heap.objs.size) { s1 with heap := s1.heap.push o } := fun o ty hty st => by
    refine ⟨s1.heap.objs.size, [s1.heap.objs.size], _, _, H1, rfl, I1.kept (t' := s1.toks) fun b o e => Heap.get?_push_of_some _ e, turn_str _ z t ty hty, st, fun b hb => ?_, k _ m1 H1 _ q e1 ok1 yl⟩
    have e : b = s1.heap.objs.size := by simpa using hb
    subst e
    exact I1.fpOk (Nat.le_refl _) (I1.hok.fresh (Nat.le_refl _))
  cases ha : z.cps.all (· < 128)
  · exact wpAny_pyIter_wide ha (go _ _ (.inr rfl) ⟨_, Heap.get?_push_size _ rfl, rfl, rfl⟩)
  · exact wpAny_pyIter_ascii ha (go _ _ (.inl rfl) ⟨_, Heap.get?_push_size _ rfl, rfl, rfl⟩)
end
end DL
set_option Elab.async false
set_option linter.all false
set_option maxRecDepth 100000
set_option maxHeartbeats 4000000
namespace DL
open PySem PySem.Spec PyProof.Rows L2
@[simp] def aLeS : D2
  | .dat (.str a), .dat (.str b), m, Q => Q (.dat (.bool (!(b.cps.toList < a.cps.toList)))) m
  | _, _, _, _ => False
section
variable {X : Cx}
theorem od_leS : OpD X (compareOp .LtE) aLeS := by
  intro pins s σ H Z m x y dx dy v u R Q I ok rx ry r1 r2 h k
  unfold aLeS at h
  split at h
  · cases r1.str; cases r2.str
    obtain ⟨t1, rfl⟩ := rx
    obtain ⟨t2, rfl⟩ := ry
    refine PySem.P.le_str ?_
    exact ⟨.bl _, H, I, rfl, k _ m _ H h Ext.refl ok .ofBl⟩
  · exact h.elim
end
end DL
set_option Elab.async false
set_option linter.all false
set_option maxRecDepth 100000
set_option maxHeartbeats 4000000
namespace DL
open PySem PySem.Spec PyProof.Rows L2
structure QE (X : Cx) (e : Expr) (t : TE) : Prop where
  pe : PE X e t
structure QA (X : Cx) (e : List Expr) (t : TA) : Prop where
  pe : PA X e t
structure QT (X : Cx) (e : Expr) (t : TT) : Prop where
  pe : PT X e t
structure QW (X : Cx) (e : Expr) (t : TT) : Prop where
  pe : PW X e t
structure QS (X : Cx) (e : Stmt) (t : TS) : Prop where
  pe : PS X e t
structure QSs (X : Cx) (e : List Stmt) (t : TS) : Prop where
  pe : PSs X e t
structure QG (X : Cx) (e : Expr) (t : TG) : Prop where
  pe : PG X e t
structure QGs (X : Cx) (e : List Expr) (t : TGs) : Prop where
  pe : PGs X e t
structure QO (X : Cx) (e : Option Expr) (t : TO) : Prop where
  pe : PO X e t
structure QF (X : Cx) (e : List Expr) (t : TT) : Prop where
  pe : PF X e t
structure QI (X : Cx) (tg e : Expr) (t : TI) : Prop where
  pe : PI X tg e t
theorem QW.pt {X : Cx} {e : Expr} {t : TT} (h : QW X e t) : QT X e t := ⟨h.pe.pt⟩
section
variable {X : Cx} {pos : Pos}
theorem qle_var (i : Nat) {x : Str} (hN : X.N[i]? = some x := by rfl) (hv : Vis X.env.scope x := by first | exact Or.inl rfl | exact Or.inr (Or.inl rfl) | exact Or.inr (Or.inr rfl)) (hd : (x == ("__debug__" : Str)) = false := by decide) (hcd : (x == ("__classdict__" : Str)) = false := by decide) : QE X (.Name x pos) (LE X.K (dVar i)) := ⟨le_var (i := i) (hN := hN) (hv := hv) (hd := hd) (hcd := hcd)⟩
end
section
variable {X : Cx} {pos : Pos}
theorem qle_int {i : Int} {j : Nat} : QE X (.Constant (.int i) j pos) (LE X.K (dCon (.int i))) := ⟨le_int ⟩
end
section
variable {X : Cx} {pos : Pos}
theorem qle_bl {b : Bool} {j : Nat} : QE X (.Constant (.bool b) j pos) (LE X.K (dCon (.bool b))) := ⟨le_bl ⟩
end
section
variable {X : Cx} {pos : Pos}
theorem qle_non {j : Nat} : QE X (.Constant .none j pos) (LE X.K (dCon .none)) := ⟨le_non ⟩
end
section
variable {X : Cx} {pos : Pos}
theorem qle_str {x : Str} {j : Nat} : QE X (.Constant (.str x) j pos) (LE X.K (dCon (.str x))) := ⟨le_str ⟩
end
section
variable {X : Cx} {a b c : Expr} {f g : DE} {pos : Pos}
theorem qle_bin {op : Operator} {r : D2} (ho : OpD X (binaryOp op) r) (ha : QE X a (LE X.K f)) (hb : QE X b (LE X.K g)) : QE X (.BinOp a op b pos) (LE X.K (dBin r f g)) := ⟨le_bin (ho := ho) (ha := ha.pe) (hb := hb.pe)⟩
end
section
variable {X : Cx} {a b c : Expr} {f g : DE} {pos : Pos}
theorem qle_cmp {op : CmpOp} {r : D2} (ho : OpD X (compareOp op) r) (ha : QE X a (LE X.K f)) (hb : QE X b (LE X.K g)) (hm : behindInMarks op b = false := by exact nomark _) : QE X (.Compare a [op] [b] pos) (LE X.K (dBin r f g)) := ⟨le_cmp (ho := ho) (ha := ha.pe) (hb := hb.pe) (hm := hm)⟩
end
section
variable {X : Cx} {a b c : Expr} {f g : DE} {pos : Pos}
theorem qlt_cmp {op : CmpOp} {r : D2} (ho : OpD X (compareOp op) r) (ha : QE X a (LE X.K f)) (hb : QE X b (LE X.K g)) (hm : behindInMarks op b = false := by exact nomark _) : QT X (.Compare a [op] [b] pos) (LT X.K (dTst (dBin r f g))) := ⟨lt_cmp (ho := ho) (ha := ha.pe) (hb := hb.pe) (hm := hm)⟩
end
section
variable {X : Cx} {a b c : Expr} {f g : DE} {pos : Pos}
theorem qlt_val (h : QE X a (LE X.K f)) (he : ∀ whole, isTrue a X.env whole = (do let v ← whole; standAt a.pos; holding [v] (truthy v)) := by intro _; rfl) : QT X a (LT X.K (dTst f)) := ⟨lt_val (h := h.pe) (he := he)⟩
end
section
variable {X : Cx} {a b c : Expr} {rest : List Expr} {f g : DE} {t u : DT} {pos : Pos}
theorem qlw_and1 (ha : QT X a (LT X.K t)) : QW X (.BoolOp .And [a] pos) (LT X.K t) := ⟨lw_and1 (ha := ha.pe)⟩
end
section
variable {X : Cx} {a b c : Expr} {rest : List Expr} {f g : DE} {t u : DT} {pos : Pos}
theorem qlw_or1 (ha : QT X a (LT X.K t)) : QW X (.BoolOp .Or [a] pos) (LT X.K t) := ⟨lw_or1 (ha := ha.pe)⟩
end
section
variable {X : Cx} {a b c : Expr} {rest : List Expr} {f g : DE} {t u : DT} {pos : Pos}
theorem qlw_and (ha : QT X a (LT X.K t)) (hb : QW X (.BoolOp .And (b :: rest) pos) (LT X.K u)) : QW X (.BoolOp .And (a :: b :: rest) pos) (LT X.K (dAndT t u)) := ⟨lw_and (ha := ha.pe) (hb := hb.pe)⟩
end
section
variable {X : Cx} {a b c : Expr} {rest : List Expr} {f g : DE} {t u : DT} {pos : Pos}
theorem qlw_or (ha : QT X a (LT X.K t)) (hb : QW X (.BoolOp .Or (b :: rest) pos) (LT X.K u)) : QW X (.BoolOp .Or (a :: b :: rest) pos) (LT X.K (dOrT t u)) := ⟨lw_or (ha := ha.pe) (hb := hb.pe)⟩
end
section
variable {X : Cx} {a b c : Expr} {rest : List Expr} {f g : DE} {t u : DT} {pos : Pos}
theorem qlt_not (ha : QT X a (LT X.K t)) : QT X (.UnaryOp .Not a pos) (LT X.K (dNotT t)) := ⟨lt_not (ha := ha.pe)⟩
end
section
variable {X : Cx} {a b c : Expr} {rest : List Expr} {f g : DE} {t u : DT} {pos : Pos}
theorem qle_one {op : BoolOp} (h : QE X a (LE X.K f)) : QE X (.BoolOp op [a] pos) (LE X.K f) := ⟨le_one (h := h.pe)⟩
end
section
variable {X : Cx} {a b c : Expr} {rest : List Expr} {f g : DE} {t u : DT} {pos : Pos}
theorem qle_and (ha : QE X a (LE X.K f)) (hb : QE X (.BoolOp .And (b :: rest) pos) (LE X.K g)) : QE X (.BoolOp .And (a :: b :: rest) pos) (LE X.K (dAnd f g)) := ⟨le_and (ha := ha.pe) (hb := hb.pe)⟩
end
section
variable {X : Cx} {a b c : Expr} {rest : List Expr} {f g : DE} {t u : DT} {pos : Pos}
end
section
variable {X : Cx} {a b c : Expr} {rest : List Expr} {f g : DE} {t u : DT} {pos : Pos}
theorem qle_not (ha : QE X a (LE X.K f)) : QE X (.UnaryOp .Not a pos) (LE X.K (dNot f)) := ⟨le_not (ha := ha.pe)⟩
end
section
variable {X : Cx} {a b c : Expr} {rest : List Expr} {f g : DE} {t u : DT} {pos : Pos}
theorem qle_ite (hc : QT X c (LT X.K t)) (ha : QE X a (LE X.K f)) (hb : QE X b (LE X.K g)) : QE X (.IfExp c a b pos) (LE X.K (dIte t f g)) := ⟨le_ite (hc := hc.pe) (ha := ha.pe) (hb := hb.pe)⟩
end
section
variable {X : Cx} {e : Expr} {es : List Expr} {f : DE} {g : DA} {pos : Pos}
theorem qla_nil  : QA X [] (LA X.K dNil) := ⟨la_nil ⟩
end
section
variable {X : Cx} {e : Expr} {es : List Expr} {f : DE} {g : DA} {pos : Pos}
theorem qla_cons (ha : QE X e (LE X.K f)) (hr : QA X es (LA X.K g)) (hs : starEach (e :: es) X.env = (false, eval e X.env) :: starEach es X.env := by rfl) : QA X (e :: es) (LA X.K (dCons f g)) := ⟨la_cons (ha := ha.pe) (hr := hr.pe) (hs := hs)⟩
end
section
variable {X : Cx} {e : Expr} {es : List Expr} {f : DE} {g : DA} {pos : Pos}
theorem qle_tup {j : Nat} (h : QA X es (LA X.K g)) : QE X (.Tuple es j pos) (LE X.K (dTup g)) := ⟨le_tup (h := h.pe)⟩
end
section
variable {X : Cx} {e : Expr} {es : List Expr} {f : DE} {g : DA} {pos : Pos}
theorem qle_lst (h : QA X es (LA X.K g)) : QE X (.List es pos) (LE X.K (dLst g)) := ⟨le_lst (h := h.pe)⟩
end
section
variable {X : Cx} {e : Expr} {es : List Expr} {f : DE} {g : DA} {pos : Pos}
theorem qle_lstC (h : QA X es (LA X.K g)) : QE X (.List es pos) (LE X.K (dLstC g)) := ⟨le_lstC (h := h.pe)⟩
end
section
variable {X : Cx} {a b c e : Expr} {es : List Expr} {f g : DE} {ga : DA} {pos p2 p : Pos}
theorem qle_neg (ha : QE X a (LE X.K f)) : QE X (.UnaryOp .USub a pos) (LE X.K (dNeg f)) := ⟨le_neg (ha := ha.pe)⟩
end
section
variable {X : Cx} {a b c e : Expr} {es : List Expr} {f g : DE} {ga : DA} {pos p2 p : Pos}
theorem qle_ix (ha : QE X a (LE X.K f)) (hb : QE X b (LE X.K g)) (hs : PlainIx b := by exact fun _ _ => rfl) : QE X (.Subscript a b pos) (LE X.K (dBin aIx f g)) := ⟨le_ix (ha := ha.pe) (hb := hb.pe) (hs := hs)⟩
end
section
variable {X : Cx} {a b c e : Expr} {es : List Expr} {f g : DE} {ga : DA} {pos p2 p : Pos}
theorem qlo_none  : QO X none (LO X.K dNoP) := ⟨lo_none ⟩
end
section
variable {X : Cx} {a b c e : Expr} {es : List Expr} {f g : DE} {ga : DA} {pos p2 p : Pos}
theorem qlo_some (ha : QE X a (LE X.K f)) : QO X (some a) (LO X.K (dPart f)) := ⟨lo_some (ha := ha.pe)⟩
end
section
variable {X : Cx} {a b c e : Expr} {es : List Expr} {f g : DE} {ga : DA} {pos p2 p : Pos}
end
section
variable {X : Cx} {a b c e : Expr} {es : List Expr} {f g : DE} {ga : DA} {pos p2 p : Pos}
theorem qle_callB {x : Str} {id : String} {r : DC} (hc : CallD X (.builtin id) r) (hg : Gl X x) (hm : X.mg x = none) (hv : bootBuiltins x = some (.builtin id)) (ha : QA X (e :: es) (LA X.K ga)) (hn : x ≠ "__name__" := by decide) (hdb : (x == ("__debug__" : Str)) = false := by decide) (he : starEach (e :: es) X.env = (false, eval e X.env) :: starEach es X.env := by rfl) (hpl : (backTo pos (starEach es X.env)).any (·.1) = false := by rfl) : QE X (.Call (.Name x p) (e :: es) [] pos) (LE X.K (dCallB r ga)) := ⟨le_callB (hc := hc) (hg := hg) (hm := hm) (hv := hv) (ha := ha.pe) (hn := hn) (hdb := hdb) (he := he) (hpl := hpl)⟩
end
section
variable {X : Cx} {a b c e : Expr} {es : List Expr} {f g : DE} {ga : DA} {pos p2 p : Pos}
theorem qle_callTy {x : Str} {T : String} {r : DC} (hc : CallD X (.type T) r) (hg : Gl X x) (hm : X.mg x = none) (hv : bootBuiltins x = some (.type T)) (ha : QA X (e :: es) (LA X.K ga)) (hn : x ≠ "__name__" := by decide) (hdb : (x == ("__debug__" : Str)) = false := by decide) (he : starEach (e :: es) X.env = (false, eval e X.env) :: starEach es X.env := by rfl) (hpl : (backTo pos (starEach es X.env)).any (·.1) = false := by rfl) : QE X (.Call (.Name x p) (e :: es) [] pos) (LE X.K (dCallB r ga)) := ⟨le_callTy (hc := hc) (hg := hg) (hm := hm) (hv := hv) (ha := ha.pe) (hn := hn) (hdb := hdb) (he := he) (hpl := hpl)⟩
end
section
variable {X : Cx} {st : Stmt} {rest body orelse : List Stmt} {t u b : DS} {e c tg iter : Expr} {f : DE} {tc : DT} {pos : Pos}
theorem qlss_nil  : QSs X [] (LS X.K dNext) := ⟨lss_nil ⟩
end
section
variable {X : Cx} {st : Stmt} {rest body orelse : List Stmt} {t u b : DS} {e c tg iter : Expr} {f : DE} {tc : DT} {pos : Pos}
theorem qlss_cons (h1 : QS X st (LS X.K t)) (h2 : QSs X rest (LS X.K u)) : QSs X (st :: rest) (LS X.K (dSeq t u)) := ⟨lss_cons (h1 := h1.pe) (h2 := h2.pe)⟩
end
section
variable {X : Cx} {st : Stmt} {rest body orelse : List Stmt} {t u b : DS} {e c tg iter : Expr} {f : DE} {tc : DT} {pos : Pos}
end
section
variable {X : Cx} {st : Stmt} {rest body orelse : List Stmt} {t u b : DS} {e c tg iter : Expr} {f : DE} {tc : DT} {pos : Pos}
end
section
variable {X : Cx} {st : Stmt} {rest body orelse : List Stmt} {t u b : DS} {e c tg iter : Expr} {f : DE} {tc : DT} {pos : Pos}
theorem qls_ret (he : QE X e (LE X.K f)) : QS X (.Return (some e) pos) (LS X.K (dRet f)) := ⟨ls_ret (he := he.pe)⟩
end
section
variable {X : Cx} {st : Stmt} {rest body orelse : List Stmt} {t u b : DS} {e c tg iter : Expr} {f : DE} {tc : DT} {pos : Pos}
theorem qls_if (hc : QT X c (LT X.K tc)) (h1 : QSs X body (LS X.K t)) (h2 : QSs X orelse (LS X.K u)) : QS X (.If c body orelse pos) (LS X.K (dIf tc t u)) := ⟨ls_if (hc := hc.pe) (h1 := h1.pe) (h2 := h2.pe)⟩
end
section
variable {X : Cx} {st : Stmt} {rest body orelse : List Stmt} {t u b : DS} {e c tg iter : Expr} {f : DE} {tc : DT} {pos : Pos}
theorem qls_set (i : Nat) {x : Str} {pos' : Pos} (hN : X.N.Nodup) (he : QE X e (LE X.K f)) (hi : X.N[i]? = some x := by rfl) (hx : Loc X.env.scope x := by first | exact Or.inl rfl | exact Or.inr rfl) (hs : swapsWith e (some (.Name x pos')) pos.line X.env = pure false := by rfl) (hf : X.fn x = true ∨ X.env.scope.names.lookup x = some .local := by first | exact .inl rfl | exact .inr rfl) : QS X (.Assign [.Name x pos'] e pos) (LS X.K (dSet i f)) := ⟨ls_set (i := i) (hN := hN) (he := he.pe) (hi := hi) (hx := hx) (hs := hs) (hf := hf)⟩
end
section
variable {X : Cx} {st : Stmt} {rest body orelse : List Stmt} {t u b : DS} {e c tg iter : Expr} {f : DE} {tc : DT} {pos : Pos}
theorem qlg_name (i : Nat) {x : Str} (hN : X.N.Nodup) (hi : X.N[i]? = some x := by rfl) (hx : Loc X.env.scope x := by first | exact Or.inl rfl | exact Or.inr rfl) (hf : X.fn x = true ∨ X.env.scope.names.lookup x = some .local := by first | exact .inl rfl | exact .inr rfl) : QG X (.Name x pos) (LG X.K (gN i)) := ⟨lg_name (i := i) (hN := hN) (hi := hi) (hx := hx) (hf := hf)⟩
end
section
variable {X : Cx} {st : Stmt} {rest body orelse : List Stmt} {t u b : DS} {e c tg iter : Expr} {f : DE} {tc : DT} {pos : Pos}
theorem qlgs_nil  : QGs X [] (LGs X.K gN0) := ⟨lgs_nil ⟩
end
section
variable {X : Cx} {st : Stmt} {rest body orelse : List Stmt} {t u b : DS} {e c tg iter : Expr} {f : DE} {tc : DT} {pos : Pos}
theorem qlgs_cons {es : List Expr} {g : DG} {r : DGs} (h1 : QG X e (LG X.K g)) (h2 : QGs X es (LGs X.K r)) (hs : (assignEach (e :: es) X.env).map (·.2) = assign e X.env :: (assignEach es X.env).map (·.2) := by rfl) : QGs X (e :: es) (LGs X.K (gNs g r)) := ⟨lgs_cons (h1 := h1.pe) (h2 := h2.pe) (hs := hs)⟩
end
section
variable {X : Cx} {st : Stmt} {rest body orelse : List Stmt} {t u b : DS} {e c tg iter : Expr} {f : DE} {tc : DT} {pos : Pos}
theorem qlg_tup {es : List Expr} {j n : Nat} {g : DGs} (hc : X.calm = true) (h : QGs X es (LGs X.K g)) (hn : (assignEach es X.env).length = n := by rfl) (hst : (assignEach es X.env).findIdx? (·.1) = none := by rfl) : QG X (.Tuple es j pos) (LG X.K (gT n g)) := ⟨lg_tup (hc := hc) (h := h.pe) (hn := hn) (hst := hst)⟩
end
section
variable {X : Cx} {st : Stmt} {rest body orelse : List Stmt} {t u b : DS} {e c tg iter : Expr} {f : DE} {tc : DT} {pos : Pos}
theorem qls_asg {g : DG} (he : QE X e (LE X.K f)) (hg : QG X tg (LG X.K g)) (hs : swapsWithSole [tg] e pos.line X.env = pure false := by rfl) (hw : swappedStores [tg] e X.env = pure none := by rfl) (h1 : (assignEach [tg] X.env).map (·.2) = [assign tg X.env] := by rfl) : QS X (.Assign [tg] e pos) (LS X.K (dAsg f g)) := ⟨ls_asg (he := he.pe) (hg := hg.pe) (hs := hs) (hw := hw) (h1 := h1)⟩
end
section
variable {X : Cx} {st : Stmt} {rest body orelse : List Stmt} {t u b : DS} {e c tg iter : Expr} {f : DE} {tc : DT} {pos : Pos}
end
section
variable {X : Cx} {st : Stmt} {rest body orelse : List Stmt} {t u b : DS} {e c tg iter : Expr} {f : DE} {tc : DT} {pos : Pos}
theorem qls_put {o i : Expr} {fo fi : DE} {tpos : Pos} (he : QE X e (LE X.K f)) (ho : QE X o (LE X.K fo)) (hi : QE X i (LE X.K fi)) (ha : ∀ v, assign (.Subscript o i tpos) X.env v = (do
      let ov ← holding [v] (eval o X.env)
      let iv ← holding [v, ov] (eval i X.env)
      standAt tpos
      holding [v, ov, iv] (setItem ov iv v)
      release [v, ov, iv] []) := by intro _; rfl) (hs : swapsWithSole [.Subscript o i tpos] e pos.line X.env = pure false := by rfl) (hw : swappedStores [.Subscript o i tpos] e X.env = pure none := by rfl) (h1 : (assignEach [.Subscript o i tpos] X.env).map (·.2) = [assign (.Subscript o i tpos) X.env] := by rfl) : QS X (.Assign [.Subscript o i tpos] e pos) (LS X.K (dPut fo fi f)) := ⟨ls_put (he := he.pe) (ho := ho.pe) (hi := hi.pe) (ha := ha) (hs := hs) (hw := hw) (h1 := h1)⟩
end
section
variable {X : Cx} {st : Stmt} {rest body orelse : List Stmt} {t u b : DS} {e c tg iter : Expr} {f : DE} {tc : DT} {pos : Pos}
end
section
variable {X : Cx} {st : Stmt} {rest body orelse : List Stmt} {t u b : DS} {e c tg iter : Expr} {f : DE} {tc : DT} {pos : Pos}
theorem qli_seq (ha : QE X e (LE X.K f)) : QI X tg e (LI X.K (dSeqI f)) := ⟨li_seq (ha := ha.pe)⟩
end
section
variable {X : Cx} {st : Stmt} {rest body orelse : List Stmt} {t u b : DS} {e c tg iter : Expr} {f : DE} {tc : DT} {pos : Pos}
theorem qli_range {p : Pos} (hg : Gl X "range") (hm : X.mg "range" = none) (ha : QE X e (LE X.K f)) (hs : starEach [e] X.env = [(false, eval e X.env)] := by rfl) : QI X tg (.Call (.Name "range" p) [e] [] pos) (LI X.K (dRngI f)) := ⟨li_range (hg := hg) (hm := hm) (ha := ha.pe) (hs := hs)⟩
end
section
variable {X : Cx} {st : Stmt} {rest body orelse : List Stmt} {t u b : DS} {e c tg iter : Expr} {f : DE} {tc : DT} {pos : Pos}
theorem qls_for {fi : DI} {g : DG} (hp : PassesOwn (model X.prog X.w) X.A X.env X.xe) (hc : X.calm = true) (hi : QI X tg iter (LI X.K fi)) (hg : QG X tg (LG X.K g)) (hb : QSs X body (LS X.K b)) (hs : ∀ x, foldedSetIterable iter X.env x = pure x := by intro _; rfl) : QS X (.For tg iter body [] pos) (LS X.K (dFor fi g b)) := ⟨ls_for (hp := hp) (hc := hc) (hi := hi.pe) (hg := hg.pe) (hb := hb.pe) (hs := hs)⟩
end
section
variable {X : Cx} {a e : Expr} {es : List Expr} {f : DE} {ga : DA} {pos p p1 p2 p3 p4 : Pos}
theorem qle_rev {j : Nat} (ha : QE X a (LE X.K f)) : QE X (.Subscript a (.Slice none none (some (.UnaryOp .USub (.Constant (.int 1) j p3) p4)) p2) pos) (LE X.K (dRev f)) := ⟨le_rev (ha := ha.pe)⟩
end
section
variable {X : Cx} {a e : Expr} {es : List Expr} {f : DE} {ga : DA} {pos p p1 p2 p3 p4 : Pos}
theorem qle_isi {T : Str} {c : String} (hg : Gl X "isinstance") (hm : X.mg "isinstance" = none) (hgT : Gl X T) (hmT : X.mg T = none) (hv : bootBuiltins T = some (.type c)) (hc : c = "int" ∨ c = "bool" ∨ c = "str" ∨ c = "tuple" ∨ c = "list") (ha : QE X a (LE X.K f)) (hn : T ≠ "__name__" := by decide) (hd : (T == ("__debug__" : Str)) = false := by decide) (he : starEach [a, .Name T p2] X.env = (false, eval a X.env) :: starEach [.Name T p2] X.env := by rfl) : QE X (.Call (.Name "isinstance" p1) [a, .Name T p2] [] pos) (LE X.K (dIsi f c)) := ⟨le_isi (hg := hg) (hm := hm) (hgT := hgT) (hmT := hmT) (hv := hv) (hc := hc) (ha := ha.pe) (hn := hn) (hd := hd) (he := he)⟩
end
section
variable {X : Cx} {a e : Expr} {es : List Expr} {f : DE} {ga : DA} {pos p p1 p2 p3 p4 : Pos}
theorem qle_isi2 {T1 T2 : Str} {c1 c2 : String} {jt : Nat} (hg : Gl X "isinstance") (hm : X.mg "isinstance" = none) (hgT : Gl X T1) (hmT : X.mg T1 = none) (hv : bootBuiltins T1 = some (.type c1)) (hc : c1 = "int" ∨ c1 = "bool" ∨ c1 = "str" ∨ c1 = "tuple" ∨ c1 = "list") (hgT2 : Gl X T2) (hmT2 : X.mg T2 = none) (hv2 : bootBuiltins T2 = some (.type c2)) (hc2 : c2 = "int" ∨ c2 = "bool" ∨ c2 = "str" ∨ c2 = "tuple" ∨ c2 = "list") (ha : QE X a (LE X.K f)) (hn : T1 ≠ "__name__" := by decide) (hd : (T1 == ("__debug__" : Str)) = false := by decide) (hn2 : T2 ≠ "__name__" := by decide) (hd2 : (T2 == ("__debug__" : Str)) = false := by decide) (he : starEach [a, .Tuple [.Name T1 p2, .Name T2 p3] jt p4] X.env = (false, eval a X.env) :: starEach [.Tuple [.Name T1 p2, .Name T2 p3] jt p4] X.env := by rfl) : QE X (.Call (.Name "isinstance" p1) [a, .Tuple [.Name T1 p2, .Name T2 p3] jt p4] [] pos) (LE X.K (dIsi2 f c1 c2)) := ⟨le_isi2 (hg := hg) (hm := hm) (hgT := hgT) (hmT := hmT) (hv := hv) (hc := hc) (hgT2 := hgT2) (hmT2 := hmT2) (hv2 := hv2) (hc2 := hc2) (ha := ha.pe) (hn := hn) (hd := hd) (hn2 := hn2) (hd2 := hd2) (he := he)⟩
end
section
variable {X : Cx} {a e : Expr} {es : List Expr} {f : DE} {ga : DA} {pos p p1 p2 p3 p4 : Pos}
theorem qle_call {k n : Nat} {fa : Addr} {fd : FuncData} {ps : List Str} {sp : DC} {x : Str} (F : FnOk X.prog X.w X.K X.mg X.base CX0 k fa fd ps (LSp X.K n sp)) (hr : Room k X.A) (hm : X.mg x = some (.ref fa)) (hk : PySem.W.keepIn X.K (.ref fa) = true) (hb : Binds X.K fd ps []) (hx : X.xe = fun _ _ => False) (ha : QA X (e :: es) (LA X.K ga)) (hg : Gl X x := by rfl) (hdb : (x == ("__debug__" : Str)) = false := by decide) (he : starEach (e :: es) X.env = (false, eval e X.env) :: starEach es X.env := by rfl) (hpl : (backTo pos (starEach es X.env)).any (·.1) = false := by rfl) : QE X (.Call (.Name x p) (e :: es) [] pos) (LE X.K (dCall n sp ga)) := ⟨le_call (F := F) (hr := hr) (hm := hm) (hk := hk) (hb := hb) (hx := hx) (ha := ha.pe) (hg := hg) (hdb := hdb) (he := he) (hpl := hpl)⟩
end
section
theorem qpf_nil {Y : Cx} : QF Y [] (LT Y.K dTrue) := ⟨pf_nil ⟩
end
section
end
section
variable {X : Cx} {a e o : Expr} {es : List Expr} {f g : DE} {ga : DA} {pos p p1 p2 : Pos}
end
section
variable {X : Cx} {a e o : Expr} {es : List Expr} {f g : DE} {ga : DA} {pos p p1 p2 : Pos}
end
section
variable {X : Cx} {a e o : Expr} {es : List Expr} {f g : DE} {ga : DA} {pos p p1 p2 : Pos}
end
section
variable {X : Cx} {tg iter elt : Expr} {ifs : List Expr} {scope : Scope} {fi : DI} {g : DG} {t : DT} {f : DE} {pos : Pos}
theorem qle_lcB (NC : List Str) (src : List (Option Nat)) (hc : X.calm = true) (hi : QI X tg iter (LI X.K fi)) (hg : ∀ cl C s2 H2 pins fp, QG (cyOf X scope cl C NC s2 H2 pins fp) tg (LG X.K g)) (ht : ∀ cl C s2 H2 pins fp, QF (cyOf X scope cl C NC s2 H2 pins fp) ifs (LT X.K t)) (he : ∀ cl C s2 H2 pins fp, QE (cyOf X scope cl C NC s2 H2 pins fp) elt (LE X.K f)) (hkind : scope.kind = .function := by rfl) (hB : chkB scope X.env = true := by rfl) (hS : chkS X.N scope X.env NC src = true := by rfl) (hs : ∀ x, foldedSetIterable iter X.env x = pure x := by intro _; rfl) : QE X (.ListComp elt [⟨tg, iter, ifs, 0⟩] scope pos) (LE X.K (dLC src fi g t f)) := ⟨le_lcB (NC := NC) (src := src) (hc := hc) (hi := hi.pe) (hg := fun cl C s2 H2 pins fp => (hg cl C s2 H2 pins fp).pe) (ht := fun cl C s2 H2 pins fp => (ht cl C s2 H2 pins fp).pe) (he := fun cl C s2 H2 pins fp => (he cl C s2 H2 pins fp).pe) (hkind := hkind) (hB := hB) (hS := hS) (hs := hs)⟩
end
section
variable {X : Cx} {tg iter elt : Expr} {ifs : List Expr} {scope : Scope} {fi : DI} {g : DG} {t : DT} {f : DE} {pos : Pos}
end
section
variable {X : Cx} {tg iter elt : Expr} {ifs : List Expr} {scope : Scope} {fi : DI} {g : DG} {t : DT} {f : DE} {pos : Pos}
theorem qls_lcB (i : Nat) {y : Str} {py spos : Pos} (NC : List Str) (src : List (Option Nat)) (hc : X.calm = true) (hN : X.N.Nodup) (hi : QI X tg iter (LI X.K fi)) (hg : ∀ cl C s2 H2 pins fp, QG (cyOf X scope cl C NC s2 H2 pins fp) tg (LG X.K g)) (ht : ∀ cl C s2 H2 pins fp, QF (cyOf X scope cl C NC s2 H2 pins fp) ifs (LT X.K t)) (he : ∀ cl C s2 H2 pins fp, QE (cyOf X scope cl C NC s2 H2 pins fp) elt (LE X.K f)) (hkind : scope.kind = .function := by rfl) (hB : chkB scope X.env = true := by rfl) (hS : chkS X.N scope X.env NC src = true := by rfl) (hi2 : X.N[i]? = some y := by rfl) (hx : Loc X.env.scope y := by first | exact Or.inl rfl | exact Or.inr rfl) (hf : X.fn y = true ∨ X.env.scope.names.lookup y = some .local := by first | exact .inl rfl | exact .inr rfl) (hsw : swapsWith (.ListComp elt [⟨tg, iter, ifs, 0⟩] scope pos) (some (.Name y py)) spos.line X.env = pure true := by rfl) (hs : ∀ x, foldedSetIterable iter X.env x = pure x := by intro _; rfl) : QS X (.Assign [.Name y py] (.ListComp elt [⟨tg, iter, ifs, 0⟩] scope pos) spos) (LS X.K (dSet i (dLC src fi g t f))) := ⟨ls_lcB (i := i) (NC := NC) (src := src) (hc := hc) (hN := hN) (hi := hi.pe) (hg := fun cl C s2 H2 pins fp => (hg cl C s2 H2 pins fp).pe) (ht := fun cl C s2 H2 pins fp => (ht cl C s2 H2 pins fp).pe) (he := fun cl C s2 H2 pins fp => (he cl C s2 H2 pins fp).pe) (hkind := hkind) (hB := hB) (hS := hS) (hi2 := hi2) (hx := hx) (hf := hf) (hsw := hsw) (hs := hs)⟩
end
section
variable {X : Cx} {a b : Expr} {elts : List Expr} {j : Nat} {f g : DE} {pos p p2 : Pos}
end
section
variable {X : Cx} {a e o : Expr} {es : List Expr} {f g : DE} {ga : DA} {pos p p1 p2 : Pos}
theorem qle_join {z : Str} {jc : Nat} {apos cpos : Pos} (he : QE X e (LE X.K g)) (hbase : attributeBase (.Constant (.str z) jc p) "join" X.env (eval (.Constant (.str z) jc p) X.env) = eval (.Constant (.str z) jc p) X.env := by rfl) (hfew : ((backTo cpos (starEach [e] X.env)).all (fun x => !x.1) && (backToKw cpos (keywordEach [] X.env)).all (fun x => x.1.isSome) && decide ([e].length + ([] : List Keyword).length + (if ([] : List Keyword).isEmpty then 0 else 1) < 30)) = true := by rfl) (hline : (apos.endLine == cpos.line) = true := by rfl) (hs : starEach [e] X.env = (false, eval e X.env) :: starEach [] X.env := by rfl) : QE X (.Call (.Attribute (.Constant (.str z) jc p) "join" apos) [e] [] cpos) (LE X.K (dJoin z g)) := ⟨le_join (he := he.pe) (hbase := hbase) (hfew := hfew) (hline := hline) (hs := hs)⟩
end
section
variable {X : Cx} {a e o : Expr} {es : List Expr} {f g : DE} {ga : DA} {pos p p1 p2 : Pos}
end
section
variable {X : Cx} {a e o : Expr} {es : List Expr} {f g : DE} {ga : DA} {pos p p1 p2 : Pos}
end
section
variable {X : Cx} {o i e : Expr} {fo fi f : DE} {pos tpos : Pos}
end
section
variable {X : Cx} {o i e : Expr} {fo fi f : DE} {pos tpos : Pos}
end
section
variable {X : Cx} {o i e : Expr} {fo fi f : DE} {pos tpos : Pos}
theorem qle_dget (hu : X.A.units + 100 < cLine) (ho : QE X o (LE X.K fo)) (hi : QE X i (LE X.K fi)) (hs : NoSl i := by exact fun _ _ => rfl) : QE X (.Subscript o i pos) (LE X.K (dDGet fo fi)) := ⟨le_dget (hu := hu) (ho := ho.pe) (hi := hi.pe) (hs := hs)⟩
end
section
variable {X : Cx} {e : Expr} {f : DE} {pos p p2 pos2 : Pos}
end
section
variable {X : Cx} {i e g : Expr} {fi f fg : DE} {p pos apos cpos : Pos}
end
section
variable {X : Cx} {i e g : Expr} {fi f fg : DE} {p pos apos cpos : Pos}
end
section
variable {X : Cx} {e g : Expr} {f fg : DE} {tg : Expr} {pos : Pos}
end
section
variable {X : Cx} {o i e : Expr} {es : List Expr} {fo f : DE} {fa : DA} {pos tpos ipos : Pos} {j : Nat}
end
section
variable {X : Cx} {o i e : Expr} {es : List Expr} {fo f : DE} {fa : DA} {pos tpos ipos : Pos} {j : Nat}
end
section
variable {X : Cx} {o i e : Expr} {es : List Expr} {fo f : DE} {fa : DA} {pos tpos ipos : Pos} {j : Nat}
end
section
variable {X : Cx} {e : Expr} {f : DE} {pos p : Pos}
theorem qle_dictP (hc : X.calm = true) (hg : Gl X "dict") (hm : X.mg "dict" = none) (he : QE X e (LE X.K f)) (hs : starEach [e] X.env = [(false, eval e X.env)] := by rfl) : QE X (.Call (.Name "dict" p) [e] [] pos) (LE X.K (dDictP f)) := ⟨le_dictP (hc := hc) (hg := hg) (hm := hm) (he := he.pe) (hs := hs)⟩
end
section
variable {X : Cx} {tg iter tg2 iter2 elt : Expr} {ifs ifs2 : List Expr} {scope : Scope} {NC : List Str} {fi fi2 : DI} {g g2 : DG} {t t2 : DT} {f : DE} {pos : Pos}
end
section
variable {X : Cx} {tg iter tg2 iter2 elt : Expr} {ifs ifs2 : List Expr} {scope : Scope} {NC : List Str} {fi fi2 : DI} {g g2 : DG} {t t2 : DT} {f : DE} {pos : Pos}
end
section
variable {X : Cx} {e g : Expr} {fi fg : DE} {p apos cpos : Pos}
end
section
variable {X : Cx} {o e : Expr} {f g : DE} {apos cpos : Pos}
end
section
variable {X : Cx} {o e : Expr} {f g : DE} {apos cpos : Pos}
end
section
variable {X : Cx} {a : Expr} {f : DE} {pos p2 : Pos}
theorem qle_slE {lo hi : Option Expr} {tl th : DO} (ha : QE X a (LE X.K f)) (hl : QO X lo (LO X.K tl)) (hu : QO X hi (LO X.K th)) : QE X (.Subscript a (.Slice lo hi none p2) pos) (LE X.K (dSlE f tl th)) := ⟨le_slE (ha := ha.pe) (hl := hl.pe) (hu := hu.pe)⟩
end
section
variable {X : Cx} {a : Expr} {elts : List Expr} {j : Nat} {f : DE} {pos p p2 : Pos}
end
section
variable {X : Cx} {a : Expr} {elts : List Expr} {j : Nat} {f : DE} {pos p p2 : Pos}
end
section
variable {X : Cx} {a b : Expr} {elts : List Expr} {j : Nat} {f g : DE} {pos p p2 : Pos}
end
section
variable {X : Cx} {a : Expr} {f : DE} {pos p2 : Pos}
theorem qle_slY {lo hi : Option Expr} {tl th : DO} (ha : QE X a (LE X.K f)) (hl : QO X lo (LO X.K tl)) (hu : QO X hi (LO X.K th)) : QE X (.Subscript a (.Slice lo hi none p2) pos) (LE X.K (dSlY f tl th)) := ⟨le_slY (ha := ha.pe) (hl := hl.pe) (hu := hu.pe)⟩
end
section
variable {X : Cx} {e : Expr} {f : DE} {pos p : Pos}
end
section
variable {X : Cx} {a b : Expr} {f g : DE} {pos p p2 pos2 : Pos}
end
section
variable {X : Cx} {o e : Expr} {f g : DE}
end
section
variable {X : Cx} {o e : Expr} {f g : DE}
end
section
variable {X : Cx} {e : Expr} {f : DE}
end
section
variable {X : Cx} {pos : Pos}
end
section
variable {X : Cx} {pos : Pos}
end
section
variable {X : Cx} {pos : Pos}
end
section
variable {X : Cx} {pos : Pos}
variable {o e : Expr} {f g : DE}
end
section
variable {X : Cx} {o i : Expr} {fo fi : DE} {pos : Pos}
end
section
variable {X : Cx} {e : Expr} {f : DE} {pos p p2 pos2 : Pos}
end
section
variable {X : Cx} {e : Expr} {f : DE} {pos p p2 pos2 : Pos}
variable {e2 : Expr} {f2 : DE}
end
section
variable {X : Cx} {a b c : Expr} {f g h : DE} {pos : Pos}
end
section
variable {X : Cx} {a b c : Expr} {f g h : DE} {pos : Pos}
theorem qlt_chain {op op' : CmpOp} {r r' : D2} (ho : OpD X (compareOp op) r) (ho' : OpD X (compareOp op') r') (ha : QE X a (LE X.K f)) (hb : QE X b (LE X.K g)) (hc : QE X c (LE X.K h)) (hm : lastMarks [op, op'] [b, c] = false := by with_unfolding_all rfl) : QT X (.Compare a [op, op'] [b, c] pos) (LT X.K (dTst (dChain r r' f g h))) := ⟨lt_chain (ho := ho) (ho' := ho') (ha := ha.pe) (hb := hb.pe) (hc := hc.pe) (hm := hm)⟩
end
section
variable {X : Cx} {a b c : Expr} {f g h : DE} {pos : Pos}
theorem qle_gint {x : Str} {i : Int} {t : Tok} (hg : Gl X x) (hm : X.mg x = some (.int i t)) (hd : (x == ("__debug__" : Str)) = false := by decide) : QE X (.Name x pos) (LE X.K (dCon (.int i))) := ⟨le_gint (hg := hg) (hm := hm) (hd := hd)⟩
end
section
variable {X : Cx} {a b c : Expr} {f g h : DE} {pos : Pos}
theorem qle_gstr {x : Str} {z : Str} {t : Tok} (hg : Gl X x) (hm : X.mg x = some (.str z t)) (hd : (x == ("__debug__" : Str)) = false := by decide) : QE X (.Name x pos) (LE X.K (dCon (.str z))) := ⟨le_gstr (hg := hg) (hm := hm) (hd := hd)⟩
end
section
variable {X : Cx} {a : Expr} {tg : Expr} {f : DE}
end
section
variable {X : Cx} {o : Expr} {es : List Expr} {fo : DE} {fa : DA} {pos ipos : Pos} {j : Nat}
end
section
variable {X : Cx} {o i e : Expr} {fo fi f : DE} {pos tpos : Pos}
end
section
variable {X : Cx} {o i e : Expr} {fo fi f : DE} {pos tpos : Pos}
end
section
variable {X : Cx} {o i e : Expr} {fo fi f : DE} {pos tpos : Pos}
end
section
variable {X : Cx} {a lo st : Expr} {f g h : DE} {pos p2 : Pos}
end
section
variable {X : Cx} {e : Expr} {f : DE} {pos p p2 pos2 : Pos}
theorem qle_sortSet (hc : X.calm = true) (hg : Gl X "sorted") (hm : X.mg "sorted" = none) (hg2 : Gl X "set") (hm2 : X.mg "set" = none) (he : QE X e (LE X.K f)) (hs : starEach [e] X.env = [(false, eval e X.env)] := by rfl) (hs2 : starEach [.Call (.Name "set" p2) [e] [] pos2] X.env = [(false, eval (.Call (.Name "set" p2) [e] [] pos2) X.env)] := by rfl) : QE X (.Call (.Name "sorted" p) [.Call (.Name "set" p2) [e] [] pos2] [] pos) (LE X.K (dSortSet f)) := ⟨le_sortSet (hc := hc) (hg := hg) (hm := hm) (hg2 := hg2) (hm2 := hm2) (he := he.pe) (hs := hs) (hs2 := hs2)⟩
end
section
variable {X : Cx} {a : Expr} {tg : Expr} {f : DE}
theorem qli_str (ha : QE X a (LE X.K f)) : QI X tg a (LI X.K (dStrI f)) := ⟨li_str (ha := ha.pe)⟩
end
section
variable {P : Program} {w : World} {K : PySem.W.Frag} {mg : Str → Option Value} {base : Heap}
theorem qfn_body {x qual : Str} {st : Stmt} {fa : Addr} {fd : FuncData} {N ps : List Str} {k : Nat} {sp : DC} {body : DS} (F : Fun K x qual st fa fd) (S : FnScope N ps (defScope st))
    (hb : ∀ (cdv : Value) (A : Around) (outer : List Env) (s : Shared) (H : Hp) (E : XK), Room k (A.deeper (envOfC qual (defScope st) s.heap.objs.size fa cdv)) → QSs (cxOf CX0 P w K mg base N qual (defScope st) fa cdv A outer s H E).nox (defBody st) (LS K body))
    (hv : ∀ ds m R, ds.length = ps.length → sp ds m R → body { nx := fun _ m => R (.dat .none) m, rt := R } (start2 N ds) m) : FnOk P w K mg base CX0 (k + 1) fa fd ps (LSp K ps.length sp) := fn_body F S (fun cdv A outer s H E hr => (hb cdv A outer s H E hr).pe) hv
end
end DL
set_option linter.all false
set_option maxHeartbeats 1000000
namespace K01
open PySem PySem.Spec PyProof.Rows L2 DL
theorem log2_lt {n k : Nat} (h : n < 2 ^ k) (hk : 0 < k) : n.log2 < k := by
  by_cases hn : n = 0
  · subst hn
    simpa using hk
  · exact (Nat.log2_lt hn).mpr h
def Bd (n : Nat) (i : Int) : Prop := i.natAbs < 2 ^ n
theorem Bd.mono {m n : Nat} {i : Int} (h : Bd m i) (hl : m ≤ n) : Bd n i := Nat.lt_of_lt_of_le h (Nat.pow_le_pow_right (by decide) hl)
theorem Bd.mul {m n : Nat} {i j : Int} (h : Bd m i) (g : Bd n j) : Bd (m + n) (i * j) := by
  unfold Bd at *
  rw [Int.natAbs_mul, Nat.pow_add]
  exact Nat.mul_lt_mul'' h g
theorem Bd.add {n : Nat} {i j : Int} (h : Bd n i) (g : Bd n j) : Bd (n + 1) (i + j) := by
  unfold Bd at *
  have := Int.natAbs_add_le i j
  rw [Nat.pow_succ]
  omega
theorem Bd.neg {n : Nat} {i : Int} (h : Bd n i) : Bd n (-i) := by
  unfold Bd at *
  rw [Int.natAbs_neg]
  exact h
theorem Bd.sub {n : Nat} {i j : Int} (h : Bd n i) (g : Bd n j) : Bd (n + 1) (i - j) := by
  rw [Int.sub_eq_add_neg]
  exact h.add g.neg
theorem Bd.log {n : Nat} {i : Int} (h : Bd n i) (hn : 0 < n) : i.natAbs.log2 < n := log2_lt h hn
theorem Bd.mulOk {m n : Nat} {i j : Int} (h : Bd m i) (g : Bd n j) (hm : m + n ≤ 134217728) : IntMulOk i j :=
  IntMulOk.of_le (intBits_le_iff.mpr h) (intBits_le_iff.mpr g) hm
end K01
set_option Elab.async false
set_option linter.all false
set_option maxRecDepth 100000
set_option maxHeartbeats 4000000
namespace K01
open PySem PySem.Spec PyProof.Rows L2 DL
section
variable {κ : Type} [DecidableEq κ]
end
def Sv (B w e : Nat) (p : PyData) : Prop := p.showable = true ∧ p.leavesShort B = true ∧ p.weight ≤ w ∧ p.depth ≤ e
theorem Sv.mono {B w e w' e' : Nat} {p : PyData} (h : Sv B w e p) (h1 : w ≤ w') (h2 : e ≤ e') : Sv B w' e' p := ⟨h.1, h.2.1, Nat.le_trans h.2.2.1 h1, Nat.le_trans h.2.2.2 h2⟩
end K01
set_option Elab.async false
set_option linter.all false
set_option maxRecDepth 100000
set_option maxHeartbeats 4000000
namespace K9
open PySem PySem.Spec PyProof.Rows L2 DL K01
def Feed4 (xs : List PyData) : Prop := ∃ a b c d : Int, xs = [.int a, .int b, .int c, .int d]
def Feeds (m : Mu) (a : Addr) : Prop := ∃ xs, m a = some (.l xs) ∧ Feed4 xs
def Kp (a : Addr) (m m' : Mu) : Prop := ∀ c, c ≠ a → (m c).isSome = true → m' c = m c
abbrev I (i : Int) : D := .dat (.int i)
def kd (k : Bool) : Str := if k then "stretch" else "point"
abbrev kds (k l : Bool) : PyData := .tuple [.str (kd k), .str (kd l)]
mutual
/-- no long text stands in it -/
def shO : PyData → Bool
  | .str z => decide (z.length ≤ 1000)
  | .list xs | .tuple xs => shA xs
  | .none | .bool _ | .int _ | .dict _ => true
def shA : List PyData → Bool
  | [] => true
  | x :: xs => shO x && shA xs
end
def Ly (n : Nat) (p : PyData) : Prop := p.canLay0 = true ∧ p.depth ≤ n ∧ shO p = true
abbrev TH (ts : List (Str × Bool)) : PyData := .tuple (ts.map fun t => .tuple [.str t.1, .str (kd t.2)])
def good (z : Str) : Prop := z.cps.toList.all (fun c => decide (c < 1114112)) = true ∧ z.length ≤ 20
def Nm (zs : List Str) : Prop := zs.Nodup ∧ zs.length ≤ 6 ∧ ∀ z ∈ zs, good z
def Shp : Nat → PyData → Prop
  | 0, p => ∃ z, p = .str z ∧ good z
  | n + 1, p => Shp n p ∨ ∃ xs, p = .tuple xs ∧ xs.length ≤ 40 ∧ ∀ x ∈ xs, Shp n x
def isName : PyData → Bool
  | .str z => decide (1 ≤ z.length) && (decide (z.length ≤ 8) && z.cps.toList.all fun c => Txt.contains "abcdefghijklmnopqrstuvwxyz" ⟨#[c]⟩)
  | _ => false
def isKd : PyData → Bool
  | .str z => decide (z = "point" ∨ z = "stretch")
  | _ => false
def isNK : PyData → Bool
  | .tuple [x, y] => isName x && isKd y
  | _ => false
def nm0 : PyData → Str
  | .tuple (.str z :: _) => z
  | _ => ""
def chk : Str → List PyData → Bool
  | _, [] => true
  | l, x :: xs => isNK x && (decide (l.cps.toList < (nm0 x).cps.toList) && chk (nm0 x) xs)
def isTh : PyData → Bool
  | .tuple xs => decide (1 ≤ xs.length) && (decide (xs.length ≤ 6) && chk "" xs)
  | _ => false
def sp_is_name : DC := fun ds m R => ∃ p, ds = [.dat p] ∧ Ly 40 p ∧ R (.dat (.bool (isName p))) m
def sp_is_named_kind : DC := fun ds m R => ∃ p, ds = [.dat p] ∧ Ly 40 p ∧ R (.dat (.bool (isNK p))) m
def sp_names_of : DC := fun ds m R => ∃ ts : List (Str × PyData), ds = [.dat (.tuple (ts.map fun t => .tuple [.str t.1, t.2]))] ∧ ts.length ≤ 6 ∧ R (.dat (.list (ts.map fun t => .str t.1))) m
def sp_is_things : DC := fun ds m R => ∃ p, ds = [.dat p] ∧ Ly 40 p ∧ R (.dat (.bool (isTh p))) m
def sp_kinds_of : DC := fun ds m R => ∃ (ts : List (Str × Bool)) (a b : Str) (k l : Bool), ds = [.dat (TH ts), .dat (.str a), .dat (.str b)] ∧ ts.length ≤ 6 ∧ (ts.map (·.1)).Nodup ∧ (a, k) ∈ ts ∧ (b, l) ∈ ts ∧ ∀ m', R (.dat (kds k l)) m'
def sp__law_feed : DC := fun ds m R => ∃ (ns : List Int) (k : Int), ds = [.dat (.list (ns.map .int)), I k] ∧ ns.length ≤ 63 ∧ 0 ≤ k ∧ k ≤ 1000 ∧ ∀ a m', Feeds m' a → R (.cel a) m'
def sp__law_draw : DC := fun ds m R => ∃ (a : Addr) (n : Int), ds = [.cel a, I n] ∧ 0 < n ∧ Bd 2000 n ∧ Feeds m a ∧ ∀ (r : Int) m', 0 ≤ r → r < n → Feeds m' a → Kp a m m' → R (I r) m'
def sp__law_names : DC := fun ds m R => ∃ (a : Addr) (n : Int), ds = [.cel a, I n] ∧ 1 ≤ n ∧ n ≤ 6 ∧ Feeds m a ∧ ∀ (zs : List Str) m', (zs.length : Int) = n → Nm zs → Feeds m' a → R (.dat (.list (zs.map .str))) m'
def sp__law_kinds : DC := fun ds m R => ∃ (a : Addr) (n : Int), ds = [.cel a, I n] ∧ 1 ≤ n ∧ n ≤ 6 ∧ Feeds m a ∧ ∀ (ks : List Bool) m', (ks.length : Int) = n → Feeds m' a → R (.dat (.tuple (ks.map fun k => .str (kd k)))) m'
def sp__law_things : DC := fun ds m R => ∃ (a : Addr) (n : Int), ds = [.cel a, I n] ∧ 1 ≤ n ∧ n ≤ 6 ∧ Feeds m a ∧ ∀ (ts : List (Str × Bool)) m', 1 ≤ ts.length → Nm (ts.map (·.1)) → Feeds m' a → R (.dat (TH ts)) m'
def sp__law_is_name : DC := sp_is_name
def sp__law_is_things : DC := sp_is_things
def sp__law_bent : DC := fun ds m R => ∃ (a : Addr) (ts : List (Str × Bool)), ds = [.cel a, .dat (TH ts)] ∧ 1 ≤ ts.length ∧ Nm (ts.map (·.1)) ∧ Feeds m a ∧ ∀ (qs : List PyData) m', qs.length ≤ 10 → (∀ q ∈ qs, Ly 20 q) → Feeds m' a → R (.dat (.list qs)) m'
def sp__law_spoilt : Nat → DC
  | 0 => fun _ _ _ => False
  | n + 1 => fun ds m R => ∃ (a : Addr) (p : PyData), ds = [.cel a, .dat p] ∧ Shp n p ∧ Feeds m a ∧ ∀ q m', Ly (n + 3) q → Feeds m' a → Kp a m m' → R (.dat q) m'
def sp_law : DC := fun ds m R => ∃ ns : List Int, ds = [.dat (.list (ns.map .int))] ∧ ns.length ≤ 63 ∧ ∀ m', R (.dat (.bool true)) m'
end K9
set_option Elab.async false
set_option linter.all false
set_option maxRecDepth 100000
set_option maxHeartbeats 4000000
namespace K9
open PySem PySem.Spec PyProof.Rows L2 DL
-- ranks: is_name 1, is_named_kind 2, names_of 1, is_things 3, kinds_of 1, _law_feed 1, _law_draw 1, _law_names 2, _law_kinds 2, _law_things 3, _law_is_name 1, _law_is_things 2, _law_bent 2, _law_spoilt 6, law 7
def top (i : Nat) : Stmt := PySem.Challenge.pw_whens_k09_things_by_kind.main.body.getD i (.Pass ⟨0, 0, 0, 0⟩)
abbrev s_is_name : Stmt := top 4
abbrev N_is_name : List Str := ["thing"]
abbrev p_is_name : List Str := ["thing"]
theorem sc_is_name : FnScope N_is_name p_is_name (defScope s_is_name) := ⟨rfl, rfl, rfl, by decide +kernel, rfl, by decide +kernel, by decide +kernel⟩
theorem nd_is_name_1 : List.Nodup (["sign"] : List Str) := by decide +kernel
def b_is_name_1 : DS := (dSeq (dRet (dCallB bAll (dCons (dLC [none] (dStrI (dVar 0)) (gN 0) dTrue (dBin aInS (dVar 0) (dCon (.str "abcdefghijklmnopqrstuvwxyz")))) dNil))) dNext)
def b_is_name : DS := (dSeq (dIf (dOrT (dNotT (dTst (dIsi (dVar 0) "str"))) (dNotT (dTst (dChain aLe aLe (dCon (.int 1)) (dCallB bLen (dCons (dVar 0) dNil)) (dCon (.int 8)))))) (dSeq (dRet (dCon (.bool false))) dNext) dNext) b_is_name_1)
abbrev s_is_named_kind : Stmt := top 5
abbrev N_is_named_kind : List Str := ["thing"]
abbrev p_is_named_kind : List Str := ["thing"]
theorem sc_is_named_kind : FnScope N_is_named_kind p_is_named_kind (defScope s_is_named_kind) := ⟨rfl, rfl, rfl, by decide +kernel, rfl, by decide +kernel, by decide +kernel⟩
def b_is_named_kind : DS := (dSeq (dRet (dAnd (dIsi (dVar 0) "tuple") (dAnd (dBin aEq (dCallB bLen (dCons (dVar 0) dNil)) (dCon (.int 2))) (dAnd (dCall 1 sp_is_name (dCons (dBin aIx (dVar 0) (dCon (.int 0))) dNil)) (dBin aInD (dBin aIx (dVar 0) (dCon (.int 1))) (dTup (dCons (dCon (.str "point")) (dCons (dCon (.str "stretch")) dNil)))))))) dNext)
abbrev s_is_things : Stmt := top 6
abbrev N_is_things : List Str := ["thing", "names"]
abbrev p_is_things : List Str := ["thing"]
theorem sc_is_things : FnScope N_is_things p_is_things (defScope s_is_things) := ⟨rfl, rfl, rfl, by decide +kernel, rfl, by decide +kernel, by decide +kernel⟩
theorem nd_is_things_1 : List.Nodup (["part"] : List Str) := by decide +kernel
def b_is_things_3 : DS := (dSeq (dRet (dBin aEq (dVar 1) (dSortSet (dVar 1)))) dNext)
def b_is_things_2 : DS := (dSeq (dSet 1 (dCall 1 sp_names_of (dCons (dVar 0) dNil))) b_is_things_3)
def b_is_things_1 : DS := (dSeq (dIf (dNotT (dTst (dCallB bAll (dCons (dLC [none] (dSeqI (dVar 0)) (gN 0) dTrue (dCall 1 sp_is_named_kind (dCons (dVar 0) dNil))) dNil)))) (dSeq (dRet (dCon (.bool false))) dNext) dNext) b_is_things_2)
def b_is_things : DS := (dSeq (dIf (dOrT (dNotT (dTst (dIsi (dVar 0) "tuple"))) (dNotT (dTst (dChain aLe aLe (dCon (.int 1)) (dCallB bLen (dCons (dVar 0) dNil)) (dCon (.int 6)))))) (dSeq (dRet (dCon (.bool false))) dNext) dNext) b_is_things_1)
abbrev s_names_of : Stmt := top 7
abbrev N_names_of : List Str := ["things"]
abbrev p_names_of : List Str := ["things"]
theorem sc_names_of : FnScope N_names_of p_names_of (defScope s_names_of) := ⟨rfl, rfl, rfl, by decide +kernel, rfl, by decide +kernel, by decide +kernel⟩
theorem nd_names_of_1 : List.Nodup (["name", "kind"] : List Str) := by decide +kernel
def b_names_of : DS := (dSeq (dRet (dLC [none, none] (dSeqI (dVar 0)) (gT 2 (gNs (gN 0) (gNs (gN 1) gN0))) dTrue (dVar 0))) dNext)
abbrev s_kinds_of : Stmt := top 8
abbrev N_kinds_of : List Str := ["things", "a", "b", "kinds"]
abbrev p_kinds_of : List Str := ["things", "a", "b"]
theorem sc_kinds_of : FnScope N_kinds_of p_kinds_of (defScope s_kinds_of) := ⟨rfl, rfl, rfl, by decide +kernel, rfl, by decide +kernel, by decide +kernel⟩
def b_kinds_of_1 : DS := (dSeq (dRet (dTup (dCons (dDGet (dVar 3) (dVar 1)) (dCons (dDGet (dVar 3) (dVar 2)) dNil)))) dNext)
def b_kinds_of : DS := (dSeq (dSet 3 (dDictP (dVar 0))) b_kinds_of_1)
abbrev s__law_feed : Stmt := top 10
abbrev N__law_feed : List Str := ["_law_script", "_law_k", "_law_cell"]
abbrev p__law_feed : List Str := ["_law_script", "_law_k"]
theorem sc__law_feed : FnScope N__law_feed p__law_feed (defScope s__law_feed) := ⟨rfl, rfl, rfl, by decide +kernel, rfl, by decide +kernel, by decide +kernel⟩
def b__law_feed_2 : DS := (dSeq (dRet (dLstC (dCons (dCallB bMax (dCons (dCon (.int 0)) (dCons (dBin aSub (dVar 2) (dBin aPow (dCon (.int 10)) (dCon (.int 18)))) dNil))) (dCons (dVar 2) (dCons (dVar 1) (dCons (dCon (.int 0)) dNil)))))) dNext)
def b__law_feed_1 : DS := (dSeq (dSet 2 (dBin aIx (dVar 0) (dBin aMod (dVar 1) (dCallB bLen (dCons (dVar 0) dNil))))) b__law_feed_2)
def b__law_feed : DS := (dSeq (dIf (dTst (dBin aEq (dCallB bLen (dCons (dVar 0) dNil)) (dCon (.int 0)))) (dSeq (dRet (dLstC (dCons (dCon (.int 0)) (dCons (dCon (.int 0)) (dCons (dVar 1) (dCons (dCon (.int 0)) dNil)))))) dNext) dNext) b__law_feed_1)
abbrev s__law_draw : Stmt := top 11
abbrev N__law_draw : List Str := ["_law_feed_here", "_law_many", "_law_figure", "_law_number"]
abbrev p__law_draw : List Str := ["_law_feed_here", "_law_many"]
theorem sc__law_draw : FnScope N__law_draw p__law_draw (defScope s__law_draw) := ⟨rfl, rfl, rfl, by decide +kernel, rfl, by decide +kernel, by decide +kernel⟩
def b__law_draw_B0_2 : DS := (dSeq (dRet (dVar 2)) dNext)
def b__law_draw_B0_1 : DS := (dSeq (dPut (dVar 0) (dCon (.int 0)) (dBin aDiv (dBin aIx (dVar 0) (dCon (.int 0))) (dVar 1))) b__law_draw_B0_2)
def b__law_draw_B0 : DS := (dSeq (dSet 2 (dBin aMod (dBin aIx (dVar 0) (dCon (.int 0))) (dVar 1))) b__law_draw_B0_1)
def b__law_draw_5 : DS := (dSeq (dRet (dBin aMod (dVar 3) (dVar 1))) dNext)
def b__law_draw_4 : DS := (dSeq (dSet 3 (dBin aMod (dBin aAdd (dBin aAdd (dBin aMul (dVar 3) (dVar 3)) (dBin aMul (dCon (.int 69621)) (dVar 3))) (dBin aIx (dVar 0) (dCon (.int 3)))) (dCon (.int 2147483587)))) b__law_draw_5)
def b__law_draw_3 : DS := (dSeq (dSet 3 (dBin aMod (dBin aAdd (dBin aAdd (dBin aMul (dVar 3) (dVar 3)) (dBin aMul (dCon (.int 48271)) (dVar 3))) (dBin aIx (dVar 0) (dCon (.int 2)))) (dCon (.int 2147483629)))) b__law_draw_4)
def b__law_draw_2 : DS := (dSeq (dSet 3 (dBin aMod (dBin aAdd (dBin aAdd (dBin aIx (dVar 0) (dCon (.int 1))) (dBin aMul (dCon (.int 7919)) (dBin aIx (dVar 0) (dCon (.int 2))))) (dBin aMul (dCon (.int 104729)) (dBin aIx (dVar 0) (dCon (.int 3))))) (dCon (.int 2147483629)))) b__law_draw_3)
def b__law_draw_1 : DS := (dSeq (dIf (dTst (dBin aGt (dBin aIx (dVar 0) (dCon (.int 0))) (dCon (.int 0)))) b__law_draw_B0 dNext) b__law_draw_2)
def b__law_draw : DS := (dSeq (dPut (dVar 0) (dCon (.int 3)) (dBin aAdd (dBin aIx (dVar 0) (dCon (.int 3))) (dCon (.int 1)))) b__law_draw_1)
abbrev s__law_names : Stmt := top 12
abbrev N__law_names : List Str := ["_law_feed_here", "_law_many", "_law_menu", "_law_first", "_law_step", "_law_names_here", "_law_letters", "_law_base", "_law_at"]
abbrev p__law_names : List Str := ["_law_feed_here", "_law_many"]
theorem sc__law_names : FnScope N__law_names p__law_names (defScope s__law_names) := ⟨rfl, rfl, rfl, by decide +kernel, rfl, by decide +kernel, by decide +kernel⟩
theorem nd__law_names_1 : List.Nodup (["_law_k", "_law_menu", "_law_first", "_law_step"] : List Str) := by decide +kernel
theorem nd__law_names_2 : List.Nodup (["_law_k", "_law_feed_here", "_law_letters"] : List Str) := by decide +kernel
theorem nd__law_names_3 : List.Nodup (["_law_k", "_law_first", "_law_letters", "_law_base", "_law_at"] : List Str) := by decide +kernel
def b__law_names_B0_3 : DS := (dSeq (dSet 5 (dLC [none, some 3, some 6, some 7, some 8] (dRngI (dVar 1)) (gN 0) dTrue (dBin aAdd (dBin aAdd (dSlE (dVar 3) dNoP (dPart (dVar 4))) (dBin aIx (dVar 2) (dBin aMod (dBin aAdd (dVar 1) (dBin aMul (dCon (.int 3)) (dVar 0))) (dCon (.int 26))))) (dSlE (dVar 3) (dPart (dVar 4)) dNoP)))) dNext)
def b__law_names_B0_2 : DS := (dSeq (dSet 8 (dCall 2 sp__law_draw (dCons (dVar 0) (dCons (dBin aAdd (dCallB bLen (dCons (dVar 7) dNil)) (dCon (.int 1))) dNil)))) b__law_names_B0_3)
def b__law_names_B0_1 : DS := (dSeq (dSet 7 (dJoin "" (dLC [none, some 0, some 6] (dRngI (dCall 2 sp__law_draw (dCons (dVar 0) (dCons (dCon (.int 8)) dNil)))) (gN 0) dTrue (dBin aIx (dVar 2) (dCall 2 sp__law_draw (dCons (dVar 1) (dCons (dCon (.int 26)) dNil))))))) b__law_names_B0_2)
def b__law_names_B0 : DS := (dSeq (dSet 6 (dCon (.str "abcdefghijklmnopqrstuvwxyz"))) b__law_names_B0_1)
def b__law_names_5 : DS := (dSeq (dRet (dCallB bSorted (dCons (dVar 5) dNil))) dNext)
def b__law_names_4 : DS := (dSeq (dIf (dTst (dBin aEq (dCall 2 sp__law_draw (dCons (dVar 0) (dCons (dCon (.int 3)) dNil))) (dCon (.int 0)))) b__law_names_B0 dNext) b__law_names_5)
def b__law_names_3 : DS := (dSeq (dSet 5 (dLC [none, some 2, some 3, some 4] (dRngI (dVar 1)) (gN 0) dTrue (dBin aIx (dVar 1) (dBin aMod (dBin aAdd (dVar 2) (dBin aMul (dVar 3) (dVar 0))) (dCon (.int 12)))))) b__law_names_4)
def b__law_names_2 : DS := (dSeq (dSet 4 (dBin aIx (dLst (dCons (dCon (.int 1)) (dCons (dCon (.int 5)) (dCons (dCon (.int 7)) (dCons (dCon (.int 11)) dNil))))) (dCall 2 sp__law_draw (dCons (dVar 0) (dCons (dCon (.int 4)) dNil))))) b__law_names_3)
def b__law_names_1 : DS := (dSeq (dSet 3 (dCall 2 sp__law_draw (dCons (dVar 0) (dCons (dCon (.int 12)) dNil)))) b__law_names_2)
def b__law_names : DS := (dSeq (dSet 2 (dLst (dCons (dCon (.str "a")) (dCons (dCon (.str "ab")) (dCons (dCon (.str "abc")) (dCons (dCon (.str "b")) (dCons (dCon (.str "point")) (dCons (dCon (.str "may")) (dCons (dCon (.str "gap")) (dCons (dCon (.str "begin")) (dCons (dCon (.str "strict")) (dCons (dCon (.str "o")) (dCons (dCon (.str "stretch")) (dCons (dCon (.str "zzzzzzzz")) dNil)))))))))))))) b__law_names_1)
abbrev s__law_kinds : Stmt := top 13
abbrev N__law_kinds : List Str := ["_law_feed_here", "_law_many", "_law_some"]
abbrev p__law_kinds : List Str := ["_law_feed_here", "_law_many"]
theorem sc__law_kinds : FnScope N__law_kinds p__law_kinds (defScope s__law_kinds) := ⟨rfl, rfl, rfl, by decide +kernel, rfl, by decide +kernel, by decide +kernel⟩
theorem nd__law_kinds_1 : List.Nodup (["_law_k", "_law_feed_here"] : List Str) := by decide +kernel
theorem nd__law_kinds_2 : List.Nodup (["_law_k"] : List Str) := by decide +kernel
def b__law_kinds_2 : DS := (dSeq (dRet (dCallB bTuple (dCons (dVar 2) dNil))) dNext)
def b__law_kinds_1 : DS := (dSeq (dIf (dTst (dBin aEq (dCall 2 sp__law_draw (dCons (dVar 0) (dCons (dCon (.int 3)) dNil))) (dCon (.int 0)))) (dSeq (dSet 2 (dLC [none] (dRngI (dVar 1)) (gN 0) dTrue (dCon (.str "stretch")))) dNext) dNext) b__law_kinds_2)
def b__law_kinds : DS := (dSeq (dSet 2 (dLC [none, some 0] (dRngI (dVar 1)) (gN 0) dTrue (dBin aIx (dLst (dCons (dCon (.str "point")) (dCons (dCon (.str "stretch")) dNil))) (dCall 2 sp__law_draw (dCons (dVar 1) (dCons (dCon (.int 2)) dNil)))))) b__law_kinds_1)
abbrev s__law_things : Stmt := top 14
abbrev N__law_things : List Str := ["_law_feed_here", "_law_most", "_law_names_here", "_law_kinds_here"]
abbrev p__law_things : List Str := ["_law_feed_here", "_law_most"]
theorem sc__law_things : FnScope N__law_things p__law_things (defScope s__law_things) := ⟨rfl, rfl, rfl, by decide +kernel, rfl, by decide +kernel, by decide +kernel⟩
theorem nd__law_things_1 : List.Nodup (["_law_k", "_law_names_here", "_law_kinds_here"] : List Str) := by decide +kernel
def b__law_things_2 : DS := (dSeq (dRet (dCallB bTuple (dCons (dLC [none, some 2, some 3] (dRngI (dCallB bLen (dCons (dVar 2) dNil))) (gN 0) dTrue (dTup (dCons (dBin aIx (dVar 1) (dVar 0)) (dCons (dBin aIx (dVar 2) (dVar 0)) dNil)))) dNil))) dNext)
def b__law_things_1 : DS := (dSeq (dSet 3 (dCall 2 sp__law_kinds (dCons (dVar 0) (dCons (dCallB bLen (dCons (dVar 2) dNil)) dNil)))) b__law_things_2)
def b__law_things : DS := (dSeq (dSet 2 (dCall 2 sp__law_names (dCons (dVar 0) (dCons (dBin aAdd (dCon (.int 1)) (dCall 2 sp__law_draw (dCons (dVar 0) (dCons (dVar 1) dNil)))) dNil)))) b__law_things_1)
abbrev s__law_is_name : Stmt := top 15
abbrev N__law_is_name : List Str := ["_law_thing"]
abbrev p__law_is_name : List Str := ["_law_thing"]
theorem sc__law_is_name : FnScope N__law_is_name p__law_is_name (defScope s__law_is_name) := ⟨rfl, rfl, rfl, by decide +kernel, rfl, by decide +kernel, by decide +kernel⟩
theorem nd__law_is_name_1 : List.Nodup (["_law_sign"] : List Str) := by decide +kernel
def b__law_is_name_1 : DS := (dSeq (dRet (dBin aNotIn (dCon (.bool false)) (dLC [none] (dStrI (dVar 0)) (gN 0) dTrue (dBin aInS (dVar 0) (dCon (.str "abcdefghijklmnopqrstuvwxyz")))))) dNext)
def b__law_is_name : DS := (dSeq (dIf (dOrT (dNotT (dTst (dIsi (dVar 0) "str"))) (dNotT (dTst (dChain aLe aLe (dCon (.int 1)) (dCallB bLen (dCons (dVar 0) dNil)) (dCon (.int 8)))))) (dSeq (dRet (dCon (.bool false))) dNext) dNext) b__law_is_name_1)
abbrev s__law_is_things : Stmt := top 16
abbrev N__law_is_things : List Str := ["_law_thing", "_law_last", "_law_one"]
abbrev p__law_is_things : List Str := ["_law_thing"]
theorem sc__law_is_things : FnScope N__law_is_things p__law_is_things (defScope s__law_is_things) := ⟨rfl, rfl, rfl, by decide +kernel, rfl, by decide +kernel, by decide +kernel⟩
def b__law_is_things_L0_2 : DS := (dSeq (dSet 1 (dBin aIx (dVar 2) (dCon (.int 0)))) dNext)
def b__law_is_things_L0_1 : DS := (dSeq (dIf (dOrT (dNotT (dTst (dIsi (dBin aIx (dVar 2) (dCon (.int 1))) "str"))) (dTst (dBin aNotIn (dBin aIx (dVar 2) (dCon (.int 1))) (dLst (dCons (dCon (.str "point")) (dCons (dCon (.str "stretch")) dNil)))))) (dSeq (dRet (dCon (.bool false))) dNext) dNext) b__law_is_things_L0_2)
def b__law_is_things_L0 : DS := (dSeq (dIf (dOrT (dNotT (dTst (dIsi (dVar 2) "tuple"))) (dOrT (dTst (dBin aNe (dCallB bLen (dCons (dVar 2) dNil)) (dCon (.int 2)))) (dOrT (dNotT (dTst (dCall 1 sp__law_is_name (dCons (dBin aIx (dVar 2) (dCon (.int 0))) dNil)))) (dTst (dBin aLeS (dBin aIx (dVar 2) (dCon (.int 0))) (dVar 1)))))) (dSeq (dRet (dCon (.bool false))) dNext) dNext) b__law_is_things_L0_1)
def b__law_is_things_3 : DS := (dSeq (dRet (dCon (.bool true))) dNext)
def b__law_is_things_2 : DS := (dSeq (dFor (dSeqI (dVar 0)) (gN 2) b__law_is_things_L0) b__law_is_things_3)
def b__law_is_things_1 : DS := (dSeq (dSet 1 (dCon (.str ""))) b__law_is_things_2)
def b__law_is_things : DS := (dSeq (dIf (dOrT (dNotT (dTst (dIsi (dVar 0) "tuple"))) (dNotT (dTst (dChain aLe aLe (dCon (.int 1)) (dCallB bLen (dCons (dVar 0) dNil)) (dCon (.int 6)))))) (dSeq (dRet (dCon (.bool false))) dNext) dNext) b__law_is_things_1)
abbrev s__law_bent : Stmt := top 17
abbrev N__law_bent : List Str := ["_law_feed_here", "_law_things_here", "_law_at", "_law_name", "_law_kind", "_law_odd", "_law_other", "_law_ones", "_law_some", "_law_more"]
abbrev p__law_bent : List Str := ["_law_feed_here", "_law_things_here"]
theorem sc__law_bent : FnScope N__law_bent p__law_bent (defScope s__law_bent) := ⟨rfl, rfl, rfl, by decide +kernel, rfl, by decide +kernel, by decide +kernel⟩
theorem nd__law_bent_1 : List.Nodup (["_law_one", "_law_things_here", "_law_at"] : List Str) := by decide +kernel
theorem nd__law_bent_2 : List.Nodup (["_law_letter"] : List Str) := by decide +kernel
theorem nd__law_bent_3 : List.Nodup (["_law_k", "_law_feed_here", "_law_some"] : List Str) := by decide +kernel
def b__law_bent_9 : DS := (dSeq (dRet (dBin aAdd (dLC [none, some 0, some 8] (dRngI (dCon (.int 4))) (gN 0) dTrue (dBin aIx (dVar 2) (dCall 2 sp__law_draw (dCons (dVar 1) (dCons (dCon (.int 16)) dNil))))) (dLst (dCons (dCallB bTuple (dCons (dSlY (dVar 9) dNoP (dPart (dBin aAdd (dCon (.int 5)) (dCall 2 sp__law_draw (dCons (dVar 0) (dCons (dCon (.int 3)) dNil)))))) dNil)) (dCons (dVar 1) dNil))))) dNext)
def b__law_bent_8 : DS := (dSeq (dSet 9 (dLC [none] (dStrI (dCon (.str "abcdefg"))) (gN 0) dTrue (dTup (dCons (dBin aAdd (dCon (.str "p")) (dVar 0)) (dCons (dCon (.str "stretch")) dNil))))) b__law_bent_9)
def b__law_bent_7 : DS := (dSeq (dSet 8 (dBin aAdd (dVar 8) (dLC [none, some 1, some 2] (dSeqI (dVar 7)) (gN 0) dTrue (dBin aAdd (dBin aAdd (dSlY (dVar 1) dNoP (dPart (dVar 2))) (dTup (dCons (dVar 0) dNil))) (dSlY (dVar 1) (dPart (dBin aAdd (dVar 2) (dCon (.int 1)))) dNoP))))) b__law_bent_8)
def b__law_bent_6 : DS := (dSeq (dSet 8 (dBin aAdd (dVar 8) (dLst (dCons (dTup dNil) (dCons (dCon .none) (dCons (dCon (.str "a")) (dCons (dBin aIx (dVar 1) (dCon (.int 0))) dNil))))))) b__law_bent_7)
def b__law_bent_5 : DS := (dSeq (dSet 8 (dLst (dCons (dCallB bList (dCons (dVar 1) dNil)) (dCons (dRev (dVar 1)) (dCons (dBin aAdd (dVar 1) (dSlY (dVar 1) (dPart (dNeg (dCon (.int 1)))) dNoP)) (dCons (dBin aAdd (dVar 1) (dTup (dCons (dTup (dCons (dCon (.str "zzzzzzzz")) (dCons (dCon (.str "point")) dNil))) dNil))) dNil)))))) b__law_bent_6)
def b__law_bent_4 : DS := (dSeq (dSet 7 (dLst (dCons (dLst (dCons (dVar 3) (dCons (dVar 4) dNil))) (dCons (dTup (dCons (dVar 3) dNil)) (dCons (dTup (dCons (dVar 3) (dCons (dVar 4) (dCons (dVar 4) dNil)))) (dCons (dTup (dCons (dVar 5) (dCons (dVar 4) dNil))) (dCons (dTup (dCons (dVar 3) (dCons (dVar 6) dNil))) (dCons (dTup (dCons (dVar 4) (dCons (dVar 3) dNil))) (dCons (dVar 3) (dCons (dCon .none) dNil)))))))))) b__law_bent_5)
def b__law_bent_3 : DS := (dSeq (dSet 6 (dBin aIx (dLst (dCons (dCon (.str "points")) (dCons (dCon (.str "")) (dCons (dCon .none) (dCons (dCon (.bool true)) (dCons (dCon (.str "Point")) (dCons (dTup (dCons (dCon (.str "point")) dNil)) (dCons (dCon (.str "strict")) (dCons (dCon (.str "end")) (dCons (dLst (dCons (dCon (.str "point")) dNil)) (dCons (dLst dNil) dNil))))))))))) (dCall 2 sp__law_draw (dCons (dVar 0) (dCons (dCon (.int 10)) dNil))))) b__law_bent_4)
def b__law_bent_2 : DS := (dSeq (dSet 5 (dBin aIx (dLst (dCons (dCon (.str "")) (dCons (dCon (.str "A")) (dCons (dCon (.str "a b")) (dCons (dCon (.str "abcdefghi")) (dCons (dCon (.str "a1")) (dCons (dCon .none) (dCons (dCon (.int 7)) (dCons (dCon (.bool true)) (dCons (dTup (dCons (dCon (.str "a")) dNil)) (dCons (dCon (.str "zz-")) (dCons (dBin aAdd (dVar 3) (dVar 3)) (dCons (dLst (dCons (dCon (.str "a")) dNil)) (dCons (dLst dNil) dNil)))))))))))))) (dCall 2 sp__law_draw (dCons (dVar 0) (dCons (dCon (.int 13)) dNil))))) b__law_bent_3)
def b__law_bent_1 : DS := (dSeq (dAsg (dBin aIx (dVar 1) (dVar 2)) (gT 2 (gNs (gN 3) (gNs (gN 4) gN0)))) b__law_bent_2)
def b__law_bent : DS := (dSeq (dSet 2 (dCall 2 sp__law_draw (dCons (dVar 0) (dCons (dCallB bLen (dCons (dVar 1) dNil)) dNil)))) b__law_bent_1)
abbrev s__law_spoilt : Stmt := top 18
abbrev N__law_spoilt : List Str := ["_law_feed_here", "_law_thing", "_law_at", "_law_some", "_law_sign"]
abbrev p__law_spoilt : List Str := ["_law_feed_here", "_law_thing"]
theorem sc__law_spoilt : FnScope N__law_spoilt p__law_spoilt (defScope s__law_spoilt) := ⟨rfl, rfl, rfl, by decide +kernel, rfl, by decide +kernel, by decide +kernel⟩
def b__law_spoilt_B0_1 (j : Nat) : DS := (dSeq (dRet (dBin aIx (dBin aAdd (dVar 3) (dLst (dCons (dBin aAdd (dVar 1) (dTup (dCons (dCon (.int 0)) dNil))) dNil))) (dCall 2 sp__law_draw (dCons (dVar 0) (dCons (dCon (.int 5)) dNil))))) dNext)
def b__law_spoilt_B0 (j : Nat) : DS := (dSeq (dSet 3 (dLst (dCons (dCallB bList (dCons (dVar 1) dNil)) (dCons (dBin aAdd (dSlY (dVar 1) dNoP (dPart (dVar 2))) (dSlY (dVar 1) (dPart (dBin aAdd (dVar 2) (dCon (.int 1)))) dNoP)) (dCons (dBin aAdd (dBin aAdd (dSlY (dVar 1) dNoP (dPart (dVar 2))) (dSlY (dVar 1) (dPart (dVar 2)) (dPart (dBin aAdd (dVar 2) (dCon (.int 1)))))) (dSlY (dVar 1) (dPart (dVar 2)) dNoP)) (dCons (dRev (dVar 1)) dNil)))))) (b__law_spoilt_B0_1 j))
def b__law_spoilt_B1_2 (j : Nat) : DS := (dSeq (dRet (dBin aIx (dBin aAdd (dVar 3) (dLst (dCons (dTup (dCons (dVar 1) dNil)) dNil))) (dCall 2 sp__law_draw (dCons (dVar 0) (dCons (dCon (.int 4)) dNil))))) dNext)
def b__law_spoilt_B1_1 (j : Nat) : DS := (dSeq (dSet 3 (dLst (dCons (dBin aAdd (dBin aAdd (dSlY (dVar 1) dNoP (dPart (dVar 2))) (dVar 4)) (dSlY (dVar 1) (dPart (dBin aAdd (dVar 2) (dCon (.int 1)))) dNoP)) (dCons (dBin aAdd (dBin aAdd (dSlY (dVar 1) dNoP (dPart (dVar 2))) (dVar 4)) (dSlY (dVar 1) (dPart (dVar 2)) dNoP)) (dCons (dBin aAdd (dSlY (dVar 1) dNoP (dPart (dVar 2))) (dSlY (dVar 1) (dPart (dBin aAdd (dVar 2) (dCon (.int 1)))) dNoP)) dNil))))) (b__law_spoilt_B1_2 j))
def b__law_spoilt_B1 (j : Nat) : DS := (dSeq (dSet 4 (dBin aIx (dCon (.str "abcdefghijklmnopqrstuvwxyz.A 0`{|}~\x40[Z_9")) (dCall 2 sp__law_draw (dCons (dVar 0) (dCons (dCon (.int 40)) dNil))))) (b__law_spoilt_B1_1 j))
def b__law_spoilt_5 (j : Nat) : DS := (dSeq (dRet (dBin aIx (dLst (dCons (dBin aAdd (dVar 1) (dCon (.int 1))) (dCons (dBin aSub (dVar 1) (dCon (.int 1))) (dCons (dBin aSub (dCon (.int 0)) (dVar 1)) (dCons (dBin aEq (dVar 1) (dCon (.int 1))) (dCons (dCallB bStr (dCons (dVar 1) dNil)) (dCons (dLst (dCons (dVar 1) dNil)) dNil))))))) (dCall 2 sp__law_draw (dCons (dVar 0) (dCons (dCon (.int 6)) dNil))))) dNext)
def b__law_spoilt_4 (j : Nat) : DS := (dSeq (dIf (dTst (dIsi (dVar 1) "bool")) (dSeq (dRet (dBin aIx (dLst (dCons (dCallB bInt (dCons (dVar 1) dNil)) (dCons (dNot (dVar 1)) (dCons (dCon .none) dNil)))) (dCall 2 sp__law_draw (dCons (dVar 0) (dCons (dCon (.int 3)) dNil))))) dNext) dNext) (b__law_spoilt_5 j))
def b__law_spoilt_3 (j : Nat) : DS := (dSeq (dIf (dTst (dIsi (dVar 1) "str")) (b__law_spoilt_B1 j) dNext) (b__law_spoilt_4 j))
def b__law_spoilt_2 (j : Nat) : DS := (dSeq (dIf (dTst (dIsi (dVar 1) "tuple")) (b__law_spoilt_B0 j) dNext) (b__law_spoilt_3 j))
def b__law_spoilt_1 (j : Nat) : DS := (dSeq (dIf (dAndT (dTst (dIsi (dVar 1) "tuple")) (dAndT (dTst (dBin aLt (dVar 2) (dCallB bLen (dCons (dVar 1) dNil)))) (dTst (dBin aGt (dCall 2 sp__law_draw (dCons (dVar 0) (dCons (dCon (.int 5)) dNil))) (dCon (.int 0)))))) (dSeq (dRet (dBin aAdd (dBin aAdd (dSlY (dVar 1) dNoP (dPart (dVar 2))) (dTup (dCons (dCall 2 (sp__law_spoilt j) (dCons (dVar 0) (dCons (dBin aIx (dVar 1) (dVar 2)) dNil))) dNil))) (dSlY (dVar 1) (dPart (dBin aAdd (dVar 2) (dCon (.int 1)))) dNoP))) dNext) dNext) (b__law_spoilt_2 j))
def b__law_spoilt (j : Nat) : DS := (dSeq (dSet 2 (dIte (dTst (dIsi2 (dVar 1) "tuple" "str")) (dCall 2 sp__law_draw (dCons (dVar 0) (dCons (dBin aAdd (dCallB bLen (dCons (dVar 1) dNil)) (dCon (.int 1))) dNil))) (dCon (.int 0)))) (b__law_spoilt_1 j))
abbrev s_law : Stmt := top 19
abbrev N_law : List Str := ["_law_script", "_law_k", "_law_feed_here", "_law_things_here", "_law_thing", "_law_a", "_law_one", "_law_b", "_law_other"]
abbrev p_law : List Str := ["_law_script"]
theorem sc_law : FnScope N_law p_law (defScope s_law) := ⟨rfl, rfl, rfl, by decide +kernel, rfl, by decide +kernel, by decide +kernel⟩
theorem nd_law_1 : List.Nodup (["_law_j", "_law_feed_here", "_law_things_here"] : List Str) := by decide +kernel
def b_law_L1 : DS := (dSeq (dIf (dTst (dBin aNe (dCallB bRepr (dCons (dCall 1 sp_is_things (dCons (dVar 4) dNil)) dNil)) (dCallB bRepr (dCons (dCall 1 sp__law_is_things (dCons (dVar 4) dNil)) dNil)))) (dSeq (dRet (dCon (.bool false))) dNext) dNext) dNext)
def b_law_L0_5 : DS := (dSeq (dIf (dAndT (dTst (dBin aNe (dVar 5) (dVar 7))) (dTst (dBin aNe (dCallB bRepr (dCons (dCall 3 sp_kinds_of (dCons (dVar 3) (dCons (dVar 5) (dCons (dVar 7) dNil)))) dNil)) (dCallB bRepr (dCons (dTup (dCons (dVar 6) (dCons (dVar 8) dNil))) dNil))))) (dSeq (dRet (dCon (.bool false))) dNext) dNext) dNext)
def b_law_L0_4 : DS := (dSeq (dAsg (dBin aIx (dVar 3) (dCall 2 sp__law_draw (dCons (dVar 2) (dCons (dCallB bLen (dCons (dVar 3) dNil)) dNil)))) (gT 2 (gNs (gN 7) (gNs (gN 8) gN0)))) b_law_L0_5)
def b_law_L0_3 : DS := (dSeq (dAsg (dBin aIx (dVar 3) (dCall 2 sp__law_draw (dCons (dVar 2) (dCons (dCallB bLen (dCons (dVar 3) dNil)) dNil)))) (gT 2 (gNs (gN 5) (gNs (gN 6) gN0)))) b_law_L0_4)
def b_law_L0_2 : DS := (dSeq (dFor (dSeqI (dBin aAdd (dCall 2 sp__law_bent (dCons (dVar 2) (dCons (dVar 3) dNil))) (dLC [none, some 2, some 3] (dRngI (dCon (.int 4))) (gN 0) dTrue (dCall 2 (sp__law_spoilt 4) (dCons (dVar 1) (dCons (dVar 2) dNil)))))) (gN 4) b_law_L1) b_law_L0_3)
def b_law_L0_1 : DS := (dSeq (dSet 3 (dCall 2 sp__law_things (dCons (dVar 2) (dCons (dCon (.int 6)) dNil)))) b_law_L0_2)
def b_law_L0 : DS := (dSeq (dSet 2 (dCall 2 sp__law_feed (dCons (dVar 0) (dCons (dVar 1) dNil)))) b_law_L0_1)
def b_law_1 : DS := (dSeq (dRet (dCon (.bool true))) dNext)
def b_law : DS := (dSeq (dFor (dRngI (dCon (.int 6))) (gN 1) b_law_L0) b_law_1)
end K9
namespace K9
open PySem PySem.Spec PyProof.Rows L2 DL
section
variable {P : Program} {w : World} {K : PySem.W.Frag} {mg : Str → Option Value} {base : Heap}
theorem ok_is_name {a_is_name : Addr} {fd_is_name : FuncData} (F_is_name : Fun K "is_name" "is_name" s_is_name a_is_name fd_is_name) {t_LONGEST_NAME : Tok} (M_LONGEST_NAME : mg "LONGEST_NAME" = some (.int (8) t_LONGEST_NAME)) {t_LETTERS : Tok} (M_LETTERS : mg "LETTERS" = some (.str "abcdefghijklmnopqrstuvwxyz" t_LETTERS)) (m_isinstance : mg "isinstance" = none) (m_str : mg "str" = none) (m_len : mg "len" = none) (m_all : mg "all" = none)
    (vc : ∀ ds m R, ds.length = p_is_name.length → sp_is_name ds m R → b_is_name { nx := fun _ m => R (.dat .none) m, rt := R } (start2 N_is_name ds) m) : FnOk P w K mg base CX0 1 a_is_name fd_is_name p_is_name (LSp K 1 sp_is_name) :=
  qfn_body (k := 0) F_is_name sc_is_name (body := b_is_name) (fun cdv A outer s H E hr => have nd := (sc_is_name).nd; (qlss_cons (qls_if (QW.pt (qlw_or (qlt_not (qlt_val (qle_isi rfl m_isinstance rfl m_str boot_str_ (Or.inr (Or.inr (Or.inl rfl))) (qle_var 0)))) (qlw_or1 (qlt_not (qlt_chain od_le od_le qle_int (qle_callB cd_len rfl m_len boot_len_ (qla_cons (qle_var 0) qla_nil)) (qle_gint rfl M_LONGEST_NAME)))))) (qlss_cons (qls_ret qle_bl) qlss_nil) qlss_nil) (qlss_cons (qls_ret (qle_callB (cd_all rfl) rfl m_all boot_all_ (qla_cons (qle_lcB ["sign"] [none] rfl (qli_str (qle_var 0)) (fun cl C s2 H2 pins fp => (qlg_name 0 nd_is_name_1)) (fun cl C s2 H2 pins fp => qpf_nil) (fun cl C s2 H2 pins fp => (qle_cmp od_inS (qle_var 0) (qle_gstr rfl M_LETTERS) (hm := by with_unfolding_all rfl)))) qla_nil))) qlss_nil))) vc
theorem ok_is_named_kind {a_is_named_kind : Addr} {fd_is_named_kind : FuncData} (F_is_named_kind : Fun K "is_named_kind" "is_named_kind" s_is_named_kind a_is_named_kind fd_is_named_kind) {a_is_name : Addr} {fd_is_name : FuncData} (F_is_name : Fun K "is_name" "is_name" s_is_name a_is_name fd_is_name) (B_is_name : Binds K fd_is_name p_is_name []) (M_is_name : mg "is_name" = some (.ref a_is_name)) (C_is_name : FnOk P w K mg base CX0 1 a_is_name fd_is_name p_is_name (LSp K 1 sp_is_name)) (m_isinstance : mg "isinstance" = none) (m_tuple : mg "tuple" = none) (m_len : mg "len" = none)
    (vc : ∀ ds m R, ds.length = p_is_named_kind.length → sp_is_named_kind ds m R → b_is_named_kind { nx := fun _ m => R (.dat .none) m, rt := R } (start2 N_is_named_kind ds) m) : FnOk P w K mg base CX0 2 a_is_named_kind fd_is_named_kind p_is_named_kind (LSp K 1 sp_is_named_kind) :=
  qfn_body (k := 1) F_is_named_kind sc_is_named_kind (body := b_is_named_kind) (fun cdv A outer s H E hr => have nd := (sc_is_named_kind).nd; (qlss_cons (qls_ret (qle_and (qle_isi rfl m_isinstance rfl m_tuple boot_tuple_ (Or.inr (Or.inr (Or.inr (Or.inl rfl)))) (qle_var 0)) (qle_and (qle_cmp (od_eq hr.u100) (qle_callB cd_len rfl m_len boot_len_ (qla_cons (qle_var 0) qla_nil)) qle_int) (qle_and (qle_call C_is_name (hr.mono (by decide)) M_is_name F_is_name.kp B_is_name rfl (qla_cons (qle_ix (qle_var 0) qle_int) qla_nil)) (qle_one (qle_cmp (od_inD hr.u100) (qle_ix (qle_var 0) qle_int) (qle_tup (qla_cons qle_str (qla_cons qle_str qla_nil))) (hm := by with_unfolding_all rfl))))))) qlss_nil)) vc
theorem ok_is_things {a_is_things : Addr} {fd_is_things : FuncData} (F_is_things : Fun K "is_things" "is_things" s_is_things a_is_things fd_is_things) {a_is_named_kind : Addr} {fd_is_named_kind : FuncData} (F_is_named_kind : Fun K "is_named_kind" "is_named_kind" s_is_named_kind a_is_named_kind fd_is_named_kind) (B_is_named_kind : Binds K fd_is_named_kind p_is_named_kind []) (M_is_named_kind : mg "is_named_kind" = some (.ref a_is_named_kind)) (C_is_named_kind : FnOk P w K mg base CX0 2 a_is_named_kind fd_is_named_kind p_is_named_kind (LSp K 1 sp_is_named_kind)) {a_names_of : Addr} {fd_names_of : FuncData} (F_names_of : Fun K "names_of" "names_of" s_names_of a_names_of fd_names_of) (B_names_of : Binds K fd_names_of p_names_of []) (M_names_of : mg "names_of" = some (.ref a_names_of)) (C_names_of : FnOk P w K mg base CX0 1 a_names_of fd_names_of p_names_of (LSp K 1 sp_names_of)) {t_MOST_THINGS : Tok} (M_MOST_THINGS : mg "MOST_THINGS" = some (.int (6) t_MOST_THINGS)) (m_isinstance : mg "isinstance" = none) (m_tuple : mg "tuple" = none) (m_len : mg "len" = none) (m_all : mg "all" = none) (m_sorted : mg "sorted" = none) (m_set : mg "set" = none)
    (vc : ∀ ds m R, ds.length = p_is_things.length → sp_is_things ds m R → b_is_things { nx := fun _ m => R (.dat .none) m, rt := R } (start2 N_is_things ds) m) : FnOk P w K mg base CX0 3 a_is_things fd_is_things p_is_things (LSp K 1 sp_is_things) :=
  qfn_body (k := 2) F_is_things sc_is_things (body := b_is_things) (fun cdv A outer s H E hr => have nd := (sc_is_things).nd; (qlss_cons (qls_if (QW.pt (qlw_or (qlt_not (qlt_val (qle_isi rfl m_isinstance rfl m_tuple boot_tuple_ (Or.inr (Or.inr (Or.inr (Or.inl rfl)))) (qle_var 0)))) (qlw_or1 (qlt_not (qlt_chain od_le od_le qle_int (qle_callB cd_len rfl m_len boot_len_ (qla_cons (qle_var 0) qla_nil)) (qle_gint rfl M_MOST_THINGS)))))) (qlss_cons (qls_ret qle_bl) qlss_nil) qlss_nil) (qlss_cons (qls_if (qlt_not (qlt_val (qle_callB (cd_all rfl) rfl m_all boot_all_ (qla_cons (qle_lcB ["part"] [none] rfl (qli_seq (qle_var 0)) (fun cl C s2 H2 pins fp => (qlg_name 0 nd_is_things_1)) (fun cl C s2 H2 pins fp => qpf_nil) (fun cl C s2 H2 pins fp => (qle_call C_is_named_kind (hr.mono (by decide)) M_is_named_kind F_is_named_kind.kp B_is_named_kind rfl (qla_cons (qle_var 0) qla_nil)))) qla_nil)))) (qlss_cons (qls_ret qle_bl) qlss_nil) qlss_nil) (qlss_cons (qls_set 1 nd (qle_call C_names_of (hr.mono (by decide)) M_names_of F_names_of.kp B_names_of rfl (qla_cons (qle_var 0) qla_nil))) (qlss_cons (qls_ret (qle_cmp (od_eq hr.u100) (qle_var 1) (qle_sortSet rfl rfl m_sorted rfl m_set (qle_var 1)))) qlss_nil))))) vc
theorem ok_names_of {a_names_of : Addr} {fd_names_of : FuncData} (F_names_of : Fun K "names_of" "names_of" s_names_of a_names_of fd_names_of) 
    (vc : ∀ ds m R, ds.length = p_names_of.length → sp_names_of ds m R → b_names_of { nx := fun _ m => R (.dat .none) m, rt := R } (start2 N_names_of ds) m) : FnOk P w K mg base CX0 1 a_names_of fd_names_of p_names_of (LSp K 1 sp_names_of) :=
  qfn_body (k := 0) F_names_of sc_names_of (body := b_names_of) (fun cdv A outer s H E hr => have nd := (sc_names_of).nd; (qlss_cons (qls_ret (qle_lcB ["name", "kind"] [none, none] rfl (qli_seq (qle_var 0)) (fun cl C s2 H2 pins fp => (qlg_tup rfl (qlgs_cons (qlg_name 0 nd_names_of_1) (qlgs_cons (qlg_name 1 nd_names_of_1) qlgs_nil)))) (fun cl C s2 H2 pins fp => qpf_nil) (fun cl C s2 H2 pins fp => (qle_var 0)))) qlss_nil)) vc
theorem ok_kinds_of {a_kinds_of : Addr} {fd_kinds_of : FuncData} (F_kinds_of : Fun K "kinds_of" "kinds_of" s_kinds_of a_kinds_of fd_kinds_of) (m_dict : mg "dict" = none)
    (vc : ∀ ds m R, ds.length = p_kinds_of.length → sp_kinds_of ds m R → b_kinds_of { nx := fun _ m => R (.dat .none) m, rt := R } (start2 N_kinds_of ds) m) : FnOk P w K mg base CX0 1 a_kinds_of fd_kinds_of p_kinds_of (LSp K 3 sp_kinds_of) :=
  qfn_body (k := 0) F_kinds_of sc_kinds_of (body := b_kinds_of) (fun cdv A outer s H E hr => have nd := (sc_kinds_of).nd; (qlss_cons (qls_set 3 nd (qle_dictP rfl rfl m_dict (qle_var 0))) (qlss_cons (qls_ret (qle_tup (qla_cons (qle_dget hr.u100 (qle_var 3) (qle_var 1)) (qla_cons (qle_dget hr.u100 (qle_var 3) (qle_var 2)) qla_nil)))) qlss_nil))) vc
theorem ok__law_feed {a__law_feed : Addr} {fd__law_feed : FuncData} (F__law_feed : Fun K "_law_feed" "_law_feed" s__law_feed a__law_feed fd__law_feed) (m_len : mg "len" = none) (m_max : mg "max" = none)
    (vc : ∀ ds m R, ds.length = p__law_feed.length → sp__law_feed ds m R → b__law_feed { nx := fun _ m => R (.dat .none) m, rt := R } (start2 N__law_feed ds) m) : FnOk P w K mg base CX0 1 a__law_feed fd__law_feed p__law_feed (LSp K 2 sp__law_feed) :=
  qfn_body (k := 0) F__law_feed sc__law_feed (body := b__law_feed) (fun cdv A outer s H E hr => have nd := (sc__law_feed).nd; (qlss_cons (qls_if (qlt_cmp (od_eq hr.u100) (qle_callB cd_len rfl m_len boot_len_ (qla_cons (qle_var 0) qla_nil)) qle_int) (qlss_cons (qls_ret (qle_lstC (qla_cons qle_int (qla_cons qle_int (qla_cons (qle_var 1) (qla_cons qle_int qla_nil)))))) qlss_nil) qlss_nil) (qlss_cons (qls_set 2 nd (qle_ix (qle_var 0) (qle_bin od_mod (qle_var 1) (qle_callB cd_len rfl m_len boot_len_ (qla_cons (qle_var 0) qla_nil))))) (qlss_cons (qls_ret (qle_lstC (qla_cons (qle_callB (cd_max rfl) rfl m_max boot_max_ (qla_cons qle_int (qla_cons (qle_bin od_sub (qle_var 2) (qle_bin od_pow qle_int qle_int)) qla_nil))) (qla_cons (qle_var 2) (qla_cons (qle_var 1) (qla_cons qle_int qla_nil)))))) qlss_nil)))) vc
theorem ok__law_draw {a__law_draw : Addr} {fd__law_draw : FuncData} (F__law_draw : Fun K "_law_draw" "_law_draw" s__law_draw a__law_draw fd__law_draw) 
    (vc : ∀ ds m R, ds.length = p__law_draw.length → sp__law_draw ds m R → b__law_draw { nx := fun _ m => R (.dat .none) m, rt := R } (start2 N__law_draw ds) m) : FnOk P w K mg base CX0 1 a__law_draw fd__law_draw p__law_draw (LSp K 2 sp__law_draw) :=
  qfn_body (k := 0) F__law_draw sc__law_draw (body := b__law_draw) (fun cdv A outer s H E hr => have nd := (sc__law_draw).nd; (qlss_cons (qls_put (qle_bin od_add (qle_ix (qle_var 0) qle_int) qle_int) (qle_var 0) qle_int) (qlss_cons (qls_if (qlt_cmp od_gt (qle_ix (qle_var 0) qle_int) qle_int) (qlss_cons (qls_set 2 nd (qle_bin od_mod (qle_ix (qle_var 0) qle_int) (qle_var 1))) (qlss_cons (qls_put (qle_bin od_div (qle_ix (qle_var 0) qle_int) (qle_var 1)) (qle_var 0) qle_int) (qlss_cons (qls_ret (qle_var 2)) qlss_nil))) qlss_nil) (qlss_cons (qls_set 3 nd (qle_bin od_mod (qle_bin od_add (qle_bin od_add (qle_ix (qle_var 0) qle_int) (qle_bin od_mul qle_int (qle_ix (qle_var 0) qle_int))) (qle_bin od_mul qle_int (qle_ix (qle_var 0) qle_int))) qle_int)) (qlss_cons (qls_set 3 nd (qle_bin od_mod (qle_bin od_add (qle_bin od_add (qle_bin od_mul (qle_var 3) (qle_var 3)) (qle_bin od_mul qle_int (qle_var 3))) (qle_ix (qle_var 0) qle_int)) qle_int)) (qlss_cons (qls_set 3 nd (qle_bin od_mod (qle_bin od_add (qle_bin od_add (qle_bin od_mul (qle_var 3) (qle_var 3)) (qle_bin od_mul qle_int (qle_var 3))) (qle_ix (qle_var 0) qle_int)) qle_int)) (qlss_cons (qls_ret (qle_bin od_mod (qle_var 3) (qle_var 1))) qlss_nil))))))) vc
theorem ok__law_names {a__law_names : Addr} {fd__law_names : FuncData} (F__law_names : Fun K "_law_names" "_law_names" s__law_names a__law_names fd__law_names) {a__law_draw : Addr} {fd__law_draw : FuncData} (F__law_draw : Fun K "_law_draw" "_law_draw" s__law_draw a__law_draw fd__law_draw) (B__law_draw : Binds K fd__law_draw p__law_draw []) (M__law_draw : mg "_law_draw" = some (.ref a__law_draw)) (C__law_draw : FnOk P w K mg base CX0 1 a__law_draw fd__law_draw p__law_draw (LSp K 2 sp__law_draw)) (m_range : mg "range" = none) (m_len : mg "len" = none) (m_sorted : mg "sorted" = none)
    (vc : ∀ ds m R, ds.length = p__law_names.length → sp__law_names ds m R → b__law_names { nx := fun _ m => R (.dat .none) m, rt := R } (start2 N__law_names ds) m) : FnOk P w K mg base CX0 2 a__law_names fd__law_names p__law_names (LSp K 2 sp__law_names) :=
  qfn_body (k := 1) F__law_names sc__law_names (body := b__law_names) (fun cdv A outer s H E hr => have nd := (sc__law_names).nd; (qlss_cons (qls_set 2 nd (qle_lst (qla_cons qle_str (qla_cons qle_str (qla_cons qle_str (qla_cons qle_str (qla_cons qle_str (qla_cons qle_str (qla_cons qle_str (qla_cons qle_str (qla_cons qle_str (qla_cons qle_str (qla_cons qle_str (qla_cons qle_str qla_nil)))))))))))))) (qlss_cons (qls_set 3 nd (qle_call C__law_draw (hr.mono (by decide)) M__law_draw F__law_draw.kp B__law_draw rfl (qla_cons (qle_var 0) (qla_cons qle_int qla_nil)))) (qlss_cons (qls_set 4 nd (qle_ix (qle_lst (qla_cons qle_int (qla_cons qle_int (qla_cons qle_int (qla_cons qle_int qla_nil))))) (qle_call C__law_draw (hr.mono (by decide)) M__law_draw F__law_draw.kp B__law_draw rfl (qla_cons (qle_var 0) (qla_cons qle_int qla_nil))))) (qlss_cons (qls_lcB 5 ["_law_k", "_law_menu", "_law_first", "_law_step"] [none, some 2, some 3, some 4] rfl nd (qli_range rfl m_range (qle_var 1)) (fun cl C s2 H2 pins fp => (qlg_name 0 nd__law_names_1)) (fun cl C s2 H2 pins fp => qpf_nil) (fun cl C s2 H2 pins fp => (qle_ix (qle_var 1) (qle_bin od_mod (qle_bin od_add (qle_var 2) (qle_bin od_mul (qle_var 3) (qle_var 0))) qle_int)))) (qlss_cons (qls_if (qlt_cmp (od_eq hr.u100) (qle_call C__law_draw (hr.mono (by decide)) M__law_draw F__law_draw.kp B__law_draw rfl (qla_cons (qle_var 0) (qla_cons qle_int qla_nil))) qle_int) (qlss_cons (qls_set 6 nd qle_str) (qlss_cons (qls_set 7 nd (qle_join (qle_lcB ["_law_k", "_law_feed_here", "_law_letters"] [none, some 0, some 6] rfl (qli_range rfl m_range (qle_call C__law_draw (hr.mono (by decide)) M__law_draw F__law_draw.kp B__law_draw rfl (qla_cons (qle_var 0) (qla_cons qle_int qla_nil)))) (fun cl C s2 H2 pins fp => (qlg_name 0 nd__law_names_2)) (fun cl C s2 H2 pins fp => qpf_nil) (fun cl C s2 H2 pins fp => (qle_ix (qle_var 2) (qle_call C__law_draw (hr.mono (by decide)) M__law_draw F__law_draw.kp B__law_draw rfl (qla_cons (qle_var 1) (qla_cons qle_int qla_nil)))))))) (qlss_cons (qls_set 8 nd (qle_call C__law_draw (hr.mono (by decide)) M__law_draw F__law_draw.kp B__law_draw rfl (qla_cons (qle_var 0) (qla_cons (qle_bin od_add (qle_callB cd_len rfl m_len boot_len_ (qla_cons (qle_var 7) qla_nil)) qle_int) qla_nil)))) (qlss_cons (qls_lcB 5 ["_law_k", "_law_first", "_law_letters", "_law_base", "_law_at"] [none, some 3, some 6, some 7, some 8] rfl nd (qli_range rfl m_range (qle_var 1)) (fun cl C s2 H2 pins fp => (qlg_name 0 nd__law_names_3)) (fun cl C s2 H2 pins fp => qpf_nil) (fun cl C s2 H2 pins fp => (qle_bin od_add (qle_bin od_add (qle_slE (qle_var 3) qlo_none (qlo_some (qle_var 4))) (qle_ix (qle_var 2) (qle_bin od_mod (qle_bin od_add (qle_var 1) (qle_bin od_mul qle_int (qle_var 0))) qle_int))) (qle_slE (qle_var 3) (qlo_some (qle_var 4)) qlo_none)))) qlss_nil)))) qlss_nil) (qlss_cons (qls_ret (qle_callB cd_sorted rfl m_sorted boot_sorted_ (qla_cons (qle_var 5) qla_nil))) qlss_nil))))))) vc
theorem ok__law_kinds {a__law_kinds : Addr} {fd__law_kinds : FuncData} (F__law_kinds : Fun K "_law_kinds" "_law_kinds" s__law_kinds a__law_kinds fd__law_kinds) {a__law_draw : Addr} {fd__law_draw : FuncData} (F__law_draw : Fun K "_law_draw" "_law_draw" s__law_draw a__law_draw fd__law_draw) (B__law_draw : Binds K fd__law_draw p__law_draw []) (M__law_draw : mg "_law_draw" = some (.ref a__law_draw)) (C__law_draw : FnOk P w K mg base CX0 1 a__law_draw fd__law_draw p__law_draw (LSp K 2 sp__law_draw)) (m_range : mg "range" = none) (m_tuple : mg "tuple" = none)
    (vc : ∀ ds m R, ds.length = p__law_kinds.length → sp__law_kinds ds m R → b__law_kinds { nx := fun _ m => R (.dat .none) m, rt := R } (start2 N__law_kinds ds) m) : FnOk P w K mg base CX0 2 a__law_kinds fd__law_kinds p__law_kinds (LSp K 2 sp__law_kinds) :=
  qfn_body (k := 1) F__law_kinds sc__law_kinds (body := b__law_kinds) (fun cdv A outer s H E hr => have nd := (sc__law_kinds).nd; (qlss_cons (qls_lcB 2 ["_law_k", "_law_feed_here"] [none, some 0] rfl nd (qli_range rfl m_range (qle_var 1)) (fun cl C s2 H2 pins fp => (qlg_name 0 nd__law_kinds_1)) (fun cl C s2 H2 pins fp => qpf_nil) (fun cl C s2 H2 pins fp => (qle_ix (qle_lst (qla_cons qle_str (qla_cons qle_str qla_nil))) (qle_call C__law_draw (hr.mono (by decide)) M__law_draw F__law_draw.kp B__law_draw rfl (qla_cons (qle_var 1) (qla_cons qle_int qla_nil)))))) (qlss_cons (qls_if (qlt_cmp (od_eq hr.u100) (qle_call C__law_draw (hr.mono (by decide)) M__law_draw F__law_draw.kp B__law_draw rfl (qla_cons (qle_var 0) (qla_cons qle_int qla_nil))) qle_int) (qlss_cons (qls_lcB 2 ["_law_k"] [none] rfl nd (qli_range rfl m_range (qle_var 1)) (fun cl C s2 H2 pins fp => (qlg_name 0 nd__law_kinds_2)) (fun cl C s2 H2 pins fp => qpf_nil) (fun cl C s2 H2 pins fp => qle_str)) qlss_nil) qlss_nil) (qlss_cons (qls_ret (qle_callTy cd_tuple rfl m_tuple boot_tuple_ (qla_cons (qle_var 2) qla_nil))) qlss_nil)))) vc
theorem ok__law_things {a__law_things : Addr} {fd__law_things : FuncData} (F__law_things : Fun K "_law_things" "_law_things" s__law_things a__law_things fd__law_things) {a__law_names : Addr} {fd__law_names : FuncData} (F__law_names : Fun K "_law_names" "_law_names" s__law_names a__law_names fd__law_names) (B__law_names : Binds K fd__law_names p__law_names []) (M__law_names : mg "_law_names" = some (.ref a__law_names)) (C__law_names : FnOk P w K mg base CX0 2 a__law_names fd__law_names p__law_names (LSp K 2 sp__law_names)) {a__law_draw : Addr} {fd__law_draw : FuncData} (F__law_draw : Fun K "_law_draw" "_law_draw" s__law_draw a__law_draw fd__law_draw) (B__law_draw : Binds K fd__law_draw p__law_draw []) (M__law_draw : mg "_law_draw" = some (.ref a__law_draw)) (C__law_draw : FnOk P w K mg base CX0 1 a__law_draw fd__law_draw p__law_draw (LSp K 2 sp__law_draw)) {a__law_kinds : Addr} {fd__law_kinds : FuncData} (F__law_kinds : Fun K "_law_kinds" "_law_kinds" s__law_kinds a__law_kinds fd__law_kinds) (B__law_kinds : Binds K fd__law_kinds p__law_kinds []) (M__law_kinds : mg "_law_kinds" = some (.ref a__law_kinds)) (C__law_kinds : FnOk P w K mg base CX0 2 a__law_kinds fd__law_kinds p__law_kinds (LSp K 2 sp__law_kinds)) (m_len : mg "len" = none) (m_tuple : mg "tuple" = none) (m_range : mg "range" = none)
    (vc : ∀ ds m R, ds.length = p__law_things.length → sp__law_things ds m R → b__law_things { nx := fun _ m => R (.dat .none) m, rt := R } (start2 N__law_things ds) m) : FnOk P w K mg base CX0 3 a__law_things fd__law_things p__law_things (LSp K 2 sp__law_things) :=
  qfn_body (k := 2) F__law_things sc__law_things (body := b__law_things) (fun cdv A outer s H E hr => have nd := (sc__law_things).nd; (qlss_cons (qls_set 2 nd (qle_call C__law_names (hr.mono (by decide)) M__law_names F__law_names.kp B__law_names rfl (qla_cons (qle_var 0) (qla_cons (qle_bin od_add qle_int (qle_call C__law_draw (hr.mono (by decide)) M__law_draw F__law_draw.kp B__law_draw rfl (qla_cons (qle_var 0) (qla_cons (qle_var 1) qla_nil)))) qla_nil)))) (qlss_cons (qls_set 3 nd (qle_call C__law_kinds (hr.mono (by decide)) M__law_kinds F__law_kinds.kp B__law_kinds rfl (qla_cons (qle_var 0) (qla_cons (qle_callB cd_len rfl m_len boot_len_ (qla_cons (qle_var 2) qla_nil)) qla_nil)))) (qlss_cons (qls_ret (qle_callTy cd_tuple rfl m_tuple boot_tuple_ (qla_cons (qle_lcB ["_law_k", "_law_names_here", "_law_kinds_here"] [none, some 2, some 3] rfl (qli_range rfl m_range (qle_callB cd_len rfl m_len boot_len_ (qla_cons (qle_var 2) qla_nil))) (fun cl C s2 H2 pins fp => (qlg_name 0 nd__law_things_1)) (fun cl C s2 H2 pins fp => qpf_nil) (fun cl C s2 H2 pins fp => (qle_tup (qla_cons (qle_ix (qle_var 1) (qle_var 0)) (qla_cons (qle_ix (qle_var 2) (qle_var 0)) qla_nil))))) qla_nil))) qlss_nil)))) vc
theorem ok__law_is_name {a__law_is_name : Addr} {fd__law_is_name : FuncData} (F__law_is_name : Fun K "_law_is_name" "_law_is_name" s__law_is_name a__law_is_name fd__law_is_name) (m_isinstance : mg "isinstance" = none) (m_str : mg "str" = none) (m_len : mg "len" = none)
    (vc : ∀ ds m R, ds.length = p__law_is_name.length → sp__law_is_name ds m R → b__law_is_name { nx := fun _ m => R (.dat .none) m, rt := R } (start2 N__law_is_name ds) m) : FnOk P w K mg base CX0 1 a__law_is_name fd__law_is_name p__law_is_name (LSp K 1 sp__law_is_name) :=
  qfn_body (k := 0) F__law_is_name sc__law_is_name (body := b__law_is_name) (fun cdv A outer s H E hr => have nd := (sc__law_is_name).nd; (qlss_cons (qls_if (QW.pt (qlw_or (qlt_not (qlt_val (qle_isi rfl m_isinstance rfl m_str boot_str_ (Or.inr (Or.inr (Or.inl rfl))) (qle_var 0)))) (qlw_or1 (qlt_not (qlt_chain od_le od_le qle_int (qle_callB cd_len rfl m_len boot_len_ (qla_cons (qle_var 0) qla_nil)) qle_int))))) (qlss_cons (qls_ret qle_bl) qlss_nil) qlss_nil) (qlss_cons (qls_ret (qle_cmp od_notin qle_bl (qle_lcB ["_law_sign"] [none] rfl (qli_str (qle_var 0)) (fun cl C s2 H2 pins fp => (qlg_name 0 nd__law_is_name_1)) (fun cl C s2 H2 pins fp => qpf_nil) (fun cl C s2 H2 pins fp => (qle_cmp od_inS (qle_var 0) qle_str (hm := by with_unfolding_all rfl)))) (hm := by with_unfolding_all rfl))) qlss_nil))) vc
theorem ok__law_is_things {a__law_is_things : Addr} {fd__law_is_things : FuncData} (F__law_is_things : Fun K "_law_is_things" "_law_is_things" s__law_is_things a__law_is_things fd__law_is_things) {a__law_is_name : Addr} {fd__law_is_name : FuncData} (F__law_is_name : Fun K "_law_is_name" "_law_is_name" s__law_is_name a__law_is_name fd__law_is_name) (B__law_is_name : Binds K fd__law_is_name p__law_is_name []) (M__law_is_name : mg "_law_is_name" = some (.ref a__law_is_name)) (C__law_is_name : FnOk P w K mg base CX0 1 a__law_is_name fd__law_is_name p__law_is_name (LSp K 1 sp__law_is_name)) (m_isinstance : mg "isinstance" = none) (m_tuple : mg "tuple" = none) (m_len : mg "len" = none) (m_str : mg "str" = none)
    (vc : ∀ ds m R, ds.length = p__law_is_things.length → sp__law_is_things ds m R → b__law_is_things { nx := fun _ m => R (.dat .none) m, rt := R } (start2 N__law_is_things ds) m) : FnOk P w K mg base CX0 2 a__law_is_things fd__law_is_things p__law_is_things (LSp K 1 sp__law_is_things) :=
  qfn_body (k := 1) F__law_is_things sc__law_is_things (body := b__law_is_things) (fun cdv A outer s H E hr => have nd := (sc__law_is_things).nd; (qlss_cons (qls_if (QW.pt (qlw_or (qlt_not (qlt_val (qle_isi rfl m_isinstance rfl m_tuple boot_tuple_ (Or.inr (Or.inr (Or.inr (Or.inl rfl)))) (qle_var 0)))) (qlw_or1 (qlt_not (qlt_chain od_le od_le qle_int (qle_callB cd_len rfl m_len boot_len_ (qla_cons (qle_var 0) qla_nil)) qle_int))))) (qlss_cons (qls_ret qle_bl) qlss_nil) qlss_nil) (qlss_cons (qls_set 1 nd qle_str) (qlss_cons (qls_for PassesOwn.never rfl (qli_seq (qle_var 0)) (qlg_name 2 nd) (qlss_cons (qls_if (QW.pt (qlw_or (qlt_not (qlt_val (qle_isi rfl m_isinstance rfl m_tuple boot_tuple_ (Or.inr (Or.inr (Or.inr (Or.inl rfl)))) (qle_var 2)))) (qlw_or (qlt_cmp (od_ne hr.u100) (qle_callB cd_len rfl m_len boot_len_ (qla_cons (qle_var 2) qla_nil)) qle_int) (qlw_or (qlt_not (qlt_val (qle_call C__law_is_name (hr.mono (by decide)) M__law_is_name F__law_is_name.kp B__law_is_name rfl (qla_cons (qle_ix (qle_var 2) qle_int) qla_nil)))) (qlw_or1 (qlt_cmp od_leS (qle_ix (qle_var 2) qle_int) (qle_var 1))))))) (qlss_cons (qls_ret qle_bl) qlss_nil) qlss_nil) (qlss_cons (qls_if (QW.pt (qlw_or (qlt_not (qlt_val (qle_isi rfl m_isinstance rfl m_str boot_str_ (Or.inr (Or.inr (Or.inl rfl))) (qle_ix (qle_var 2) qle_int)))) (qlw_or1 (qlt_cmp od_notin (qle_ix (qle_var 2) qle_int) (qle_lst (qla_cons qle_str (qla_cons qle_str qla_nil))) (hm := by with_unfolding_all rfl))))) (qlss_cons (qls_ret qle_bl) qlss_nil) qlss_nil) (qlss_cons (qls_set 1 nd (qle_ix (qle_var 2) qle_int)) qlss_nil)))) (qlss_cons (qls_ret qle_bl) qlss_nil))))) vc
theorem ok__law_bent {a__law_bent : Addr} {fd__law_bent : FuncData} (F__law_bent : Fun K "_law_bent" "_law_bent" s__law_bent a__law_bent fd__law_bent) {a__law_draw : Addr} {fd__law_draw : FuncData} (F__law_draw : Fun K "_law_draw" "_law_draw" s__law_draw a__law_draw fd__law_draw) (B__law_draw : Binds K fd__law_draw p__law_draw []) (M__law_draw : mg "_law_draw" = some (.ref a__law_draw)) (C__law_draw : FnOk P w K mg base CX0 1 a__law_draw fd__law_draw p__law_draw (LSp K 2 sp__law_draw)) (m_len : mg "len" = none) (m_list : mg "list" = none) (m_range : mg "range" = none) (m_tuple : mg "tuple" = none)
    (vc : ∀ ds m R, ds.length = p__law_bent.length → sp__law_bent ds m R → b__law_bent { nx := fun _ m => R (.dat .none) m, rt := R } (start2 N__law_bent ds) m) : FnOk P w K mg base CX0 2 a__law_bent fd__law_bent p__law_bent (LSp K 2 sp__law_bent) :=
  qfn_body (k := 1) F__law_bent sc__law_bent (body := b__law_bent) (fun cdv A outer s H E hr => have nd := (sc__law_bent).nd; (qlss_cons (qls_set 2 nd (qle_call C__law_draw (hr.mono (by decide)) M__law_draw F__law_draw.kp B__law_draw rfl (qla_cons (qle_var 0) (qla_cons (qle_callB cd_len rfl m_len boot_len_ (qla_cons (qle_var 1) qla_nil)) qla_nil)))) (qlss_cons (qls_asg (qle_ix (qle_var 1) (qle_var 2)) (qlg_tup rfl (qlgs_cons (qlg_name 3 nd) (qlgs_cons (qlg_name 4 nd) qlgs_nil)))) (qlss_cons (qls_set 5 nd (qle_ix (qle_lst (qla_cons qle_str (qla_cons qle_str (qla_cons qle_str (qla_cons qle_str (qla_cons qle_str (qla_cons qle_non (qla_cons qle_int (qla_cons qle_bl (qla_cons (qle_tup (qla_cons qle_str qla_nil)) (qla_cons qle_str (qla_cons (qle_bin od_add (qle_var 3) (qle_var 3)) (qla_cons (qle_lst (qla_cons qle_str qla_nil)) (qla_cons (qle_lst qla_nil) qla_nil)))))))))))))) (qle_call C__law_draw (hr.mono (by decide)) M__law_draw F__law_draw.kp B__law_draw rfl (qla_cons (qle_var 0) (qla_cons qle_int qla_nil))))) (qlss_cons (qls_set 6 nd (qle_ix (qle_lst (qla_cons qle_str (qla_cons qle_str (qla_cons qle_non (qla_cons qle_bl (qla_cons qle_str (qla_cons (qle_tup (qla_cons qle_str qla_nil)) (qla_cons qle_str (qla_cons qle_str (qla_cons (qle_lst (qla_cons qle_str qla_nil)) (qla_cons (qle_lst qla_nil) qla_nil))))))))))) (qle_call C__law_draw (hr.mono (by decide)) M__law_draw F__law_draw.kp B__law_draw rfl (qla_cons (qle_var 0) (qla_cons qle_int qla_nil))))) (qlss_cons (qls_set 7 nd (qle_lst (qla_cons (qle_lst (qla_cons (qle_var 3) (qla_cons (qle_var 4) qla_nil))) (qla_cons (qle_tup (qla_cons (qle_var 3) qla_nil)) (qla_cons (qle_tup (qla_cons (qle_var 3) (qla_cons (qle_var 4) (qla_cons (qle_var 4) qla_nil)))) (qla_cons (qle_tup (qla_cons (qle_var 5) (qla_cons (qle_var 4) qla_nil))) (qla_cons (qle_tup (qla_cons (qle_var 3) (qla_cons (qle_var 6) qla_nil))) (qla_cons (qle_tup (qla_cons (qle_var 4) (qla_cons (qle_var 3) qla_nil))) (qla_cons (qle_var 3) (qla_cons qle_non qla_nil)))))))))) (qlss_cons (qls_set 8 nd (qle_lst (qla_cons (qle_callTy cd_list rfl m_list boot_list_ (qla_cons (qle_var 1) qla_nil)) (qla_cons (qle_rev (qle_var 1)) (qla_cons (qle_bin od_add (qle_var 1) (qle_slY (qle_var 1) (qlo_some (qle_neg qle_int)) qlo_none)) (qla_cons (qle_bin od_add (qle_var 1) (qle_tup (qla_cons (qle_tup (qla_cons qle_str (qla_cons qle_str qla_nil))) qla_nil))) qla_nil)))))) (qlss_cons (qls_set 8 nd (qle_bin od_add (qle_var 8) (qle_lst (qla_cons (qle_tup qla_nil) (qla_cons qle_non (qla_cons qle_str (qla_cons (qle_ix (qle_var 1) qle_int) qla_nil))))))) (qlss_cons (qls_set 8 nd (qle_bin od_add (qle_var 8) (qle_lcB ["_law_one", "_law_things_here", "_law_at"] [none, some 1, some 2] rfl (qli_seq (qle_var 7)) (fun cl C s2 H2 pins fp => (qlg_name 0 nd__law_bent_1)) (fun cl C s2 H2 pins fp => qpf_nil) (fun cl C s2 H2 pins fp => (qle_bin od_add (qle_bin od_add (qle_slY (qle_var 1) qlo_none (qlo_some (qle_var 2))) (qle_tup (qla_cons (qle_var 0) qla_nil))) (qle_slY (qle_var 1) (qlo_some (qle_bin od_add (qle_var 2) qle_int)) qlo_none)))))) (qlss_cons (qls_lcB 9 ["_law_letter"] [none] rfl nd (qli_str qle_str) (fun cl C s2 H2 pins fp => (qlg_name 0 nd__law_bent_2)) (fun cl C s2 H2 pins fp => qpf_nil) (fun cl C s2 H2 pins fp => (qle_tup (qla_cons (qle_bin od_add qle_str (qle_var 0)) (qla_cons qle_str qla_nil))))) (qlss_cons (qls_ret (qle_bin od_add (qle_lcB ["_law_k", "_law_feed_here", "_law_some"] [none, some 0, some 8] rfl (qli_range rfl m_range qle_int) (fun cl C s2 H2 pins fp => (qlg_name 0 nd__law_bent_3)) (fun cl C s2 H2 pins fp => qpf_nil) (fun cl C s2 H2 pins fp => (qle_ix (qle_var 2) (qle_call C__law_draw (hr.mono (by decide)) M__law_draw F__law_draw.kp B__law_draw rfl (qla_cons (qle_var 1) (qla_cons qle_int qla_nil)))))) (qle_lst (qla_cons (qle_callTy cd_tuple rfl m_tuple boot_tuple_ (qla_cons (qle_slY (qle_var 9) qlo_none (qlo_some (qle_bin od_add qle_int (qle_call C__law_draw (hr.mono (by decide)) M__law_draw F__law_draw.kp B__law_draw rfl (qla_cons (qle_var 0) (qla_cons qle_int qla_nil)))))) qla_nil)) (qla_cons (qle_var 1) qla_nil))))) qlss_nil))))))))))) vc
theorem ok__law_spoilt {j : Nat} {a__law_spoilt : Addr} {fd__law_spoilt : FuncData} (F__law_spoilt : Fun K "_law_spoilt" "_law_spoilt" s__law_spoilt a__law_spoilt fd__law_spoilt) {a__law_draw : Addr} {fd__law_draw : FuncData} (F__law_draw : Fun K "_law_draw" "_law_draw" s__law_draw a__law_draw fd__law_draw) (B__law_draw : Binds K fd__law_draw p__law_draw []) (M__law_draw : mg "_law_draw" = some (.ref a__law_draw)) (C__law_draw : FnOk P w K mg base CX0 1 a__law_draw fd__law_draw p__law_draw (LSp K 2 sp__law_draw)) (B__law_spoilt : Binds K fd__law_spoilt p__law_spoilt []) (M__law_spoilt : mg "_law_spoilt" = some (.ref a__law_spoilt)) (C__law_spoilt : FnOk P w K mg base CX0 (j + 2) a__law_spoilt fd__law_spoilt p__law_spoilt (LSp K 2 (sp__law_spoilt j))) (m_isinstance : mg "isinstance" = none) (m_tuple : mg "tuple" = none) (m_str : mg "str" = none) (m_len : mg "len" = none) (m_list : mg "list" = none) (m_bool : mg "bool" = none) (m_int : mg "int" = none)
    (vc : ∀ ds m R, ds.length = p__law_spoilt.length → (sp__law_spoilt (j + 1)) ds m R → b__law_spoilt j { nx := fun _ m => R (.dat .none) m, rt := R } (start2 N__law_spoilt ds) m) : FnOk P w K mg base CX0 (j + 2 + 1) a__law_spoilt fd__law_spoilt p__law_spoilt (LSp K 2 (sp__law_spoilt (j + 1))) :=
  qfn_body (k := j + 2) F__law_spoilt sc__law_spoilt (body := (b__law_spoilt j)) (fun cdv A outer s H E hr => have nd := (sc__law_spoilt).nd; (qlss_cons (qls_set 2 nd (qle_ite (qlt_val (qle_isi2 rfl m_isinstance rfl m_tuple boot_tuple_ (Or.inr (Or.inr (Or.inr (Or.inl rfl)))) rfl m_str boot_str_ (Or.inr (Or.inr (Or.inl rfl))) (qle_var 1))) (qle_call C__law_draw (hr.mono (by omega)) M__law_draw F__law_draw.kp B__law_draw rfl (qla_cons (qle_var 0) (qla_cons (qle_bin od_add (qle_callB cd_len rfl m_len boot_len_ (qla_cons (qle_var 1) qla_nil)) qle_int) qla_nil))) qle_int)) (qlss_cons (qls_if (QW.pt (qlw_and (qlt_val (qle_isi rfl m_isinstance rfl m_tuple boot_tuple_ (Or.inr (Or.inr (Or.inr (Or.inl rfl)))) (qle_var 1))) (qlw_and (qlt_cmp od_lt (qle_var 2) (qle_callB cd_len rfl m_len boot_len_ (qla_cons (qle_var 1) qla_nil))) (qlw_and1 (qlt_cmp od_gt (qle_call C__law_draw (hr.mono (by omega)) M__law_draw F__law_draw.kp B__law_draw rfl (qla_cons (qle_var 0) (qla_cons qle_int qla_nil))) qle_int))))) (qlss_cons (qls_ret (qle_bin od_add (qle_bin od_add (qle_slY (qle_var 1) qlo_none (qlo_some (qle_var 2))) (qle_tup (qla_cons (qle_call C__law_spoilt (hr.mono (by omega)) M__law_spoilt F__law_spoilt.kp B__law_spoilt rfl (qla_cons (qle_var 0) (qla_cons (qle_ix (qle_var 1) (qle_var 2)) qla_nil))) qla_nil))) (qle_slY (qle_var 1) (qlo_some (qle_bin od_add (qle_var 2) qle_int)) qlo_none))) qlss_nil) qlss_nil) (qlss_cons (qls_if (qlt_val (qle_isi rfl m_isinstance rfl m_tuple boot_tuple_ (Or.inr (Or.inr (Or.inr (Or.inl rfl)))) (qle_var 1))) (qlss_cons (qls_set 3 nd (qle_lst (qla_cons (qle_callTy cd_list rfl m_list boot_list_ (qla_cons (qle_var 1) qla_nil)) (qla_cons (qle_bin od_add (qle_slY (qle_var 1) qlo_none (qlo_some (qle_var 2))) (qle_slY (qle_var 1) (qlo_some (qle_bin od_add (qle_var 2) qle_int)) qlo_none)) (qla_cons (qle_bin od_add (qle_bin od_add (qle_slY (qle_var 1) qlo_none (qlo_some (qle_var 2))) (qle_slY (qle_var 1) (qlo_some (qle_var 2)) (qlo_some (qle_bin od_add (qle_var 2) qle_int)))) (qle_slY (qle_var 1) (qlo_some (qle_var 2)) qlo_none)) (qla_cons (qle_rev (qle_var 1)) qla_nil)))))) (qlss_cons (qls_ret (qle_ix (qle_bin od_add (qle_var 3) (qle_lst (qla_cons (qle_bin od_add (qle_var 1) (qle_tup (qla_cons qle_int qla_nil))) qla_nil))) (qle_call C__law_draw (hr.mono (by omega)) M__law_draw F__law_draw.kp B__law_draw rfl (qla_cons (qle_var 0) (qla_cons qle_int qla_nil))))) qlss_nil)) qlss_nil) (qlss_cons (qls_if (qlt_val (qle_isi rfl m_isinstance rfl m_str boot_str_ (Or.inr (Or.inr (Or.inl rfl))) (qle_var 1))) (qlss_cons (qls_set 4 nd (qle_ix qle_str (qle_call C__law_draw (hr.mono (by omega)) M__law_draw F__law_draw.kp B__law_draw rfl (qla_cons (qle_var 0) (qla_cons qle_int qla_nil))))) (qlss_cons (qls_set 3 nd (qle_lst (qla_cons (qle_bin od_add (qle_bin od_add (qle_slY (qle_var 1) qlo_none (qlo_some (qle_var 2))) (qle_var 4)) (qle_slY (qle_var 1) (qlo_some (qle_bin od_add (qle_var 2) qle_int)) qlo_none)) (qla_cons (qle_bin od_add (qle_bin od_add (qle_slY (qle_var 1) qlo_none (qlo_some (qle_var 2))) (qle_var 4)) (qle_slY (qle_var 1) (qlo_some (qle_var 2)) qlo_none)) (qla_cons (qle_bin od_add (qle_slY (qle_var 1) qlo_none (qlo_some (qle_var 2))) (qle_slY (qle_var 1) (qlo_some (qle_bin od_add (qle_var 2) qle_int)) qlo_none)) qla_nil))))) (qlss_cons (qls_ret (qle_ix (qle_bin od_add (qle_var 3) (qle_lst (qla_cons (qle_tup (qla_cons (qle_var 1) qla_nil)) qla_nil))) (qle_call C__law_draw (hr.mono (by omega)) M__law_draw F__law_draw.kp B__law_draw rfl (qla_cons (qle_var 0) (qla_cons qle_int qla_nil))))) qlss_nil))) qlss_nil) (qlss_cons (qls_if (qlt_val (qle_isi rfl m_isinstance rfl m_bool boot_bool_ (Or.inr (Or.inl rfl)) (qle_var 1))) (qlss_cons (qls_ret (qle_ix (qle_lst (qla_cons (qle_callTy cd_int rfl m_int boot_int_ (qla_cons (qle_var 1) qla_nil)) (qla_cons (qle_not (qle_var 1)) (qla_cons qle_non qla_nil)))) (qle_call C__law_draw (hr.mono (by omega)) M__law_draw F__law_draw.kp B__law_draw rfl (qla_cons (qle_var 0) (qla_cons qle_int qla_nil))))) qlss_nil) qlss_nil) (qlss_cons (qls_ret (qle_ix (qle_lst (qla_cons (qle_bin od_add (qle_var 1) qle_int) (qla_cons (qle_bin od_sub (qle_var 1) qle_int) (qla_cons (qle_bin od_sub qle_int (qle_var 1)) (qla_cons (qle_cmp (od_eq hr.u100) (qle_var 1) qle_int) (qla_cons (qle_callTy cd_str rfl m_str boot_str_ (qla_cons (qle_var 1) qla_nil)) (qla_cons (qle_lst (qla_cons (qle_var 1) qla_nil)) qla_nil))))))) (qle_call C__law_draw (hr.mono (by omega)) M__law_draw F__law_draw.kp B__law_draw rfl (qla_cons (qle_var 0) (qla_cons qle_int qla_nil))))) qlss_nil))))))) vc
theorem ok_law {a_law : Addr} {fd_law : FuncData} (F_law : Fun K "law" "law" s_law a_law fd_law) {a__law_feed : Addr} {fd__law_feed : FuncData} (F__law_feed : Fun K "_law_feed" "_law_feed" s__law_feed a__law_feed fd__law_feed) (B__law_feed : Binds K fd__law_feed p__law_feed []) (M__law_feed : mg "_law_feed" = some (.ref a__law_feed)) (C__law_feed : FnOk P w K mg base CX0 1 a__law_feed fd__law_feed p__law_feed (LSp K 2 sp__law_feed)) {a__law_things : Addr} {fd__law_things : FuncData} (F__law_things : Fun K "_law_things" "_law_things" s__law_things a__law_things fd__law_things) (B__law_things : Binds K fd__law_things p__law_things []) (M__law_things : mg "_law_things" = some (.ref a__law_things)) (C__law_things : FnOk P w K mg base CX0 3 a__law_things fd__law_things p__law_things (LSp K 2 sp__law_things)) {a_is_things : Addr} {fd_is_things : FuncData} (F_is_things : Fun K "is_things" "is_things" s_is_things a_is_things fd_is_things) (B_is_things : Binds K fd_is_things p_is_things []) (M_is_things : mg "is_things" = some (.ref a_is_things)) (C_is_things : FnOk P w K mg base CX0 3 a_is_things fd_is_things p_is_things (LSp K 1 sp_is_things)) {a__law_is_things : Addr} {fd__law_is_things : FuncData} (F__law_is_things : Fun K "_law_is_things" "_law_is_things" s__law_is_things a__law_is_things fd__law_is_things) (B__law_is_things : Binds K fd__law_is_things p__law_is_things []) (M__law_is_things : mg "_law_is_things" = some (.ref a__law_is_things)) (C__law_is_things : FnOk P w K mg base CX0 2 a__law_is_things fd__law_is_things p__law_is_things (LSp K 1 sp__law_is_things)) {a__law_bent : Addr} {fd__law_bent : FuncData} (F__law_bent : Fun K "_law_bent" "_law_bent" s__law_bent a__law_bent fd__law_bent) (B__law_bent : Binds K fd__law_bent p__law_bent []) (M__law_bent : mg "_law_bent" = some (.ref a__law_bent)) (C__law_bent : FnOk P w K mg base CX0 2 a__law_bent fd__law_bent p__law_bent (LSp K 2 sp__law_bent)) {a__law_spoilt : Addr} {fd__law_spoilt : FuncData} (F__law_spoilt : Fun K "_law_spoilt" "_law_spoilt" s__law_spoilt a__law_spoilt fd__law_spoilt) (B__law_spoilt : Binds K fd__law_spoilt p__law_spoilt []) (M__law_spoilt : mg "_law_spoilt" = some (.ref a__law_spoilt)) (C__law_spoilt : FnOk P w K mg base CX0 6 a__law_spoilt fd__law_spoilt p__law_spoilt (LSp K 2 (sp__law_spoilt 4))) {a__law_draw : Addr} {fd__law_draw : FuncData} (F__law_draw : Fun K "_law_draw" "_law_draw" s__law_draw a__law_draw fd__law_draw) (B__law_draw : Binds K fd__law_draw p__law_draw []) (M__law_draw : mg "_law_draw" = some (.ref a__law_draw)) (C__law_draw : FnOk P w K mg base CX0 1 a__law_draw fd__law_draw p__law_draw (LSp K 2 sp__law_draw)) {a_kinds_of : Addr} {fd_kinds_of : FuncData} (F_kinds_of : Fun K "kinds_of" "kinds_of" s_kinds_of a_kinds_of fd_kinds_of) (B_kinds_of : Binds K fd_kinds_of p_kinds_of []) (M_kinds_of : mg "kinds_of" = some (.ref a_kinds_of)) (C_kinds_of : FnOk P w K mg base CX0 1 a_kinds_of fd_kinds_of p_kinds_of (LSp K 3 sp_kinds_of)) (m_repr : mg "repr" = none) (m_range : mg "range" = none) (m_len : mg "len" = none)
    (vc : ∀ ds m R, ds.length = p_law.length → sp_law ds m R → b_law { nx := fun _ m => R (.dat .none) m, rt := R } (start2 N_law ds) m) : FnOk P w K mg base CX0 7 a_law fd_law p_law (LSp K 1 sp_law) :=
  qfn_body (k := 6) F_law sc_law (body := b_law) (fun cdv A outer s H E hr => have nd := (sc_law).nd; (qlss_cons (qls_for PassesOwn.never rfl (qli_range rfl m_range qle_int) (qlg_name 1 nd) (qlss_cons (qls_set 2 nd (qle_call C__law_feed (hr.mono (by decide)) M__law_feed F__law_feed.kp B__law_feed rfl (qla_cons (qle_var 0) (qla_cons (qle_var 1) qla_nil)))) (qlss_cons (qls_set 3 nd (qle_call C__law_things (hr.mono (by decide)) M__law_things F__law_things.kp B__law_things rfl (qla_cons (qle_var 2) (qla_cons qle_int qla_nil)))) (qlss_cons (qls_for PassesOwn.never rfl (qli_seq (qle_bin od_add (qle_call C__law_bent (hr.mono (by decide)) M__law_bent F__law_bent.kp B__law_bent rfl (qla_cons (qle_var 2) (qla_cons (qle_var 3) qla_nil))) (qle_lcB ["_law_j", "_law_feed_here", "_law_things_here"] [none, some 2, some 3] rfl (qli_range rfl m_range qle_int) (fun cl C s2 H2 pins fp => (qlg_name 0 nd_law_1)) (fun cl C s2 H2 pins fp => qpf_nil) (fun cl C s2 H2 pins fp => (qle_call C__law_spoilt (hr.mono (by decide)) M__law_spoilt F__law_spoilt.kp B__law_spoilt rfl (qla_cons (qle_var 1) (qla_cons (qle_var 2) qla_nil))))))) (qlg_name 4 nd) (qlss_cons (qls_if (qlt_cmp (od_ne hr.u100) (qle_callB (cd_repr hr.u200 hr.gd) rfl m_repr boot_repr_ (qla_cons (qle_call C_is_things (hr.mono (by decide)) M_is_things F_is_things.kp B_is_things rfl (qla_cons (qle_var 4) qla_nil)) qla_nil)) (qle_callB (cd_repr hr.u200 hr.gd) rfl m_repr boot_repr_ (qla_cons (qle_call C__law_is_things (hr.mono (by decide)) M__law_is_things F__law_is_things.kp B__law_is_things rfl (qla_cons (qle_var 4) qla_nil)) qla_nil))) (qlss_cons (qls_ret qle_bl) qlss_nil) qlss_nil) qlss_nil)) (qlss_cons (qls_asg (qle_ix (qle_var 3) (qle_call C__law_draw (hr.mono (by decide)) M__law_draw F__law_draw.kp B__law_draw rfl (qla_cons (qle_var 2) (qla_cons (qle_callB cd_len rfl m_len boot_len_ (qla_cons (qle_var 3) qla_nil)) qla_nil)))) (qlg_tup rfl (qlgs_cons (qlg_name 5 nd) (qlgs_cons (qlg_name 6 nd) qlgs_nil)))) (qlss_cons (qls_asg (qle_ix (qle_var 3) (qle_call C__law_draw (hr.mono (by decide)) M__law_draw F__law_draw.kp B__law_draw rfl (qla_cons (qle_var 2) (qla_cons (qle_callB cd_len rfl m_len boot_len_ (qla_cons (qle_var 3) qla_nil)) qla_nil)))) (qlg_tup rfl (qlgs_cons (qlg_name 7 nd) (qlgs_cons (qlg_name 8 nd) qlgs_nil)))) (qlss_cons (qls_if (QW.pt (qlw_and (qlt_cmp (od_ne hr.u100) (qle_var 5) (qle_var 7)) (qlw_and1 (qlt_cmp (od_ne hr.u100) (qle_callB (cd_repr hr.u200 hr.gd) rfl m_repr boot_repr_ (qla_cons (qle_call C_kinds_of (hr.mono (by decide)) M_kinds_of F_kinds_of.kp B_kinds_of rfl (qla_cons (qle_var 3) (qla_cons (qle_var 5) (qla_cons (qle_var 7) qla_nil)))) qla_nil)) (qle_callB (cd_repr hr.u200 hr.gd) rfl m_repr boot_repr_ (qla_cons (qle_tup (qla_cons (qle_var 6) (qla_cons (qle_var 8) qla_nil))) qla_nil)))))) (qlss_cons (qls_ret qle_bl) qlss_nil) qlss_nil) qlss_nil))))))) (qlss_cons (qls_ret qle_bl) qlss_nil))) vc
end
end K9
set_option Elab.async false
set_option linter.all false
set_option maxRecDepth 100000
set_option maxHeartbeats 4000000
namespace K9
open PySem PySem.Spec PyProof.Rows L2 DL K01
abbrev EN (R : DK) : Ends2 := { nx := fun _ m => R (.dat .none) m, rt := R }
theorem sz {n : Nat} (h : n ≤ 1000) : n ≤ sizeLine := Nat.le_trans h (by rw [sizeLine_eq]; decide)
theorem feeds_upd {m : Mu} {a : Addr} {x y z w : Int} : Feeds (updM m a (.l [.int x, .int y, .int z, .int w])) a := ⟨_, updM_same, x, y, z, w, rfl⟩
theorem at_ints {ns : List Int} {i : Int} (h0 : 0 ≤ i) (h : i < (ns.length : Int)) : ∃ v : Int, atI (ns.map PyData.int) i = some (.int v) := by
  obtain ⟨k, rfl⟩ : ∃ k : Nat, i = k := ⟨i.toNat, by omega⟩
  have hk : k < ns.length := by omega
  exact ⟨ns[k], atI_nat (by rw [List.getElem?_map, List.getElem?_eq_getElem hk] <;> rfl)⟩
theorem vc__law_feed : ∀ ds m R, ds.length = p__law_feed.length → sp__law_feed ds m R → b__law_feed { nx := fun _ m => R (.dat .none) m, rt := R } (start2 N__law_feed ds) m := by
  rintro ds m R hl ⟨ns, k, rfl, hn, h0, h1, h⟩
  by_cases hz : ns.length = 0
  · have e : ns = [] := List.length_eq_zero_iff.mp hz
    subst e
    simp [b__law_feed_2, b__law_feed_1, b__law_feed, PyData.eqv, PyData.canLay0, PyData.depth]
    exact ⟨sz (by decide), fun a _ => h a _ feeds_upd⟩
  · have hz' : ¬ ((ns.length : Int) = 0) := by omega
    have hp : (0 : Int) < ns.length := by omega
    obtain ⟨v, hv⟩ := at_ints (ns := ns) (i := k.fmod ns.length) (Int.fmod_nonneg_of_pos _ hp) (Int.fmod_lt_of_pos _ hp)
    simp [b__law_feed_2, b__law_feed_1, b__law_feed, PyData.eqv, PyData.canLay0, PyData.depth, hz', hz]
    refine ⟨_, hv, ?_⟩
    simp
    exact ⟨sz (by decide), fun a _ => h a _ feeds_upd⟩
theorem mulL {i j : Int} (h : Bd 64 i) : IntMulOk i j := IntMulOk.of_left (intBits_le_iff.mpr h)
theorem bd_mod {x p : Int} (h : 0 < p) (hp : p ≤ 2147483629) : Bd 31 (x.fmod p) := by
  have h1 := Int.fmod_lt_of_pos x h
  have h2 := Int.fmod_nonneg_of_pos x h
  unfold Bd
  have e : (2 : Nat) ^ 31 = 2147483648 := by decide
  omega
set_option exponentiation.threshold 3000 in
theorem bd_lit {i : Int} {n : Nat} (h : i.natAbs < 2 ^ n := by decide) : Bd n i := h
theorem loopL_by {g : DG} {b : DS} {E : Ends2} (J : St2 → Mu → Prop) (hd : ∀ d m, J d m → E.nx d m) : ∀ (xs : List D),
    (∀ x ∈ xs, ∀ (k : St2 → Mu → Prop), (∀ d m, J d m → k d m) → ∀ d m, J d m → g x d m fun d' m' => b { E with nx := k, ct := k, bk := E.nx } d' m') → ∀ d m, J d m → loopL g b E xs d m
  | [], _, d, m, h => hd d m h
  | x :: xs, step, d, m, h => step x List.mem_cons_self _ (loopL_by J hd xs fun y hy => step y (List.mem_cons_of_mem _ hy)) d m h
theorem at_all {xs : List PyData} {P : PyData → Prop} {r : Int} (h : ∀ p ∈ xs, P p) (h0 : 0 ≤ r) (h1 : r < (xs.length : Int)) : ∃ p, atI xs r = some p ∧ P p := by
  obtain ⟨k, rfl⟩ : ∃ k : Nat, r = k := ⟨r.toNat, by omega⟩
  have hk : k < xs.length := by omega
  exact ⟨xs[k], atI_nat (List.getElem?_eq_getElem hk), h _ (List.getElem_mem hk)⟩
theorem loopC_by {g : DG} {t : DT} {f : DE} {Q : List PyData → Mu → Prop} (J : List D → List PyData → St2 → Mu → Prop) (fin : ∀ acc d m, J [] acc d m → Q acc m)
    (step : ∀ x xs acc d m (k : List PyData → St2 → Mu → Prop), J (x :: xs) acc d m → (∀ acc' d' m', J xs acc' d' m' → k acc' d' m') → g x d m fun d1 m1 => t d1 m1 fun b m2 => if b = true then f d1 m2 fun y m3 => ∃ p, y = .dat p ∧ acc.length < sizeLine ∧ k (acc ++ [p]) d1 m3 else k acc d1 m2) :
    ∀ xs acc d m, J xs acc d m → loopC g t f xs acc d m Q
  | [], acc, d, m, h => fin acc d m h
  | x :: xs, acc, d, m, h => step x xs acc d m (fun acc' d' m' => loopC g t f xs acc' d' m' Q) h (loopC_by J fin step xs)
@[simp] theorem ok_pt : PyData.strOk (Str.ofString "point") = true := by decide +kernel
@[simp] theorem ok_st : PyData.strOk (Str.ofString "stretch") = true := by decide +kernel
@[simp] theorem at0 (x : PyData) (xs : List PyData) : atI (x :: xs) 0 = some x := by simp [atI, ixN]
@[simp] theorem at1 (x y : PyData) (xs : List PyData) : atI (x :: y :: xs) 1 = some y := by
  have : (1 : Int) < xs.length + 1 + 1 := by omega
  simp [atI, ixN, this]
theorem Kp.refl {a : Addr} {m : Mu} : Kp a m m := fun _ _ _ => rfl
theorem Kp.trans {a : Addr} {m m1 m2 : Mu} (h : Kp a m m1) (g : Kp a m1 m2) : Kp a m m2 := fun c h1 h2 => by
  have e := h c h1 h2
  rw [g c h1 (by rw [e]; exact h2), e]
theorem Kp.upd {a : Addr} {m : Mu} {x : Cel} : Kp a m (updM m a x) := fun c h1 _ => updM_ne h1
theorem vc__law_draw : ∀ ds m R, ds.length = p__law_draw.length → sp__law_draw ds m R → b__law_draw { nx := fun _ m => R (.dat .none) m, rt := R } (start2 N__law_draw ds) m := by
  rintro ds m R hl ⟨a, n, rfl, h0, hb, ⟨xs, hm, f0, f1, f2, f3, rfl⟩, h⟩
  simp [b__law_draw_B0, b__law_draw_B0_1, b__law_draw_B0_2, b__law_draw_5, b__law_draw_4, b__law_draw_3, b__law_draw_2, b__law_draw_1, b__law_draw, atI, ixN, hm, updM_same, updM_updM, and_assoc]
  by_cases hf : f0 ≤ 0
  · left
    refine ⟨hf, mulL bd_lit, mulL bd_lit, (bd_mod (by decide) (by decide)).mulOk (bd_mod (by decide) (by decide)) (by decide), mulL bd_lit, (bd_mod (by decide) (by decide)).mulOk (bd_mod (by decide) (by decide)) (by decide), mulL bd_lit, by omega, ?_⟩
    exact h _ _ (Int.fmod_nonneg_of_pos _ h0) (Int.fmod_lt_of_pos _ h0) feeds_upd .upd
  · right
    refine ⟨by omega, by omega, Nat.lt_of_lt_of_le (hb.log (by decide)) (by decide), ?_⟩
    exact h _ _ (Int.fmod_nonneg_of_pos _ h0) (Int.fmod_lt_of_pos _ h0) feeds_upd .upd
theorem draw_use2 {a : Addr} {n : Int} {m : Mu} {R : DK} (h0 : 0 < n) (hb : n < 1000000) (hf : Feeds m a) (h : ∀ (r : Int) m', 0 ≤ r → r < n → Feeds m' a → Kp a m m' → R (I r) m') : sp__law_draw [.cel a, I n] m R := by
  refine ⟨a, n, rfl, h0, ?_, hf, h⟩
  refine Bd.mono (m := 20) ?_ (by decide)
  unfold Bd
  have e : (2 : Nat) ^ 20 = 1048576 := by decide
  omega
theorem draw_use {a : Addr} {n : Int} {m : Mu} {R : DK} (h0 : 0 < n) (hb : n < 1000000) (hf : Feeds m a) (h : ∀ (r : Int) m', 0 ≤ r → r < n → Feeds m' a → R (I r) m') : sp__law_draw [.cel a, I n] m R :=
  draw_use2 h0 hb hf fun r m' h1 h2 h3 _ => h r m' h1 h2 h3
theorem ints_drop {n i : Nat} (h : i < n) : (intsD 0 n).drop i = I (i : Int) :: (intsD 0 n).drop (i + 1) := by
  have hl : i < (intsD 0 n).length := by unfold intsD; simpa using h
  rw [List.drop_eq_getElem_cons hl]
  congr 1
  unfold intsD
  simp
theorem loopC_rng {g : DG} {t : DT} {f : DE} {Q : List PyData → Mu → Prop} {n : Nat} (J : Nat → List PyData → St2 → Mu → Prop) (fin : ∀ acc d m, J n acc d m → Q acc m)
    (step : ∀ i acc d m (k : List PyData → St2 → Mu → Prop), i < n → J i acc d m → (∀ acc' d' m', J (i + 1) acc' d' m' → k acc' d' m') → g (I (i : Int)) d m fun d1 m1 => t d1 m1 fun b m2 => if b = true then f d1 m2 fun y m3 => ∃ p, y = .dat p ∧ acc.length < sizeLine ∧ k (acc ++ [p]) d1 m3 else k acc d1 m2) :
    ∀ acc d m, J 0 acc d m → loopC g t f (intsD 0 n) acc d m Q := by
  intro acc d m h
  refine loopC_by (fun rest acc d m => ∃ i, i ≤ n ∧ rest = (intsD 0 n).drop i ∧ J i acc d m) ?_ ?_ _ _ _ _ ⟨0, Nat.zero_le _, rfl, h⟩
  · rintro acc d m ⟨i, hi, e, hj⟩
    have : i = n := by
      have := congrArg List.length e
      unfold intsD at this
      simp at this
      omega
    subst this
    exact fin _ _ _ hj
  · rintro x xs acc d m k ⟨i, hi, e, hj⟩ hk
    have hlt : i < n := by
      have := congrArg List.length e
      unfold intsD at this
      simp at this
      omega
    rw [ints_drop hlt] at e
    obtain ⟨rfl, rfl⟩ := List.cons.inj e
    exact step i acc d m k hlt hj fun acc' d' m' h' => hk _ _ _ ⟨i + 1, hlt, rfl, h'⟩
def Knds (n : Nat) (acc : List PyData) : Prop := ∃ ks : List Bool, acc = ks.map (fun k => .str (kd k)) ∧ ks.length = n
theorem Knds.snoc {n : Nat} {acc : List PyData} {k : Bool} (h : Knds n acc) : Knds (n + 1) (acc ++ [.str (kd k)]) := by
  obtain ⟨zs, rfl, hl⟩ := h
  exact ⟨zs ++ [k], by simp, by simp [hl]⟩
theorem Knds.len {n : Nat} {acc : List PyData} (h : Knds n acc) : acc.length = n := by
  obtain ⟨zs, rfl, hl⟩ := h
  simpa using hl
theorem kd_at {i : Int} (h0 : 0 ≤ i) (h1 : i < 2) : ∃ b, atI [PyData.str "point", .str "stretch"] i = some (.str (kd b)) := by
  obtain rfl | rfl : i = 0 ∨ i = 1 := by omega
  · exact ⟨false, rfl⟩
  · exact ⟨true, rfl⟩
theorem vc__law_kinds : ∀ ds m R, ds.length = p__law_kinds.length → sp__law_kinds ds m R → b__law_kinds (EN R) (start2 N__law_kinds ds) m := by
  rintro ds m R hl ⟨a, n, rfl, n1, n2, hf, h⟩
  obtain ⟨nn, rfl⟩ : ∃ nn : Nat, n = nn := ⟨n.toNat, by omega⟩
  have fin : ∀ (ks : List Bool) m', ks.length = nn → Feeds m' a → b__law_kinds_2 (EN R) [some (.cel a), some (I nn), some (.dat (.list (ks.map fun k => .str (kd k))))] m' := fun ks m' hk hf' => by
    simp [b__law_kinds_2]
    exact h ks m' (by omega) hf'
  simp [b__law_kinds, srcOf]
  refine ⟨by omega, ?_⟩
  refine loopC_rng (fun i acc d m' => Feeds m' a ∧ (∃ o, d = [o, some (.cel a)]) ∧ Knds i acc) ?_ ?_ _ _ _ ⟨hf, ⟨none, rfl⟩, [], rfl, rfl⟩
  · rintro acc d m1 ⟨hf1, _, ks, rfl, hk⟩
    simp [b__law_kinds_1]
    refine draw_use (by decide) (by decide) hf1 fun w m2 w0 w1 hf2 => ?_
    simp [PyData.eqv, PyData.canLay0, PyData.depth, srcOf]
    by_cases c : w = 0
    · right
      refine ⟨c, by omega, ?_⟩
      refine loopC_rng (fun i acc d m' => m' = m2 ∧ (∃ o, d = [o]) ∧ Knds i acc) ?_ ?_ _ _ _ ⟨rfl, ⟨none, rfl⟩, [], rfl, rfl⟩
      · rintro acc d m3 ⟨rfl, _, ks, rfl, hk⟩
        exact fin ks _ hk hf2
      · rintro i acc d m3 k hi ⟨rfl, ⟨o, rfl⟩, ht⟩ hk'
        simp
        exact ⟨Nat.lt_of_lt_of_le (by rw [ht.len]; omega) (sz (n := 100) (by decide)), hk' _ _ _ ⟨rfl, ⟨_, rfl⟩, ht.snoc (k := true)⟩⟩
    · left
      exact ⟨c, fin ks _ hk hf2⟩
  · rintro i acc d m1 k hi ⟨hf1, ⟨o, rfl⟩, ht⟩ hk
    simp [sz]
    refine draw_use (by decide) (by decide) hf1 fun q m2 q0 q1 hf2 => ?_
    obtain ⟨b, e⟩ := kd_at q0 q1
    exact ⟨_, e, _, rfl, Nat.lt_of_lt_of_le (by rw [ht.len]; omega) (sz (n := 100) (by decide)), hk _ _ _ ⟨hf2, ⟨_, rfl⟩, ht.snoc⟩⟩
theorem vc__law_things : ∀ ds m R, ds.length = p__law_things.length → sp__law_things ds m R → b__law_things (EN R) (start2 N__law_things ds) m := by
  rintro ds m R hl ⟨a, n, rfl, n1, n2, hf, h⟩
  simp [b__law_things]
  refine draw_use (by omega) (by omega) hf fun w m1 w0 w1 hf1 => ?_
  refine ⟨a, 1 + w, rfl, by omega, by omega, hf1, fun zs m2 hz hnm hf2 => ?_⟩
  simp [b__law_things_1]
  refine ⟨a, zs.length, rfl, by omega, by omega, hf2, fun ks m3 hk hf3 => ?_⟩
  have hkl : ks.length = zs.length := by omega
  simp [b__law_things_2, srcOf]
  refine ⟨by omega, ?_⟩
  refine loopC_rng (fun i acc d m' => m' = m3 ∧ (∃ o, d = [o, some (.dat (.list (zs.map .str))), some (.dat (.tuple (ks.map fun k => .str (kd k))))]) ∧ acc = ((zs.zip ks).take i).map fun t => .tuple [.str t.1, .str (kd t.2)]) ?_ ?_ _ _ _ ⟨rfl, ⟨none, rfl⟩, rfl⟩
  · rintro acc d m4 ⟨rfl, _, rfl⟩
    rw [List.take_of_length_le (by rw [List.length_zip]; omega)]
    exact h (zs.zip ks) _ (by rw [List.length_zip]; omega) (by rw [List.map_fst_zip (by omega)]; exact hnm) hf3
  · rintro i acc d m4 k hi ⟨rfl, ⟨o, rfl⟩, rfl⟩ hk'
    have e1 : atI (zs.map PyData.str) (i : Int) = some (.str zs[i]) := atI_nat (by rw [List.getElem?_map, List.getElem?_eq_getElem hi]; rfl)
    have hi2 : i < ks.length := by omega
    have e2 : atI (ks.map fun k => PyData.str (kd k)) (i : Int) = some (.str (kd ks[i])) := atI_nat (by rw [List.getElem?_map, List.getElem?_eq_getElem hi2]; rfl)
    simp
    refine ⟨_, e1, _, e2, sz (by decide), Nat.lt_of_lt_of_le (by omega) (sz (n := 100) (by decide)), hk' _ _ _ ⟨rfl, ⟨_, rfl⟩, ?_⟩⟩
    rw [List.take_succ_eq_append_getElem (by rw [List.length_zip]; omega)]
    simp
def MENU : List Str := ["a", "ab", "abc", "b", "point", "may", "gap", "begin", "strict", "o", "stretch", "zzzzzzzz"]
def f1 (a s k : Nat) : Str := MENU.getD ((a + s * k) % 12) ""
theorem menu_nd : ∀ a < 12, ∀ s ∈ [1, 5, 7, 11], ((List.range 6).map (f1 a s)).Nodup := by decide +kernel
theorem menu_good : ∀ z ∈ MENU, z.cps.toList.all (fun c => decide (c < 1114112)) = true ∧ z.length ≤ 20 := by decide +kernel
theorem range_pre {n : Nat} (h : n ≤ 6) : List.Sublist (List.range n) (List.range 6) := by
  have : List.range n = (List.range 6).take n := by
    rw [List.take_range]
    congr 1
    omega
  rw [this]
  exact List.take_sublist _ _
theorem f1_mem (a s k : Nat) : f1 a s k ∈ MENU := by
  unfold f1
  have h : (a + s * k) % 12 < MENU.length := by
    show _ < 12
    omega
  rw [List.getD_eq_getElem?_getD, List.getElem?_eq_getElem h]
  exact List.getElem_mem h
theorem nm1 {a s n : Nat} (ha : a < 12) (hs : s ∈ [1, 5, 7, 11]) (hn : n ≤ 6) : Nm ((List.range n).map (f1 a s)) := by
  refine ⟨List.Nodup.sublist ((range_pre hn).map _) (menu_nd a ha s hs), by simpa using hn, fun z hz => ?_⟩
  obtain ⟨k, _, rfl⟩ := List.mem_map.mp hz
  exact menu_good _ (f1_mem a s k)
theorem menu_at (a s k : Nat) : atI (MENU.map PyData.str) (((a : Int) + (s : Int) * (k : Int)).fmod 12) = some (.str (f1 a s k)) := by
  have e : ((a : Int) + (s : Int) * (k : Int)).fmod 12 = (((a + s * k) % 12 : Nat) : Int) := by
    rw [Int.fmod_eq_emod_of_nonneg _ (by decide)]
    simp
  rw [e]
  have h : (a + s * k) % 12 < MENU.length := by
    show _ < 12
    omega
  refine atI_nat ?_
  unfold f1
  rw [List.getElem?_map, List.getD_eq_getElem?_getD, List.getElem?_eq_getElem h]
  rfl
theorem let_get : ∀ i < 26, (Str.ofString "abcdefghijklmnopqrstuvwxyz").cps.toList[i]? = some (97 + i) := by decide +kernel
theorem let_nd : ∀ a < 12, ((List.range 6).map fun k => (a + 3 * k) % 26).Nodup := by decide +kernel
def mid (x y : Str) (c : Nat) : Str := x ++ (⟨#[c]⟩ : Str) ++ y
def f2 (x y : Str) (a k : Nat) : Str := mid x y (97 + (a + 3 * k) % 26)
theorem mid_inj {x y : Str} {c d : Nat} (h : mid x y c = mid x y d) : c = d := by
  have e := congrArg (fun z : Str => z.cps.toList) h
  simp [mid, Str.cps_append] at e
  exact e
def gc (z : Str) : Prop := ∀ c ∈ z.cps.toList, c < 1114112
theorem gc_app {x y : Str} (h : gc x) (g : gc y) : gc (x ++ y) := fun c hc => by
  rw [Str.cps_append, Array.toList_append] at hc
  exact (List.mem_append.mp hc).elim (h c) (g c)
theorem gc_one {c : Nat} (h : c < 1114112) : gc (⟨#[c]⟩ : Str) := fun d hd => by
  have : d = c := by simpa using hd
  omega
theorem gc_slice {z : Str} (h : gc z) (lo hi : Option Int) : gc (Txt.slice z lo hi) := by
  unfold Txt.slice
  split
  · exact h
  · intro c hc
    simp only [List.mem_filterMap] at hc
    obtain ⟨i, _, e⟩ := hc
    exact h c (by
      have := Array.mem_of_getElem? e
      simpa using this)
theorem nm2 {x y : Str} {a n : Nat} (hx : gc x) (hy : gc y) (hl : x.length + y.length ≤ 19) (ha : a < 12) (hn : n ≤ 6) : Nm ((List.range n).map (f2 x y a)) := by
  refine ⟨?_, by simpa using hn, fun z hz => ?_⟩
  · have nd := List.Nodup.sublist ((range_pre hn).map fun k => (a + 3 * k) % 26) (let_nd a ha)
    have e : (List.range n).map (f2 x y a) = ((List.range n).map fun k => (a + 3 * k) % 26).map fun c => mid x y (97 + c) := by rw [List.map_map]; rfl
    rw [e]
    exact List.Pairwise.map _ (fun p q hpq h => hpq (by have := mid_inj h; omega)) nd
  · obtain ⟨k, _, rfl⟩ := List.mem_map.mp hz
    refine ⟨?_, ?_⟩
    · rw [List.all_eq_true]
      intro c hc
      exact decide_eq_true (gc_app (gc_app hx (gc_one (by omega))) hy c hc)
    · show (x ++ (⟨#[_]⟩ : Str) ++ y).length ≤ 20
      rw [strLen_append, strLen_append]
      show x.length + 1 + y.length ≤ 20
      omega
theorem nm_perm {zs ys : List Str} (h : Nm zs) (p : ys.Perm zs) : Nm ys := ⟨p.nodup_iff.mpr h.1, by rw [p.length_eq]; exact h.2.1, fun z hz => h.2.2 z (p.mem_iff.mp hz)⟩
theorem ones_sum : ∀ {us : List Str}, (∀ z ∈ us, z.length = 1) → (us.map (·.length)).sum = us.length
  | [], _ => rfl
  | u :: us, h => by
    rw [List.map_cons, List.sum_cons, ones_sum fun z hz => h z (List.mem_cons_of_mem _ hz), h u List.mem_cons_self, List.length_cons]
    omega
theorem gc_nil : gc (Str.ofString "") := by
  intro c hc
  have : (Str.ofString "").cps.toList = [] := by decide +kernel
  rw [this] at hc
  cases hc
theorem gc_join : ∀ (us : List Str), (∀ u ∈ us, gc u) → gc (Str.join (Str.ofString "") us)
  | [], _ => gc_nil
  | [u], h => by
    simp only [Str.join]
    exact h u List.mem_cons_self
  | u :: v :: us, h => by
    simp only [Str.join]
    exact gc_app (gc_app (h u List.mem_cons_self) gc_nil) (gc_join (v :: us) fun z hz => h z (List.mem_cons_of_mem _ hz))
theorem bds {i : Int} (h0 : -1000000 ≤ i) (h1 : i ≤ 1000000) : Bd 64 i := by
  unfold Bd
  have e : (2 : Nat) ^ 64 = 18446744073709551616 := by decide
  omega
abbrev MD : List PyData := MENU.map .str
theorem let_at (a k : Nat) : atI (Str.ofString "abcdefghijklmnopqrstuvwxyz").cps.toList (((a : Int) + 3 * (k : Int)).fmod 26) = some (97 + (a + 3 * k) % 26) := by
  have e : ((a : Int) + 3 * (k : Int)).fmod 26 = (((a + 3 * k) % 26 : Nat) : Int) := by
    rw [Int.fmod_eq_emod_of_nonneg _ (by decide)]
    simp
  rw [e]
  exact atI_nat (let_get _ (by omega))
theorem vc__law_names : ∀ ds m R, ds.length = p__law_names.length → sp__law_names ds m R → b__law_names (EN R) (start2 N__law_names ds) m := by
  rintro ds m R hl ⟨a, n, rfl, n1, n2, hf, h⟩
  obtain ⟨nn, rfl⟩ : ∃ nn : Nat, n = nn := ⟨n.toNat, by omega⟩
  simp [b__law_names, sz]
  simp [b__law_names_1]
  refine draw_use (by decide) (by decide) hf fun first m1 f0 f1' hf1 => ?_
  obtain ⟨ff, rfl⟩ : ∃ ff : Nat, first = ff := ⟨first.toNat, by omega⟩
  simp [b__law_names_2, sz]
  refine draw_use (by decide) (by decide) hf1 fun st m2 s0 s1 hf2 => ?_
  obtain ⟨p, e, step, rfl, hst⟩ := at_all (xs := [.int 1, .int 5, .int 7, .int 11]) (P := fun p => ∃ i : Nat, p = .int i ∧ i ∈ [1, 5, 7, 11]) (r := st) (by
    intro p hp
    simp at hp
    rcases hp with rfl | rfl | rfl | rfl
    · exact ⟨1, rfl, by decide⟩
    · exact ⟨5, rfl, by decide⟩
    · exact ⟨7, rfl, by decide⟩
    · exact ⟨11, rfl, by decide⟩) s0 s1
  refine ⟨_, e, ?_⟩
  have sl : step ≤ 11 := by
    simp at hst
    omega
  have fin : ∀ (zs : List Str) m' o6 o7 o8, zs.length = nn → Nm zs → Feeds m' a → b__law_names_5 (EN R) [some (.cel a), some (I nn), some (.dat (.list MD)), some (I ff), some (I step), some (.dat (.list (zs.map .str))), o6, o7, o8] m' := fun zs m' o6 o7 o8 hz hg hf' => by
    simp [b__law_names_5]
    exact ⟨zs, rfl, by omega, fun ys hp _ => h ys m' (by rw [hp.length_eq, hz]) (nm_perm hg hp) hf'⟩
  simp [b__law_names_3, srcOf]
  refine ⟨by omega, ?_⟩
  refine loopC_rng (fun i acc d m' => m' = m2 ∧ (∃ o, d = [o, some (.dat (.list MD)), some (I ff), some (I step)]) ∧ acc = ((List.range i).map (f1 ff step)).map .str) ?_ ?_ _ _ _ ⟨rfl, ⟨none, rfl⟩, rfl⟩
  · rintro acc d m3 ⟨rfl, _, rfl⟩
    have g1 : Nm ((List.range nn).map (f1 ff step)) := nm1 (by omega) hst (by omega)
    obtain ⟨zs, ez⟩ : ∃ zs, zs = (List.range nn).map (f1 ff step) := ⟨_, rfl⟩
    have hz : zs.length = nn := by rw [ez]; simp
    rw [← ez] at g1 ⊢
    simp [b__law_names_4]
    refine draw_use (by decide) (by decide) hf2 fun w m4 w0 w1 hf4 => ?_
    simp [PyData.eqv, PyData.canLay0, PyData.depth]
    by_cases c : w = 0
    · right
      refine ⟨c, ?_⟩
      simp [b__law_names_B0]
      simp [b__law_names_B0_1, srcOf]
      refine draw_use (by decide) (by decide) hf4 fun e8 m5 v0 v1 hf5 => ?_
      obtain ⟨en, rfl⟩ : ∃ en : Nat, e8 = en := ⟨e8.toNat, by omega⟩
      refine ⟨_, rfl, by omega, by omega, ?_⟩
      rw [Int.toNat_natCast]
      refine loopC_rng (fun i acc d m' => Feeds m' a ∧ (∃ o, d = [o, some (.cel a), some (.dat (.str "abcdefghijklmnopqrstuvwxyz"))]) ∧ ∃ zs : List Str, acc = zs.map .str ∧ zs.length = i ∧ (∀ z ∈ zs, z.length = 1) ∧ ∀ z ∈ zs, gc z) ?_ ?_ _ _ _ ⟨hf5, ⟨none, rfl⟩, [], rfl, rfl, by simp, by simp⟩
      · rintro acc d m6 ⟨hf6, _, us, rfl, hu, hu1, hu2⟩
        have hsum := ones_sum hu1
        refine ⟨us, rfl, by decide, by rw [hsum]; omega, ?_⟩
        have hbase : (Txt.join (Str.ofString "") us).length ≤ 7 := by
          unfold Txt.join
          rw [size_glued, hsum, show (Str.ofString "").length = 0 by decide +kernel]
          omega
        have gb : gc (Txt.join (Str.ofString "") us) := by
          unfold Txt.join
          first
            | rw [Str.glued_eq_join]
            | rw [StrLaws.glued_eq_join]
            | rw [glued_eq_join]
          exact gc_join us hu2
        obtain ⟨base, eb⟩ : ∃ b, Txt.join (Str.ofString "") us = b := ⟨_, rfl⟩
        rw [eb] at hbase gb ⊢
        simp [b__law_names_B0_2]
        refine ⟨sz (by omega), ?_⟩
        refine draw_use (by omega) (by omega) hf6 fun at_ m7 a0 a1 hf7 => ?_
        simp [b__law_names_B0_3, srcOf]
        refine ⟨by omega, ?_⟩
        obtain ⟨x, ex⟩ : ∃ x, x = Txt.slice base none (some at_) := ⟨_, rfl⟩
        obtain ⟨y, ey⟩ : ∃ y, y = Txt.slice base (some at_) none := ⟨_, rfl⟩
        have lx : x.length ≤ 7 := by rw [ex]; exact Nat.le_trans (slice_len _ _ _) hbase
        have ly : y.length ≤ 7 := by rw [ey]; exact Nat.le_trans (slice_len _ _ _) hbase
        have gx : gc x := by rw [ex]; exact gc_slice gb _ _
        have gy : gc y := by rw [ey]; exact gc_slice gb _ _
        refine loopC_rng (fun i acc d m' => m' = m7 ∧ (∃ o, d = [o, some (I ff), some (.dat (.str "abcdefghijklmnopqrstuvwxyz")), some (.dat (.str base)), some (I at_)]) ∧ acc = ((List.range i).map (f2 x y ff)).map .str) ?_ ?_ _ _ _ ⟨rfl, ⟨none, rfl⟩, rfl⟩
        · rintro acc d m8 ⟨rfl, _, rfl⟩
          exact fin _ _ _ _ _ (by simp) (nm2 gx gy (by omega) (by omega) (by omega)) hf7
        · rintro i acc d m8 k hi ⟨rfl, ⟨o, rfl⟩, rfl⟩ hk
          have el := let_at ff i
          simp [← ex, ← ey]
          have l1 : ∀ c : Nat, (({ cps := #[c] } : Str)).length = 1 := fun _ => rfl
          refine ⟨sz (by omega), mulL (bds (by decide) (by decide)), sz (by decide +kernel), _, el, sz (by rw [l1]; omega), sz (by omega), sz (by rw [strLen_append, l1]; omega), Nat.lt_of_lt_of_le (show i < 1000 by omega) (sz (by decide)), hk _ _ _ ⟨rfl, ⟨_, rfl⟩, ?_⟩⟩
          rw [List.range_succ]
          simp [f2, mid]
      · rintro i acc d m6 k hi ⟨hf6, ⟨o, rfl⟩, us, rfl, hu, hu1, hu2⟩ hk
        simp
        refine draw_use (by decide) (by decide) hf6 fun q m7 q0 q1 hf7 => ?_
        obtain ⟨qn, rfl⟩ : ∃ qn : Nat, q = qn := ⟨q.toNat, by omega⟩
        have ec : atI (Str.ofString "abcdefghijklmnopqrstuvwxyz").cps.toList (qn : Int) = some (97 + qn) := atI_nat (let_get qn (by omega))
        refine ⟨sz (by decide), _, ec, _, rfl, Nat.lt_of_lt_of_le (by omega) (sz (n := 100) (by decide)), hk _ _ _ ⟨hf7, ⟨_, rfl⟩, us ++ [⟨#[97 + qn]⟩], by simp, by simp [hu], fun z hz => ?_, fun z hz => ?_⟩⟩
        · rcases List.mem_append.mp hz with hz | hz
          · exact hu1 z hz
          · have : z = ⟨#[97 + qn]⟩ := by simpa using hz
            rw [this]
            rfl
        · rcases List.mem_append.mp hz with hz | hz
          · exact hu2 z hz
          · have : z = ⟨#[97 + qn]⟩ := by simpa using hz
            rw [this]
            exact gc_one (by omega)
    · left
      exact ⟨c, fin zs m4 _ _ _ hz g1 hf4⟩
  · rintro i acc d m3 k hi ⟨rfl, ⟨o, rfl⟩, rfl⟩ hk
    have em := menu_at ff step i
    simp
    refine ⟨mulL (bds (by omega) (by omega)), _, em, ?_⟩
    refine ⟨Nat.lt_of_lt_of_le (show i < 1000 by omega) (sz (by decide)), hk _ _ _ ⟨rfl, ⟨_, rfl⟩, ?_⟩⟩
    rw [List.range_succ]
    simp
theorem mem_ints {n : Nat} {x : D} (h : x ∈ intsD 0 n) : ∃ i : Int, x = I i ∧ 0 ≤ i ∧ i < n := by
  unfold intsD at h
  obtain ⟨i, hi, rfl⟩ := List.mem_map.mp h
  have := List.mem_range.mp hi
  exact ⟨_, rfl, by omega, by omega⟩
theorem valP_put {k j : Key} {p : PyData} : ∀ {kvs : List (Key × PyData)}, (∃ q, valP kvs j = some q) ∨ j = k → ∃ q, valP (putP kvs k p) j = some q := by
  intro kvs h
  unfold putP
  split
  · rename_i ha
    rcases h with ⟨q, hq⟩ | rfl
    · unfold valP at hq ⊢
      rw [List.find?_map]
      cases e : kvs.find? (fun kv => decide (kv.1 = j)) with
      | none => rw [e] at hq; cases hq
      | some kv =>
        have : (fun kv : Key × PyData => decide (kv.1 = j)) ∘ (fun kv => if kv.1 = k then (kv.1, p) else kv) = fun kv => decide (kv.1 = j) := by
          funext kv
          simp only [Function.comp]
          split <;> rfl
        rw [this, e]
        exact ⟨_, rfl⟩
    · unfold valP
      rw [List.find?_map]
      have : (fun kv : Key × PyData => decide (kv.1 = j)) ∘ (fun kv => if kv.1 = j then (kv.1, p) else kv) = fun kv => decide (kv.1 = j) := by
        funext kv
        simp only [Function.comp]
        split <;> rfl
      rw [this]
      obtain ⟨kv, hm, hd⟩ := List.any_eq_true.mp ha
      cases e : kvs.find? (fun kv => decide (kv.1 = j)) with
      | none => exact absurd hd (by simpa using List.find?_eq_none.mp e kv hm)
      | some kv => exact ⟨_, rfl⟩
  · rename_i ha
    unfold valP
    rw [List.find?_append]
    rcases h with ⟨q, hq⟩ | rfl
    · unfold valP at hq
      cases e : kvs.find? (fun kv => decide (kv.1 = j)) with
      | none => rw [e] at hq; cases hq
      | some kv => exact ⟨_, rfl⟩
    · cases e : kvs.find? (fun kv => decide (kv.1 = j)) with
      | none => exact ⟨p, by simp⟩
      | some kv => exact ⟨_, rfl⟩
theorem kn_put {k : Key} {p : PyData} {kvs : List (Key × PyData)} {kv : Key × PyData} (h : kv ∈ putP kvs k p) : kv ∈ kvs ∨ kv = (k, p) := by
  unfold putP at h
  split at h
  · obtain ⟨x, hx, e⟩ := List.mem_map.mp h
    split at e
    · rename_i hk
      subst e
      exact .inr (by rw [hk])
    · subst e; exact .inl hx
  · rcases List.mem_append.mp h with h | h
    · exact .inl h
    · exact .inr (by simpa using h)
theorem puts_mem : ∀ {r acc : List (Key × PyData)} {kv : Key × PyData}, kv ∈ putsP acc r → kv ∈ acc ∨ kv ∈ r
  | [], acc, kv, h => .inl h
  | x :: r, acc, kv, h => by
    have : kv ∈ putsP (putP acc x.1 x.2) r := h
    rcases puts_mem this with h | h
    · rcases kn_put h with h | h
      · exact .inl h
      · exact .inr (by rw [h]; exact List.mem_cons_self)
    · exact .inr (List.mem_cons_of_mem _ h)
theorem puts_val : ∀ {r acc : List (Key × PyData)} {j : Key}, ((∃ q, valP acc j = some q) ∨ ∃ kv ∈ r, kv.1 = j) → ∃ q, valP (putsP acc r) j = some q
  | [], acc, j, h => by
    rcases h with h | ⟨kv, h, _⟩
    · exact h
    · cases h
  | x :: r, acc, j, h => by
    show ∃ q, valP (putsP (putP acc x.1 x.2) r) j = some q
    refine puts_val ?_
    rcases h with h | ⟨kv, h, e⟩
    · exact .inl (valP_put (.inl h))
    · rcases List.mem_cons.mp h with rfl | h
      · exact .inl (valP_put (.inr e.symm))
      · exact .inr ⟨kv, h, e⟩
theorem valP_key {k : Key} {p : PyData} {kvs : List (Key × PyData)} (h : valP kvs k = some p) : (k, p) ∈ kvs := by
  unfold valP at h
  cases e : kvs.find? (fun kv => decide (kv.1 = k)) with
  | none => rw [e] at h; cases h
  | some kv =>
    rw [e] at h
    cases h
    have := List.find?_some e
    have hk : kv.1 = k := by simpa using this
    rw [← hk]
    exact List.mem_of_find?_eq_some e
def kvT (ts : List (Str × Bool)) : List (Key × PyData) := ts.map fun t => (Sum.inr t.1, PyData.str (kd t.2))
theorem kvT_is (ts : List (Str × Bool)) : TH ts = .tuple ((kvT ts).map fun kv => .tuple [keyP kv.1, kv.2]) := by
  unfold kvT
  simp [keyP, Function.comp_def]
theorem nd_kind {ts : List (Str × Bool)} (nd : (ts.map (·.1)).Nodup) {a : Str} {k l : Bool} (h : (a, k) ∈ ts) (g : (a, l) ∈ ts) : k = l := by
  induction ts with
  | nil => cases h
  | cons t ts ih =>
    rw [List.map_cons, List.nodup_cons] at nd
    rcases List.mem_cons.mp h with h1 | h1 <;> rcases List.mem_cons.mp g with g1 | g1
    · rw [← h1] at g1; cases g1; rfl
    · exact absurd (List.mem_map.mpr ⟨_, g1, by rw [← h1]⟩) nd.1
    · exact absurd (List.mem_map.mpr ⟨_, h1, by rw [← g1]⟩) nd.1
    · exact ih nd.2 h1 g1
theorem kind_get {ts : List (Str × Bool)} (nd : (ts.map (·.1)).Nodup) {a : Str} {k : Bool} (h : (a, k) ∈ ts) : valP (putsP [] (kvT ts)) (.inr a) = some (.str (kd k)) := by
  obtain ⟨q, hq⟩ := puts_val (r := kvT ts) (acc := []) (j := .inr a) (.inr ⟨_, List.mem_map.mpr ⟨(a, k), h, rfl⟩, rfl⟩)
  rcases puts_mem (valP_key hq) with g | g
  · cases g
  · obtain ⟨u, hu, e⟩ := List.mem_map.mp g
    obtain ⟨u1, u2⟩ := u
    simp at e
    obtain ⟨rfl, rfl⟩ := e
    rw [hq, nd_kind nd hu h]
theorem vc_kinds_of : ∀ ds m R, ds.length = p_kinds_of.length → sp_kinds_of ds m R → b_kinds_of (EN R) (start2 N_kinds_of ds) m := by
  rintro ds m R hl ⟨ts, a, b, k, l, rfl, hn, nd, ha, hb, h⟩
  have g1 := kind_get nd ha
  have g2 := kind_get nd hb
  simp [b_kinds_of]
  refine ⟨kvT ts, by simpa using kvT_is ts, sz (by simp [kvT]; omega), fun c hc => ?_⟩
  simp [b_kinds_of_1]
  refine ⟨_, updM_same, _, g1, _, updM_same, _, g2, ?_⟩
  simp [sz]
  exact h _
end K9
set_option Elab.async false
set_option linter.all false
set_option maxRecDepth 100000
set_option maxHeartbeats 4000000
namespace K9
open PySem PySem.Spec PyProof.Rows L2 DL K01
theorem sh_all : ∀ {xs : List PyData}, shA xs = true ↔ ∀ x ∈ xs, shO x = true
  | [] => by simp [shA]
  | x :: xs => by simp [shA, sh_all (xs := xs)]
theorem ly_all {n : Nat} : ∀ {xs : List PyData}, (∀ x ∈ xs, Ly n x) → PyData.canLayAll0 xs = true ∧ PyData.depthAll xs ≤ n
  | [], _ => by simp [PyData.canLayAll0, PyData.depthAll]
  | x :: xs, h => by
    obtain ⟨h1, h2⟩ := ly_all fun y hy => h y (List.mem_cons_of_mem _ hy)
    obtain ⟨g1, g2, _⟩ := h x List.mem_cons_self
    exact ⟨by simp only [PyData.canLayAll0, h1, g1, Bool.and_self], by simp only [PyData.depthAll]; omega⟩
theorem ly_t {n : Nat} {xs : List PyData} (h : ∀ x ∈ xs, Ly n x) : Ly (n + 1) (.tuple xs) := by
  obtain ⟨h1, h2⟩ := ly_all h
  exact ⟨by simpa only [PyData.canLay0] using h1, by simp only [PyData.depth]; omega, by simp only [shO]; exact sh_all.mpr fun x hx => (h x hx).2.2⟩
theorem ly_l {n : Nat} {xs : List PyData} (h : ∀ x ∈ xs, Ly n x) : Ly (n + 1) (.list xs) := by
  obtain ⟨h1, h2⟩ := ly_all h
  exact ⟨by simpa only [PyData.canLay0] using h1, by simp only [PyData.depth]; omega, by simp only [shO]; exact sh_all.mpr fun x hx => (h x hx).2.2⟩
theorem ly_mem {n : Nat} : ∀ {xs : List PyData}, PyData.canLayAll0 xs = true → PyData.depthAll xs ≤ n → shA xs = true → ∀ x ∈ xs, Ly n x
  | y :: ys, h1, h2, h3, x, hx => by
    simp only [PyData.canLayAll0, Bool.and_eq_true] at h1
    simp only [PyData.depthAll] at h2
    simp only [shA, Bool.and_eq_true] at h3
    rcases List.mem_cons.mp hx with rfl | hx
    · exact ⟨h1.1, by omega, h3.1⟩
    · exact ly_mem h1.2 (by omega) h3.2 x hx
theorem ly_in {n : Nat} {xs : List PyData} (h : Ly n (.tuple xs)) : ∀ x ∈ xs, Ly n x := by
  obtain ⟨h1, h2, h3⟩ := h
  simp only [PyData.canLay0] at h1
  simp only [PyData.depth] at h2
  simp only [shO] at h3
  exact ly_mem h1 (by omega) h3
theorem Ly.mono {n k : Nat} {p : PyData} (h : Ly n p) (hk : n ≤ k) : Ly k p := ⟨h.1, Nat.le_trans h.2.1 hk, h.2.2⟩
theorem ly_short {n : Nat} {z : Str} (h : Ly n (.str z)) : z.length ≤ sizeLine := sz (by simpa [shO] using h.2.2)
theorem gc_ok {z : Str} (h : gc z) : PyData.strOk z = true := by
  unfold PyData.strOk
  rw [← Array.all_toList, List.all_eq_true]
  exact fun c hc => by simpa using h c hc
theorem good_gc {z : Str} (h : good z) : gc z := fun c hc => by
  have := List.all_eq_true.mp h.1 c hc
  simpa using this
theorem ly_str {z : Str} (h : gc z) (hl : z.length ≤ 1000) : Ly 1 (.str z) := ⟨by simpa [PyData.canLay0] using gc_ok h, by simp [PyData.depth], by simpa [shO] using hl⟩
theorem ly_none : Ly 1 .none := ⟨by simp [PyData.canLay0], by simp [PyData.depth], by simp [shO]⟩
theorem ly_bool {b : Bool} : Ly 1 (.bool b) := ⟨by simp [PyData.canLay0], by simp [PyData.depth], by simp [shO]⟩
theorem ly_int {i : Int} : Ly 1 (.int i) := ⟨by simp [PyData.canLay0], by simp [PyData.depth], by simp [shO]⟩
theorem lc_irr : ∀ a : List Nat, ltCps a a = false
  | [] => rfl
  | a :: r => by simp [ltCps, lc_irr r]
theorem lc_tri : ∀ a b : List Nat, ltCps a b = false → ltCps b a = false → a = b
  | [], [], _, _ => rfl
  | [], _ :: _, h, _ => by simp [ltCps] at h
  | _ :: _, [], _, h => by simp [ltCps] at h
  | a :: r, b :: t, h, g => by
    simp [ltCps] at h g
    have e : a = b := by omega
    subst e
    rw [lc_tri r t (by simpa using h) (by simpa using g)]
theorem lc_tr : ∀ a b c : List Nat, ltCps a b = true → ltCps b c = true → ltCps a c = true
  | [], [], _, h, _ => by simp [ltCps] at h
  | [], _ :: _, [], _, g => by simp [ltCps] at g
  | [], _ :: _, _ :: _, _, _ => rfl
  | _ :: _, [], _, h, _ => by simp [ltCps] at h
  | _ :: _, _ :: _, [], _, g => by simp [ltCps] at g
  | a :: r, b :: t, c :: u, h, g => by
    simp [ltCps] at h g ⊢
    rcases h with h | ⟨rfl, h⟩
    · rcases g with g | ⟨rfl, g⟩
      · exact .inl (by omega)
      · exact .inl h
    · rcases g with g | ⟨rfl, g⟩
      · exact .inl g
      · exact .inr ⟨rfl, lc_tr r t u h g⟩
theorem lc_dec : ∀ a b : List Nat, decide (a < b) = ltCps a b
  | [], [] => by simp [ltCps]
  | [], _ :: _ => by simp [ltCps]
  | _ :: _, [] => by simp [ltCps]
  | a :: r, b :: t => by
    have := lc_dec r t
    rw [Bool.eq_iff_iff] at this ⊢
    simp [ltCps, List.cons_lt_cons_iff] at this ⊢
    rw [this]
abbrev Lt (x y : Str) : Prop := ltCps x.cps.toList y.cps.toList = true
theorem str_ext {x y : Str} (h : x.cps.toList = y.cps.toList) : x = y := by
  cases x; cases y
  simp at h
  rw [h]
def up : Str → List Str → Bool
  | _, [] => true
  | l, z :: zs => ltCps l.cps.toList z.cps.toList && up z zs
theorem up_pw : ∀ {zs : List Str} {l : Str}, up l zs = true → List.Pairwise Lt (l :: zs)
  | [], l, _ => by simp
  | z :: zs, l, h => by
    simp only [up, Bool.and_eq_true] at h
    have ih := up_pw h.2
    refine List.pairwise_cons.mpr ⟨fun y hy => ?_, ih⟩
    rcases List.mem_cons.mp hy with rfl | hy
    · exact h.1
    · exact lc_tr _ _ _ h.1 ((List.pairwise_cons.mp ih).1 y hy)
theorem pw_up : ∀ {zs : List Str} {l : Str}, List.Pairwise Lt (l :: zs) → up l zs = true
  | [], l, _ => rfl
  | z :: zs, l, h => by
    obtain ⟨h1, h2⟩ := List.pairwise_cons.mp h
    simp only [up, Bool.and_eq_true]
    exact ⟨h1 z List.mem_cons_self, pw_up h2⟩
theorem rise_pw : ∀ {zs : List Str} {l : Str}, risingS l zs = true → (l :: zs).Nodup → up l zs = true
  | [], l, _, _ => rfl
  | z :: zs, l, h, nd => by
    simp only [risingS, Bool.and_eq_true, Bool.not_eq_true'] at h
    simp only [up, Bool.and_eq_true]
    have nd2 := (List.nodup_cons.mp nd)
    refine ⟨?_, rise_pw h.2 nd2.2⟩
    cases e : ltCps l.cps.toList z.cps.toList
    · exact (nd2.1 (by rw [str_ext (lc_tri _ _ e h.1)]; exact List.mem_cons_self)).elim
    · rfl
theorem sort_pw {ys : List Str} (h : sortedS ys = true) (nd : ys.Nodup) : List.Pairwise Lt ys := by
  cases ys with
  | nil => simp
  | cons y ys => exact up_pw (rise_pw h nd)
theorem pw_uniq : ∀ {xs ys : List Str}, List.Pairwise Lt xs → List.Pairwise Lt ys → (∀ z, z ∈ xs ↔ z ∈ ys) → xs = ys
  | [], [], _, _, _ => rfl
  | [], y :: ys, _, _, h => by have := (h y).mpr List.mem_cons_self; cases this
  | x :: xs, [], _, _, h => by have := (h x).mp List.mem_cons_self; cases this
  | x :: xs, y :: ys, hx, hy, h => by
    obtain ⟨x1, x2⟩ := List.pairwise_cons.mp hx
    obtain ⟨y1, y2⟩ := List.pairwise_cons.mp hy
    have e : x = y := by
      rcases List.mem_cons.mp ((h x).mp List.mem_cons_self) with e | e
      · exact e
      · rcases List.mem_cons.mp ((h y).mpr List.mem_cons_self) with g | g
        · exact g.symm
        · have := lc_tr _ _ _ (x1 y g) (y1 x e)
          rw [lc_irr] at this
          cases this
    subst e
    congr 1
    refine pw_uniq x2 y2 fun z => ⟨fun hz => ?_, fun hz => ?_⟩
    · rcases List.mem_cons.mp ((h z).mp (List.mem_cons_of_mem _ hz)) with rfl | g
      · have := x1 z hz
        rw [Lt, lc_irr] at this
        cases this
      · exact g
    · rcases List.mem_cons.mp ((h z).mpr (List.mem_cons_of_mem _ hz)) with rfl | g
      · have := y1 z hz
        rw [Lt, lc_irr] at this
        cases this
      · exact g
theorem once_up {zs ys : List Str} (h0 : ∀ z ∈ zs, 1 ≤ z.length) (hp : ys.Perm (onceS zs)) (hs : sortedS ys = true) : decide (zs = ys) = up "" zs := by
  obtain ⟨n1, n2, n3⟩ := onceS_ok zs
  have py := sort_pw hs (hp.nodup_iff.mpr n1)
  rw [Bool.eq_iff_iff, decide_eq_true_iff]
  constructor
  · intro e
    refine pw_up (List.pairwise_cons.mpr ⟨fun z hz => ?_, by rw [e]; exact py⟩)
    have := h0 z hz
    cases e1 : z.cps.toList with
    | nil =>
      have : z.length = z.cps.toList.length := by simp [Str.length]
      rw [e1] at this
      simp at this
      omega
    | cons c r => rw [Lt, e1]; rfl
  · intro h
    exact pw_uniq (List.pairwise_cons.mp (up_pw h)).2 py fun z => by rw [hp.mem_iff, n2]
theorem eqv_strs : ∀ xs ys : List Str, PyData.eqvAll (xs.map .str) (ys.map .str) = decide (xs = ys)
  | [], [] => by simp [PyData.eqvAll]
  | [], _ :: _ => by simp [PyData.eqvAll]
  | _ :: _, [] => by simp [PyData.eqvAll]
  | x :: xs, y :: ys => by
    rw [Bool.eq_iff_iff]
    simp [PyData.eqvAll, PyData.eqv, eqv_strs xs ys]
theorem chk_eq : ∀ (xs : List PyData) (l : Str), chk l xs = (xs.all isNK && up l (xs.map nm0))
  | [], l => rfl
  | x :: xs, l => by
    rw [chk, chk_eq xs, lc_dec]
    simp only [List.all_cons, List.map_cons, up]
    cases isNK x <;> cases ltCps l.cps.toList (nm0 x).cps.toList <;> simp
theorem loopC_pure {f : DE} {m : Mu} {rest : List (Option D)} (h : PyData → PyData) : ∀ (xs : List PyData) (acc : List PyData) (o : Option D) (Q : List PyData → Mu → Prop), (∀ x ∈ xs, ∀ K : DK, K (.dat (h x)) m → f (some (.dat x) :: rest) m K) → acc.length + xs.length ≤ 1000 → Q (acc ++ xs.map h) m → loopC (gN 0) dTrue f (xs.map .dat) acc (o :: rest) m Q
  | [], acc, o, Q, _, _, hq => by simpa [loopC] using hq
  | x :: xs, acc, o, Q, hs, hn, hq => by
    simp only [List.length_cons] at hn
    rw [List.map_cons, loopC]
    show f (some (.dat x) :: rest) m _
    refine hs x List.mem_cons_self _ ?_
    exact ⟨_, rfl, Nat.lt_of_lt_of_le (by omega : acc.length < 1000) (sz (by decide)), loopC_pure h xs _ _ Q (fun y hy => hs y (List.mem_cons_of_mem _ hy)) (by simp; omega) (by simpa using hq)⟩
end K9
set_option Elab.async false
set_option linter.all false
set_option maxRecDepth 100000
set_option maxHeartbeats 4000000
namespace K9
open PySem PySem.Spec PyProof.Rows L2 DL K01
def lettr : PyData → PyData
  | .str z => .bool (Txt.contains "abcdefghijklmnopqrstuvwxyz" z)
  | _ => .none
theorem lettr_map (z : Str) : (sgnS z).map lettr = (z.cps.toList.map fun c => Txt.contains "abcdefghijklmnopqrstuvwxyz" ⟨#[c]⟩).map PyData.bool := by
  simp [sgnS, lettr, Function.comp_def]
theorem len_toList (z : Str) : z.cps.toList.length = z.length := by simp [Str.length]
theorem vc_is_name : ∀ ds m R, ds.length = p_is_name.length → sp_is_name ds m R → b_is_name (EN R) (start2 N_is_name ds) m := by
  rintro ds m R hl ⟨p, rfl, hp, h⟩
  cases p with
  | str z =>
    have zs := ly_short hp
    simp [b_is_name, zs]
    simp only [isName] at h
    by_cases c1 : 1 ≤ z.length
    · have i1 : ¬ ((z.length : Int) < 1) := by omega
      by_cases c2 : z.length ≤ 8
      · have i2 : ¬ (8 < (z.length : Int)) := by omega
        refine .inr ⟨by omega, .inr ⟨by omega, ?_⟩⟩
        simp [b_is_name_1, srcOf]
        rw [show List.map (D.dat ∘ fun c => PyData.str { cps := #[c] }) z.cps.toList = (sgnS z).map D.dat from by rw [sgnS, List.map_map]]
        refine loopC_pure lettr (sgnS z) [] _ _ ?_ ?_ ?_
        · intro x hx K hK
          obtain ⟨c, hc, rfl⟩ := List.mem_map.mp hx
          simpa [lettr] using hK
        · rw [List.length_nil, sgnS, List.length_map, len_toList]; omega
        · rw [List.nil_append, lettr_map]
          refine ⟨_, rfl, ?_⟩
          simpa [c1, c2, List.all_map, Function.comp_def] using h
      · have i2 : 8 < (z.length : Int) := by omega
        exact .inr ⟨by omega, .inl ⟨by omega, by simpa [c2] using h⟩⟩
    · have i1 : (z.length : Int) < 1 := by omega
      exact .inl ⟨by omega, by simpa [c1] using h⟩
  | _ => simpa [b_is_name, isName] using h
theorem vc__law_is_name : ∀ ds m R, ds.length = p__law_is_name.length → sp__law_is_name ds m R → b__law_is_name (EN R) (start2 N__law_is_name ds) m := by
  rintro ds m R hl ⟨p, rfl, hp, h⟩
  cases p with
  | str z =>
    have zs := ly_short hp
    simp [b__law_is_name, zs]
    simp only [isName] at h
    by_cases c1 : 1 ≤ z.length
    · have i1 : ¬ ((z.length : Int) < 1) := by omega
      by_cases c2 : z.length ≤ 8
      · have i2 : ¬ (8 < (z.length : Int)) := by omega
        refine .inr ⟨by omega, .inr ⟨by omega, ?_⟩⟩
        simp [b__law_is_name_1, srcOf]
        rw [show List.map (D.dat ∘ fun c => PyData.str { cps := #[c] }) z.cps.toList = (sgnS z).map D.dat from by rw [sgnS, List.map_map]]
        refine loopC_pure lettr (sgnS z) [] _ _ ?_ ?_ ?_
        · intro x hx K hK
          obtain ⟨c, hc, rfl⟩ := List.mem_map.mp hx
          simpa [lettr] using hK
        · rw [List.length_nil, sgnS, List.length_map, len_toList]; omega
        · rw [List.nil_append, lettr_map]
          refine ⟨_, rfl, ?_⟩
          have e : ∀ l : List Bool, (!decide (false ∈ l)) = l.all id := fun l => by
            rw [Bool.eq_iff_iff]
            simp [List.all_eq_true]
          rw [e]
          simpa [c1, c2, List.all_map, Function.comp_def] using h
      · have i2 : 8 < (z.length : Int) := by omega
        exact .inr ⟨by omega, .inl ⟨by omega, by simpa [c2] using h⟩⟩
    · have i1 : (z.length : Int) < 1 := by omega
      exact .inl ⟨by omega, by simpa [c1] using h⟩
  | _ => simpa [b__law_is_name, isName] using h
theorem kd_any (y : PyData) : ([PyData.str "point", .str "stretch"].any fun z => z.eqv y) = isKd y := by
  cases y with
  | str z =>
    rw [Bool.eq_iff_iff]
    simp only [PyData.eqv, isKd, List.any_cons, List.any_nil, Bool.or_false, Bool.or_eq_true, decide_eq_true_iff, beq_iff_eq]
    exact ⟨fun h => h.imp Eq.symm Eq.symm, fun h => h.imp Eq.symm Eq.symm⟩
  | _ => simp [PyData.eqv, isKd]
theorem eqv_int (i j : Int) : PyData.eqv (.int i) (.int j) = decide (i = j) := by
  rw [Bool.eq_iff_iff]
  simp [PyData.eqv]
theorem vc_is_named_kind : ∀ ds m R, ds.length = p_is_named_kind.length → sp_is_named_kind ds m R → b_is_named_kind (EN R) (start2 N_is_named_kind ds) m := by
  rintro ds m R hl ⟨p, rfl, hp, h⟩
  cases p with
  | tuple xs =>
    have hx := ly_in hp
    by_cases c : xs.length = 2
    · obtain ⟨x, y, rfl⟩ : ∃ x y, xs = [x, y] := by
        match xs, c with
        | [x, y], _ => exact ⟨x, y, rfl⟩
      have lx := hx x (by simp)
      have ly := hx y (by simp)
      simp [b_is_named_kind, eqv_int, PyData.canLay0, PyData.depth]
      refine ⟨x, rfl, lx, ?_⟩
      simp only [isNK] at h
      cases e : isName x
      · rw [e] at h
        simpa using h
      · rw [e] at h
        simp [sz, ly.1, PyData.canLayAll0, PyData.canLay0]
        have k := kd_any y
        simp at k
        refine ⟨by have := ly.2.1; omega, ?_⟩
        rw [k]
        simpa using h
    · have e : isNK (.tuple xs) = false := by
        match xs, c with
        | [], _ => rfl
        | [_], _ => rfl
        | _ :: _ :: _ :: _, _ => rfl
      rw [e] at h
      have i : ¬ ((xs.length : Int) = 2) := by omega
      simp [b_is_named_kind, eqv_int, PyData.canLay0, PyData.depth, i]
      exact h
  | _ => simpa [b_is_named_kind, isNK] using h
theorem vc_names_of : ∀ ds m R, ds.length = p_names_of.length → sp_names_of ds m R → b_names_of (EN R) (start2 N_names_of ds) m := by
  rintro ds m R hl ⟨ts, rfl, hn, h⟩
  simp [b_names_of, srcOf]
  refine loopC_by (fun rest acc d m' => m' = m ∧ (∃ o1 o2, d = [o1, o2]) ∧ ∃ done todo, ts = done ++ todo ∧ rest = todo.map (fun t => .dat (.tuple [.str t.1, t.2])) ∧ acc = done.map fun t => .str t.1) ?_ ?_ _ _ _ _ ⟨rfl, ⟨_, _, rfl⟩, [], ts, rfl, by first | rfl | (rw [List.map_map]; rfl) | simp, rfl⟩
  · rintro acc d m1 ⟨rfl, _, done, todo, e1, e2, rfl⟩
    have e3 : todo = [] := by simpa using e2.symm
    subst e3
    rw [List.append_nil] at e1
    subst e1
    exact h
  · rintro x xs acc d m1 k ⟨rfl, ⟨o1, o2, rfl⟩, done, todo, e1, e2, rfl⟩ hk
    cases todo with
    | nil => simp at e2
    | cons t todo =>
      obtain ⟨rfl, rfl⟩ := List.cons.inj e2
      have hln : done.length < 7 := by
        have := congrArg List.length e1
        simp at this
        omega
      simp
      exact ⟨Nat.lt_of_lt_of_le hln (sz (n := 7) (by decide)), hk _ _ _ ⟨rfl, ⟨_, _, rfl⟩, done ++ [t], todo, by rw [e1]; simp, rfl, by simp⟩⟩
def nkb (p : PyData) : PyData := .bool (isNK p)
theorem nk_open {x : PyData} (h : isNK x = true) : ∃ (z : Str) (y : PyData), x = .tuple [.str z, y] ∧ isName (.str z) = true ∧ isKd y = true := by
  unfold isNK at h
  split at h
  · rename_i x y
    simp only [Bool.and_eq_true] at h
    cases x with
    | str z => exact ⟨z, y, rfl, h.1, h.2⟩
    | _ => exact nomatch h.1
  · cases h
theorem nk_all : ∀ {xs : List PyData}, xs.all isNK = true → ∃ ts : List (Str × PyData), xs = ts.map (fun t => .tuple [.str t.1, t.2]) ∧ ∀ t ∈ ts, isName (.str t.1) = true ∧ isKd t.2 = true
  | [], _ => ⟨[], rfl, by simp⟩
  | x :: xs, h => by
    simp only [List.all_cons, Bool.and_eq_true] at h
    obtain ⟨ts, e, q⟩ := nk_all h.2
    obtain ⟨z, y, e1, q1, q2⟩ := nk_open h.1
    refine ⟨(z, y) :: ts, by rw [e1, e]; rfl, fun t ht => ?_⟩
    rcases List.mem_cons.mp ht with rfl | ht
    · exact ⟨q1, q2⟩
    · exact q t ht
theorem lay_strs {zs : List Str} (h : ∀ z ∈ zs, PyData.strOk z = true) : (PyData.list (zs.map .str)).canLay0 = true := by
  simp only [PyData.canLay0]
  induction zs with
  | nil => rfl
  | cons z zs ih =>
    simp only [List.map_cons, PyData.canLayAll0, PyData.canLay0, Bool.and_eq_true]
    exact ⟨h z List.mem_cons_self, ih fun y hy => h y (List.mem_cons_of_mem _ hy)⟩
theorem dep_strs (zs : List Str) : (PyData.list (zs.map .str)).depth ≤ 100 := by
  simp only [PyData.depth]
  have : PyData.depthAll (zs.map PyData.str) ≤ 1 := by
    induction zs with
    | nil => simp [PyData.depthAll]
    | cons z zs ih => simp only [List.map_cons, PyData.depthAll, PyData.depth]; omega
  omega
theorem vc_is_things : ∀ ds m R, ds.length = p_is_things.length → sp_is_things ds m R → b_is_things (EN R) (start2 N_is_things ds) m := by
  rintro ds m R hl ⟨p, rfl, hp, h⟩
  cases p with
  | tuple xs =>
    have hx := ly_in hp
    simp [b_is_things]
    simp only [isTh] at h
    by_cases c1 : 1 ≤ xs.length
    · have i1 : ¬ ((xs.length : Int) < 1) := by omega
      by_cases c2 : xs.length ≤ 6
      · have i2 : ¬ (6 < (xs.length : Int)) := by omega
        refine .inr ⟨by omega, .inr ⟨by omega, ?_⟩⟩
        simp [b_is_things_1, srcOf]
        refine loopC_pure nkb xs [] _ _ ?_ (by simp; omega) ?_
        · intro x hx' K hK
          simp
          exact ⟨_, rfl, hx x hx', hK⟩
        · refine ⟨xs.map isNK, by simp [nkb], ?_⟩
          simp only [c1, c2, decide_true, Bool.true_and, chk_eq] at h
          cases e : xs.all isNK
          · rw [e] at h
            have ef : false ∈ xs.map isNK := by
              obtain ⟨x, h1, h2⟩ := List.all_eq_false.mp e
              exact List.mem_map.mpr ⟨x, h1, by simpa using h2⟩
            rw [if_pos ef]
            simpa using h
          · rw [e] at h
            have ef : ¬ false ∈ xs.map isNK := fun g => by
              obtain ⟨x, h1, h2⟩ := List.mem_map.mp g
              rw [List.all_eq_true.mp e x h1] at h2
              cases h2
            rw [if_neg ef]
            simp only [Bool.true_and] at h
            obtain ⟨ts, rfl, tq⟩ := nk_all e
            simp [b_is_things_2]
            refine ⟨ts, rfl, by simpa using c2, ?_⟩
            have e1 : (ts.map fun t => PyData.str t.1) = (ts.map (·.1)).map PyData.str := by simp
            have n0 : ∀ z ∈ ts.map (·.1), 1 ≤ z.length := fun z hz => by
              obtain ⟨t, ht, rfl⟩ := List.mem_map.mp hz
              have := (tq t ht).1
              simp only [isName, Bool.and_eq_true, decide_eq_true_iff] at this
              exact this.1
            have so : ∀ z ∈ ts.map (·.1), PyData.strOk z = true := fun z hz => by
              obtain ⟨t, ht, rfl⟩ := List.mem_map.mp hz
              have := ly_in (hx _ (List.mem_map.mpr ⟨t, ht, rfl⟩)) (.str t.1) (by simp)
              simpa [PyData.canLay0] using this.1
            have e2 : (ts.map fun t => PyData.tuple [.str t.1, t.2]).map nm0 = ts.map (·.1) := by simp [nm0, Function.comp_def]
            rw [e2] at h
            rw [e1]
            generalize hz : ts.map (·.1) = zs at *
            have zl : zs.length ≤ 60 := by rw [← hz]; simp at c2 ⊢; omega
            simp [b_is_things_3]
            refine ⟨zs, rfl, zl, fun ys hpm hs => ?_⟩
            have ho := onceS_ok zs
            refine ⟨lay_strs so, lay_strs fun z hz => so z ((ho.2.1 z).mp (hpm.mem_iff.mp hz)), dep_strs _, ?_⟩
            rw [show PyData.eqv (.list (zs.map .str)) (.list (ys.map .str)) = PyData.eqvAll (zs.map .str) (ys.map .str) from by simp [PyData.eqv], eqv_strs, once_up n0 hpm hs]
            exact h
      · have i2 : 6 < (xs.length : Int) := by omega
        exact .inr ⟨by omega, .inl ⟨by omega, by simpa [c2] using h⟩⟩
    · have i1 : (xs.length : Int) < 1 := by omega
      exact .inl ⟨by omega, by simpa [c1] using h⟩
  | _ => simpa [b_is_things, isTh] using h
end K9
set_option Elab.async false
set_option linter.all false
set_option maxRecDepth 100000
set_option maxHeartbeats 4000000
namespace K9
open PySem PySem.Spec PyProof.Rows L2 DL K01
theorem kd_in (y : PyData) : (∃ z : Str, y = .str z ∧ isKd y = decide (z ∈ [Str.ofString "point", "stretch"])) ∨ ((∀ z, y ≠ .str z) ∧ isKd y = false) := by
  cases y with
  | str z => exact .inl ⟨z, rfl, by simp [isKd]⟩
  | _ => exact .inr ⟨by simp, rfl⟩
theorem loop_things {E : Ends2} {m : Mu} {T : D} {R : DK} (hr : E.rt = R) (hn : ∀ l o, R (.dat (.bool true)) m → E.nx [some T, some (.dat (.str l)), o] m) : ∀ (xs : List PyData) (l : Str) (o : Option D), (∀ x ∈ xs, Ly 40 x) → R (.dat (.bool (chk l xs))) m →
    loopL (gN 2) b__law_is_things_L0 E (xs.map .dat) [some T, some (.dat (.str l)), o] m
  | [], l, o, _, h => hn l o h
  | x :: xs, l, o, hx, h => by
    have lx := hx x List.mem_cons_self
    have hx' := fun y hy => hx y (List.mem_cons_of_mem _ hy)
    rw [List.map_cons, loopL]
    have ih := loop_things hr hn xs (nm0 x) (some (.dat x)) hx'
    obtain ⟨K, hK⟩ : ∃ K, K = loopL (gN 2) b__law_is_things_L0 E (xs.map .dat) := ⟨_, rfl⟩
    rw [← hK] at ih ⊢
    have bad : isNK x = false → R (.dat (.bool false)) m := fun e => by rw [chk, e] at h; exact h
    cases x with
    | tuple ys =>
      have hy := ly_in lx
      by_cases c : ys.length = 2
      · obtain ⟨u, v, rfl⟩ : ∃ u v, ys = [u, v] := by
          match ys, c with
          | [u, v], _ => exact ⟨u, v, rfl⟩
        have lu := hy u (by simp)
        have lv := hy v (by simp)
        simp [b__law_is_things_L0, eqv_int, PyData.canLay0, PyData.depth, hr]
        refine ⟨u, rfl, lu, ?_⟩
        cases e : isName u
        · simp
          exact bad (by simp [isNK, e])
        · cases u with
          | str z =>
            simp
            rw [chk] at h
            simp only [isNK, e, nm0, Bool.true_and] at h ih
            by_cases g : l.cps.toList < z.cps.toList
            · refine .inl ⟨by simpa using g, ?_⟩
              simp only [g, decide_true, Bool.true_and] at h
              rcases kd_in v with ⟨y, rfl, ky⟩ | ⟨nv, kv⟩
              · rw [ky] at h
                simp [b__law_is_things_L0_1, sz]
                refine ⟨[Str.ofString "point", "stretch"], rfl, ?_⟩
                by_cases q : y ∈ [Str.ofString "point", "stretch"]
                · simp only [q, decide_true, Bool.true_and] at h
                  have q2 := q
                  simp at q2
                  simp [q2, b__law_is_things_L0_2]
                  exact ih h
                · simp only [q, decide_false, Bool.false_and] at h
                  have q2 := q
                  simp at q2
                  simp [q2]
                  exact h
              · rw [kv] at h
                cases v with
                | str y => exact (nv y rfl).elim
                | _ => simpa [b__law_is_things_L0_1] using h
            · refine .inr ⟨?_, ?_⟩
              · have g2 : ¬ (l.cps < z.cps) := fun t => g (by simpa using t)
                exact Array.not_lt.mp g2
              · simpa [g] using h
          | _ => cases e
      · have e : isNK (.tuple ys) = false := by
          match ys, c with
          | [], _ => rfl
          | [_], _ => rfl
          | _ :: _ :: _ :: _, _ => rfl
        have i : ¬ ((ys.length : Int) = 2) := by omega
        simp [b__law_is_things_L0, eqv_int, PyData.canLay0, PyData.depth, i, hr]
        exact bad e
    | _ =>
      simp [b__law_is_things_L0, hr]
      exact bad rfl
theorem vc__law_is_things : ∀ ds m R, ds.length = p__law_is_things.length → sp__law_is_things ds m R → b__law_is_things (EN R) (start2 N__law_is_things ds) m := by
  rintro ds m R hl ⟨p, rfl, hp, h⟩
  cases p with
  | tuple xs =>
    have hx := ly_in hp
    simp [b__law_is_things]
    simp only [isTh] at h
    by_cases c1 : 1 ≤ xs.length
    · by_cases c2 : xs.length ≤ 6
      · refine .inr ⟨by omega, .inr ⟨by omega, ?_⟩⟩
        simp only [c1, c2, decide_true, Bool.true_and] at h
        simp [b__law_is_things_1, b__law_is_things_2]
        exact loop_things (R := R) rfl (fun l o q => by simpa [b__law_is_things_3] using q) xs "" none hx h
      · exact .inr ⟨by omega, .inl ⟨by omega, by simpa [c2] using h⟩⟩
    · exact .inl ⟨by omega, by simpa [c1] using h⟩
  | _ => simpa [b__law_is_things, isTh] using h
end K9
set_option Elab.async false
set_option linter.all false
set_option maxRecDepth 100000
set_option maxHeartbeats 4000000
namespace K9
open PySem PySem.Spec PyProof.Rows L2 DL K01
theorem at_use {xs : List PyData} {P : PyData → Prop} {r : Int} {K : PyData → Prop} (h : ∀ p ∈ xs, P p) (h0 : 0 ≤ r) (h1 : r < (xs.length : Int)) (k : ∀ p, P p → K p) : ∃ p, atI xs r = some p ∧ K p := by
  obtain ⟨p, e, g⟩ := at_all h h0 h1
  exact ⟨p, e, k p g⟩
def LyA (n : Nat) (xs : List PyData) : Prop := ∀ x ∈ xs, Ly n x
theorem LyA.nil {n : Nat} : LyA n [] := fun x h => nomatch h
theorem LyA.app {n : Nat} {xs ys : List PyData} (h : LyA n xs) (g : LyA n ys) : LyA n (xs ++ ys) := fun x hx => (List.mem_append.mp hx).elim (h x) (g x)
theorem cut_mem {α : Type} {xs : List α} {lo hi : Option Int} {x : α} (h : x ∈ cutP xs lo hi) : x ∈ xs := List.mem_of_mem_drop (List.mem_of_mem_take h)
theorem LyA.cut {n : Nat} {xs : List PyData} (h : LyA n xs) (lo hi : Option Int) : LyA n (cutP xs lo hi) := fun x hx => h x (cut_mem hx)
theorem LyA.cons {n : Nat} {x : PyData} {xs : List PyData} (h : Ly n x) (g : LyA n xs) : LyA n (x :: xs) := fun y hy => by
  rcases List.mem_cons.mp hy with rfl | hy
  · exact h
  · exact g y hy
theorem LyA.rev {n : Nat} {xs : List PyData} (h : LyA n xs) : LyA n xs.reverse := fun x hx => h x (List.mem_reverse.mp hx)
theorem LyA.mono {n k : Nat} {xs : List PyData} (h : LyA n xs) (hk : n ≤ k) : LyA k xs := fun x hx => (h x hx).mono hk
theorem LyA.one {n : Nat} {x : PyData} (h : Ly n x) : LyA n [x] := .cons h .nil
theorem LyA.t {n : Nat} {xs : List PyData} (h : LyA n xs) : Ly (n + 1) (.tuple xs) := ly_t h
theorem LyA.l {n : Nat} {xs : List PyData} (h : LyA n xs) : Ly (n + 1) (.list xs) := ly_l h
theorem cl {xs : List PyData} {lo hi : Option Int} {n : Nat} (h : xs.length ≤ n) : (cutP xs lo hi).length ≤ n := Nat.le_trans (cutP_le xs lo hi) h
theorem shp_cases : ∀ {n : Nat} {p : PyData}, Shp n p → (∃ z, p = .str z ∧ good z) ∨ ∃ k xs, n = k + 1 ∧ p = .tuple xs ∧ xs.length ≤ 40 ∧ ∀ x ∈ xs, Shp k x
  | 0, p, h => .inl h
  | n + 1, p, .inl h => by
    rcases shp_cases h with h | ⟨k, xs, rfl, h1, h2, h3⟩
    · exact .inl h
    · exact .inr ⟨k + 1, xs, rfl, h1, h2, fun x hx => .inl (h3 x hx)⟩
  | n + 1, p, .inr ⟨xs, h1, h2, h3⟩ => .inr ⟨n, xs, rfl, h1, h2, h3⟩
theorem shp_ly : ∀ {n : Nat} {p : PyData}, Shp n p → Ly (n + 1) p
  | 0, p, ⟨z, e, g⟩ => by subst e; exact ly_str (good_gc g) (by have := g.2; omega)
  | n + 1, p, .inl h => (shp_ly h).mono (by omega)
  | n + 1, p, .inr ⟨xs, h1, h2, h3⟩ => by subst h1; exact ly_t fun x hx => shp_ly (h3 x hx)
theorem sign_at {r : Int} (h0 : 0 ≤ r) (h1 : r < 40) : ∃ c, atI (Str.ofString "abcdefghijklmnopqrstuvwxyz.A 0`{|}~\x40[Z_9").cps.toList r = some c ∧ c < 1114112 := by
  obtain ⟨k, rfl⟩ : ∃ k : Nat, r = k := ⟨r.toNat, by omega⟩
  have hk : k < (Str.ofString "abcdefghijklmnopqrstuvwxyz.A 0`{|}~\x40[Z_9").cps.toList.length := by
    have : (Str.ofString "abcdefghijklmnopqrstuvwxyz.A 0`{|}~\x40[Z_9").cps.toList.length = 40 := by decide +kernel
    omega
  have all : ∀ c ∈ (Str.ofString "abcdefghijklmnopqrstuvwxyz.A 0`{|}~\x40[Z_9").cps.toList, c < 1114112 := by decide +kernel
  exact ⟨_, atI_nat (List.getElem?_eq_getElem hk), all _ (List.getElem_mem hk)⟩
theorem vc__law_spoilt (j : Nat) : ∀ ds m R, ds.length = p__law_spoilt.length → sp__law_spoilt (j + 1) ds m R → b__law_spoilt j (EN R) (start2 N__law_spoilt ds) m := by
  rintro ds m R hl ⟨a, p, rfl, hs, hf, h⟩
  rcases shp_cases hs with ⟨z, rfl, gz⟩ | ⟨n, W, rfl, rfl, wl, wz⟩
  · have zl := gz.2
    have zc := good_gc gz
    have zs8 : z.length ≤ sizeLine := sz (by omega)
    simp [b__law_spoilt, zs8]
    refine draw_use2 (by omega) (by omega) hf fun at' m1 _ _ hf1 kp1 => ?_
    simp [b__law_spoilt_1, b__law_spoilt_2, b__law_spoilt_3]
    simp [b__law_spoilt_B1]
    refine draw_use2 (by decide) (by decide) hf1 fun r m2 r0 r1 hf2 kp2 => ?_
    obtain ⟨c, ec, hc⟩ := sign_at r0 r1
    refine ⟨sz (by decide +kernel), c, ec, ?_⟩
    have l1 : ∀ c : Nat, (({ cps := #[c] } : Str)).length = 1 := fun _ => rfl
    have la : ∀ a b : Str, (a ++ b).length = a.length + b.length := fun a b => strLen_append a b
    have sl : ∀ lo hi, (Txt.slice z lo hi).length ≤ 20 := fun lo hi => Nat.le_trans (slice_len _ _ _) zl
    have q1 : ∀ lo hi, (Txt.slice z lo hi).length + 1 ≤ sizeLine := fun lo hi => sz (by have := sl lo hi; omega)
    have q2 : ∀ lo hi lo' hi', (Txt.slice z lo hi).length + 1 + (Txt.slice z lo' hi').length ≤ sizeLine := fun lo hi lo' hi' => sz (by have := sl lo hi; have := sl lo' hi'; omega)
    have q3 : ∀ lo hi lo' hi', (Txt.slice z lo hi).length + (Txt.slice z lo' hi').length ≤ sizeLine := fun lo hi lo' hi' => sz (by have := sl lo hi; have := sl lo' hi'; omega)
    have gcc : gc ({ cps := #[c] } : Str) := gc_one hc
    simp [b__law_spoilt_B1_1, zs8, l1, la, q1, q2, q3, sz]
    have sg := fun lo hi => gc_slice zc lo hi
    have B : ∀ t1 t2 t3 : Str, gc t1 ∧ t1.length ≤ 1000 → gc t2 ∧ t2.length ≤ 1000 → gc t3 ∧ t3.length ≤ 1000 → b__law_spoilt_B1_2 j { nx := b__law_spoilt_4 j (EN R), rt := R } [some (.cel a), some (.dat (.str z)), some (I at'), some (.dat (.list [.str t1, .str t2, .str t3])), some (.dat (.str { cps := #[c] }))] m2 := fun t1 t2 t3 g1 g2 g3 => by
      simp [b__law_spoilt_B1_2, sz]
      refine draw_use2 (by decide) (by decide) hf2 fun q m3 q0 q1 hf3 kp3 => ?_
      refine at_use (P := Ly (j + 3)) ?_ q0 q1 fun p gp => h p m3 gp hf3 (kp1.trans (kp2.trans kp3))
      intro p hp
      simp at hp
      rcases hp with rfl | rfl | rfl | rfl
      · exact (ly_str g1.1 g1.2).mono (by omega)
      · exact (ly_str g2.1 g2.2).mono (by omega)
      · exact (ly_str g3.1 g3.2).mono (by omega)
      · exact (LyA.t (.one (ly_str zc (by omega)))).mono (by omega)
    have k1 : ∀ lo hi lo' hi', (Txt.slice z lo hi ++ ({ cps := #[c] } : Str) ++ Txt.slice z lo' hi').length ≤ 1000 := fun lo hi lo' hi' => by
      rw [la, la, l1]; have := sl lo hi; have := sl lo' hi'; omega
    have k2 : ∀ lo hi lo' hi', (Txt.slice z lo hi ++ Txt.slice z lo' hi').length ≤ 1000 := fun lo hi lo' hi' => by
      rw [la]; have := sl lo hi; have := sl lo' hi'; omega
    exact B _ _ _ ⟨gc_app (gc_app (sg _ _) gcc) (sg _ _), k1 _ _ _ _⟩ ⟨gc_app (gc_app (sg _ _) gcc) (sg _ _), k1 _ _ _ _⟩ ⟨gc_app (sg _ _) (sg _ _), k2 _ _ _ _⟩
  · have we : LyA (n + 3) W := fun x hx => (shp_ly (wz x hx)).mono (by omega)
    have c40 : ∀ lo hi, (cutP W lo hi).length ≤ 40 := fun lo hi => cl wl
    have s2 : ∀ lo hi, (cutP W lo hi).length + 1 ≤ sizeLine := fun lo hi => sz (by have := c40 lo hi; omega)
    have s3 : ∀ lo hi lo' hi', (cutP W lo hi).length + 1 + (cutP W lo' hi').length ≤ sizeLine := fun lo hi lo' hi' => sz (by have := c40 lo hi; have := c40 lo' hi'; omega)
    have s4 : ∀ lo hi lo' hi', (cutP W lo hi).length + (cutP W lo' hi').length ≤ sizeLine := fun lo hi lo' hi' => sz (by have := c40 lo hi; have := c40 lo' hi'; omega)
    have s6 : ∀ lo hi lo' hi' l2 h2, (cutP W lo hi).length + (cutP W lo' hi').length + (cutP W l2 h2).length ≤ sizeLine := fun lo hi lo' hi' l2 h2 => sz (by have := c40 lo hi; have := c40 lo' hi'; have := c40 l2 h2; omega)
    have s5 : W.length + 1 ≤ sizeLine := sz (by omega)
    simp [b__law_spoilt]
    refine draw_use2 (by omega) (by omega) hf fun at' m1 t0 t1 hf1 kp1 => ?_
    have deep : ∀ m2, Feeds m2 a → Kp a m m2 → b__law_spoilt_2 (n + 1) (EN R) [some (.cel a), some (.dat (.tuple W)), some (I at'), none, none] m2 := fun m2 hf2 kp2 => by
      simp [b__law_spoilt_2, b__law_spoilt_B0, sz, s2, s3, s4, s5, s6]
      simp [b__law_spoilt_B0_1, sz, s5]
      refine draw_use2 (by decide) (by decide) hf2 fun q m3 q0 q1 hf3 kp3 => ?_
      refine at_use (P := Ly (n + 1 + 3)) ?_ q0 q1 fun p gp => h p m3 gp hf3 (kp2.trans kp3)
      intro p hp
      simp at hp
      rcases hp with rfl | rfl | rfl | rfl | rfl
      · exact we.l
      · exact ((we.cut _ _).app (we.cut _ _)).t
      · exact ((we.cut _ _).app ((we.cut _ _).app (we.cut _ _))).t
      · exact we.rev.t
      · exact (we.app (.one (ly_int.mono (by omega)))).t
    simp [b__law_spoilt_1]
    by_cases c : at' < (W.length : Int)
    · right
      refine ⟨c, draw_use2 (by decide) (by decide) hf1 fun q m2 q0 q1 hf2 kp2 => ?_⟩
      by_cases c2 : 0 < q
      · simp [c2]
        refine at_use (P := Shp n) wz t0 c fun x hx => ?_
        refine ⟨a, x, rfl, hx, hf2, fun p m3 gp hf3 kp3 => ⟨[p], rfl, sz (by show 1 ≤ 1000; decide), s2 _ _, s3 _ _ _ _, h _ m3 ?_ hf3 (kp1.trans (kp2.trans kp3))⟩⟩
        exact ((we.cut _ _).app (.cons gp (we.cut _ _))).t
      · simp [c2]
        exact deep m2 hf2 (kp1.trans kp2)
    · left
      exact ⟨by omega, deep m1 hf1 kp1⟩
end K9
set_option Elab.async false
set_option linter.all false
set_option maxRecDepth 100000
set_option maxHeartbeats 4000000
namespace K9
open PySem PySem.Spec PyProof.Rows L2 DL K01
theorem kd_gc (k : Bool) : gc (kd k) ∧ (kd k).length ≤ 1000 := by
  have g : ∀ k : Bool, (kd k).cps.toList.all (fun c => decide (c < 1114112)) = true ∧ (kd k).length ≤ 1000 := by
    intro k; cases k <;> decide +kernel
  exact ⟨fun c hc => by simpa using List.all_eq_true.mp (g k).1 c hc, (g k).2⟩
theorem lit_ly {z : Str} (h : z.cps.toList.all (fun c => decide (c < 1114112)) = true ∧ z.length ≤ 1000) : Ly 1 (.str z) :=
  ly_str (fun c hc => by simpa using List.all_eq_true.mp h.1 c hc) h.2
theorem vc__law_bent : ∀ ds m R, ds.length = p__law_bent.length → sp__law_bent ds m R → b__law_bent (EN R) (start2 N__law_bent ds) m := by
  rintro ds m R hl ⟨a, ts, rfl, t1, nm, hf, h⟩
  have w0 : ∀ x ∈ ts.map (fun t => PyData.tuple [.str t.1, .str (kd t.2)]), ∃ (z : Str) (k : Bool), x = .tuple [.str z, .str (kd k)] ∧ good z := fun x hx => by
    obtain ⟨t, ht, rfl⟩ := List.mem_map.mp hx
    exact ⟨t.1, t.2, rfl, nm.2.2 t.1 (List.mem_map.mpr ⟨t, ht, rfl⟩)⟩
  have n6 : ts.length ≤ 6 := by simpa using nm.2.1
  unfold TH
  generalize hW : ts.map (fun t => PyData.tuple [.str t.1, .str (kd t.2)]) = W at *
  have wl : W.length ≤ 6 := by rw [← hW]; simpa using n6
  have w1 : 1 ≤ W.length := by rw [← hW]; simpa using t1
  have we : LyA 2 W := fun x hx => by
    obtain ⟨z, k, rfl, g⟩ := w0 x hx
    exact LyA.t (.cons (ly_str (good_gc g) (by have := g.2; omega)) (.one (ly_str (kd_gc k).1 (kd_gc k).2)))
  clear hW nm t1 n6
  simp [b__law_bent]
  refine draw_use2 (by omega) (by omega) hf fun at' m1 a0 a1 hf1 kp1 => ?_
  simp [b__law_bent_1]
  refine at_use (P := fun x => ∃ (z : Str) (k : Bool), x = .tuple [.str z, .str (kd k)] ∧ good z) w0 a0 a1 fun p ⟨z, k, e, gz⟩ => ?_
  subst e
  have zl := gz.2
  have la : ∀ a b : Str, (a ++ b).length = a.length + b.length := fun a b => strLen_append a b
  have zy : Ly 1 (.str z) := ly_str (good_gc gz) (by omega)
  have ky : Ly 1 (.str (kd k)) := ly_str (kd_gc k).1 (kd_gc k).2
  have zz : Ly 1 (.str (z ++ z)) := ly_str (gc_app (good_gc gz) (good_gc gz)) (by rw [la]; omega)
  simp
  simp [b__law_bent_2, sz]
  refine ⟨sz (by omega), draw_use2 (by decide) (by decide) hf1 fun r m2 r0 r1 hf2 kp2 => ?_⟩
  refine at_use (P := Ly 3) ?_ r0 r1 fun odd go => ?_
  · intro p hp
    simp at hp
    rcases hp with rfl | rfl | rfl | rfl | rfl | rfl | rfl | rfl | rfl | rfl | rfl | rfl | rfl
    all_goals first
      | exact (lit_ly (by decide +kernel)).mono (by decide)
      | exact ly_none.mono (by decide)
      | exact ly_int.mono (by decide)
      | exact ly_bool.mono (by decide)
      | exact zz.mono (by decide)
      | exact (LyA.t (.one (lit_ly (by decide +kernel)))).mono (by decide)
      | exact (LyA.l (.one (lit_ly (by decide +kernel)))).mono (by decide)
      | exact (LyA.l (n := 1) .nil).mono (by decide)
  simp [b__law_bent_3, sz]
  refine draw_use2 (by decide) (by decide) hf2 fun r m3 r0 r1 hf3 kp3 => ?_
  refine at_use (P := Ly 3) ?_ r0 r1 fun oth gt => ?_
  · intro p hp
    simp at hp
    rcases hp with rfl | rfl | rfl | rfl | rfl | rfl | rfl | rfl | rfl | rfl
    all_goals first
      | exact (lit_ly (by decide +kernel)).mono (by decide)
      | exact ly_none.mono (by decide)
      | exact ly_bool.mono (by decide)
      | exact (LyA.t (.one (lit_ly (by decide +kernel)))).mono (by decide)
      | exact (LyA.l (.one (lit_ly (by decide +kernel)))).mono (by decide)
      | exact (LyA.l (n := 1) .nil).mono (by decide)
  simp [b__law_bent_4, sz]
  have on : LyA 4 [.list [.str z, .str (kd k)], .tuple [.str z], .tuple [.str z, .str (kd k), .str (kd k)], .tuple [odd, .str (kd k)], .tuple [.str z, oth], .tuple [.str (kd k), .str z], .str z, .none] := by
    have z3 : Ly 3 (.str z) := zy.mono (by decide)
    have k3 : Ly 3 (.str (kd k)) := ky.mono (by decide)
    exact .cons (LyA.l (.cons z3 (.one k3))) (.cons (LyA.t (.one z3)) (.cons (LyA.t (.cons z3 (.cons k3 (.one k3)))) (.cons (LyA.t (.cons go (.one k3))) (.cons (LyA.t (.cons z3 (.one gt))) (.cons (LyA.t (.cons k3 (.one z3))) (.cons (z3.mono (by decide)) (.one (ly_none.mono (by decide)))))))))
  have ol : [PyData.list [.str z, .str (kd k)], .tuple [.str z], .tuple [.str z, .str (kd k), .str (kd k)], .tuple [odd, .str (kd k)], .tuple [.str z, oth], .tuple [.str (kd k), .str z], .str z, .none].length = 8 := rfl
  generalize [PyData.list [.str z, .str (kd k)], .tuple [.str z], .tuple [.str z, .str (kd k), .str (kd k)], .tuple [odd, .str (kd k)], .tuple [.str z, oth], .tuple [.str (kd k), .str z], .str z, .none] = O at on ol ⊢
  have c6 : ∀ lo hi, (cutP W lo hi).length ≤ 6 := fun lo hi => cl wl
  have s1 : ∀ lo hi, W.length + (cutP W lo hi).length ≤ sizeLine := fun lo hi => sz (by have := c6 lo hi; omega)
  have s2 : ∀ lo hi, (cutP W lo hi).length + 1 ≤ sizeLine := fun lo hi => sz (by have := c6 lo hi; omega)
  have s3 : ∀ lo hi lo' hi', (cutP W lo hi).length + 1 + (cutP W lo' hi').length ≤ sizeLine := fun lo hi lo' hi' => sz (by have := c6 lo hi; have := c6 lo' hi'; omega)
  have s5 : W.length + 1 ≤ sizeLine := sz (by omega)
  have p2 : Ly 2 (.tuple [.str "zzzzzzzz", .str "point"]) := LyA.t (.cons (lit_ly (by decide +kernel)) (.one (lit_ly (by decide +kernel))))
  simp [b__law_bent_5, sz, s1, s5]
  have g1 : LyA 5 [.list W, .tuple W.reverse, .tuple (W ++ cutP W (some (-1)) none), .tuple (W ++ [.tuple [.str "zzzzzzzz", .str "point"]])] := by
    exact .cons (we.l.mono (by decide)) (.cons (we.rev.t.mono (by decide)) (.cons ((we.app (we.cut _ _)).t.mono (by decide)) (.one ((we.app (.one p2)).t.mono (by decide)))))
  have l1 : [PyData.list W, .tuple W.reverse, .tuple (W ++ cutP W (some (-1)) none), .tuple (W ++ [.tuple [.str "zzzzzzzz", .str "point"]])].length = 4 := rfl
  generalize [PyData.list W, .tuple W.reverse, .tuple (W ++ cutP W (some (-1)) none), .tuple (W ++ [.tuple [.str "zzzzzzzz", .str "point"]])] = S1 at g1 l1 ⊢
  obtain ⟨w, hw, gw⟩ : ∃ w, atI W 0 = some w ∧ Ly 2 w := at_all we (by decide) (by omega)
  simp [b__law_bent_6, sz, hw, l1]
  have g2 : LyA 5 (S1 ++ [.tuple [], .none, .str "a", w]) := g1.app (.cons ((LyA.t (n := 1) .nil).mono (by decide)) (.cons (ly_none.mono (by decide)) (.cons ((lit_ly (by decide +kernel)).mono (by decide)) (.one (gw.mono (by decide))))))
  have l2 : (S1 ++ [.tuple [], .none, .str "a", w]).length = 8 := by simp [l1]
  generalize S1 ++ [.tuple [], .none, .str "a", w] = S2 at g2 l2 ⊢
  simp [b__law_bent_7, srcOf]
  refine loopC_pure (fun x => .tuple (cutP W none (some at') ++ (x :: cutP W (some (at' + 1)) none))) O [] _ _ ?_ (by simp; omega) ?_
  · intro x hx K hK
    simp [sz, s2, s3]
    exact hK
  have g3 : LyA 5 (O.map fun x => PyData.tuple (cutP W none (some at') ++ (x :: cutP W (some (at' + 1)) none))) := fun y hy => by
    obtain ⟨x, hx, rfl⟩ := List.mem_map.mp hy
    exact LyA.t ((((we.cut _ _).mono (by decide)).app (.cons (on x hx) ((we.cut _ _).mono (by decide)))))
  have l3 : (O.map fun x => PyData.tuple (cutP W none (some at') ++ (x :: cutP W (some (at' + 1)) none))).length = 8 := by simp [ol]
  rw [List.nil_append]
  generalize (O.map fun x => PyData.tuple (cutP W none (some at') ++ (x :: cutP W (some (at' + 1)) none))) = S3 at g3 l3 ⊢
  simp [sz, l2, l3]
  have g4 : LyA 5 (S2 ++ S3) := g2.app g3
  have l4 : (S2 ++ S3).length = 16 := by simp [l2, l3]
  generalize S2 ++ S3 = S4 at g4 l4 ⊢
  have P : ∀ c ∈ (Str.ofString "abcdefg").cps.toList, c < 1114112 := by decide +kernel
  have l7 : (Str.ofString "abcdefg").cps.toList.length = 7 := by decide +kernel
  have le1 : ∀ c : Nat, (({ cps := #[c] } : Str)).length = 1 := fun _ => rfl
  simp [b__law_bent_8, srcOf]
  rw [show List.map (D.dat ∘ fun c => PyData.str { cps := #[c] }) (Str.ofString "abcdefg").cps.toList = (sgnS "abcdefg").map D.dat from by rw [sgnS, List.map_map]]
  refine loopC_pure (fun x => .tuple [.str (Str.ofString "p" ++ (match x with | .str z => z | _ => "")), .str "stretch"]) (sgnS "abcdefg") [] _ _ ?_ (by rw [List.length_nil, sgnS, List.length_map, l7]; decide) ?_
  · intro x hx K hK
    obtain ⟨c, hc, rfl⟩ := List.mem_map.mp hx
    simp [sz, le1]
    exact ⟨sz (by decide +kernel), hK⟩
  have g5 : LyA 5 ((sgnS "abcdefg").map fun x => PyData.tuple [.str (Str.ofString "p" ++ (match x with | .str z => z | _ => "")), .str "stretch"]) := fun y hy => by
    obtain ⟨x, hx, rfl⟩ := List.mem_map.mp hy
    obtain ⟨c, hc, rfl⟩ := List.mem_map.mp hx
    refine (LyA.t (n := 1) (.cons (ly_str (gc_app (fun d hd => ?_) (gc_one (P c hc))) ?_) (.one (lit_ly (by decide +kernel))))).mono (by decide)
    · have : ∀ d ∈ (Str.ofString "p").cps.toList, d < 1114112 := by decide +kernel
      exact this d hd
    · rw [la, le1, show (Str.ofString "p").length = 1 from by decide +kernel]; decide
  have l5 : ((sgnS "abcdefg").map fun x => PyData.tuple [.str (Str.ofString "p" ++ (match x with | .str z => z | _ => "")), .str "stretch"]).length ≤ 7 := by
    rw [List.length_map, sgnS, List.length_map, l7]
    decide
  rw [List.nil_append]
  generalize ((sgnS "abcdefg").map fun x => PyData.tuple [.str (Str.ofString "p" ++ (match x with | .str z => z | _ => "")), .str "stretch"]) = S5 at g5 l5 ⊢
  simp [b__law_bent_9, srcOf]
  refine loopC_rng (n := 4) (fun i acc d m' => Feeds m' a ∧ acc.length = i ∧ LyA 5 acc ∧ ∃ o, d = [o, some (.cel a), some (.dat (.list S4))]) ?_ ?_ _ _ _ ⟨hf3, rfl, .nil, _, rfl⟩
  · rintro acc d m4 ⟨hf4, al, ga, -⟩
    refine draw_use2 (by decide) (by decide) hf4 fun r m5 r0 r1 hf5 kp5 => ?_
    simp [sz, al]
    refine h _ m5 (by simp [al]) ?_ hf5
    intro q hq
    have G : LyA 6 (acc ++ [.tuple (cutP S5 none (some (5 + r))), .tuple W]) := (ga.mono (by decide)).app (.cons (g5.cut _ _).t (.one (we.t.mono (by decide))))
    exact (G q (by simpa using hq)).mono (by decide)
  · rintro i acc d m4 K hi ⟨hf4, al, ga, o, rfl⟩ hK
    simp
    refine draw_use2 (by decide) (by decide) hf4 fun r m5 r0 r1 hf5 kp5 => ?_
    refine at_use (P := Ly 5) g4 r0 (by rw [l4]; exact r1) fun p gp => ?_
    exact ⟨_, rfl, Nat.lt_of_lt_of_le (by omega : acc.length < 100) (sz (by decide)), hK _ _ _ ⟨hf5, by simp [al], ga.app (.one gp), _, rfl⟩⟩
end K9
set_option Elab.async false
set_option linter.all false
set_option maxRecDepth 100000
set_option maxHeartbeats 4000000
namespace K9
open PySem PySem.Spec PyProof.Rows L2 DL K01
theorem vc__law_spoilt0 : ∀ ds m R, ds.length = p__law_spoilt.length → sp__law_spoilt 1 ds m R → b__law_spoilt 0 (EN R) (start2 N__law_spoilt ds) m := vc__law_spoilt 0
theorem vc__law_spoilt1 : ∀ ds m R, ds.length = p__law_spoilt.length → sp__law_spoilt 2 ds m R → b__law_spoilt 1 (EN R) (start2 N__law_spoilt ds) m := vc__law_spoilt 1
theorem vc__law_spoilt2 : ∀ ds m R, ds.length = p__law_spoilt.length → sp__law_spoilt 3 ds m R → b__law_spoilt 2 (EN R) (start2 N__law_spoilt ds) m := vc__law_spoilt 2
theorem vc__law_spoilt3 : ∀ ds m R, ds.length = p__law_spoilt.length → sp__law_spoilt 4 ds m R → b__law_spoilt 3 (EN R) (start2 N__law_spoilt ds) m := vc__law_spoilt 3
theorem th_shp {ts : List (Str × Bool)} (nm : Nm (ts.map (·.1))) : Shp 3 (TH ts) := by
  have kg : ∀ k, good (kd k) := by unfold good; decide +kernel
  refine .inl (.inr ⟨_, rfl, ?_, fun x hx => ?_⟩)
  · have := nm.2.1; simp at this ⊢; omega
  · obtain ⟨t, ht, rfl⟩ := List.mem_map.mp hx
    refine .inr ⟨_, rfl, by simp, fun y hy => ?_⟩
    simp at hy
    rcases hy with rfl | rfl
    · exact ⟨_, rfl, nm.2.2 t.1 (List.mem_map.mpr ⟨t, ht, rfl⟩)⟩
    · exact ⟨_, rfl, kg _⟩
theorem kds_shown (k l : Bool) : (kds k l).showable = true ∧ (kds k l).shown.length ≤ sizeLine ∧ (kds k l).depth ≤ 100 ∧ (kds k l).canLay0 = true := by
  cases k <;> cases l <;> exact ⟨by decide +kernel, sz (by decide +kernel), by decide +kernel, by decide +kernel⟩
theorem sb (b : Bool) : (PyData.bool b).showable = true ∧ (PyData.bool b).shown.length ≤ sizeLine ∧ (PyData.bool b).depth ≤ 100 := by
  cases b <;> exact ⟨rfl, sz (by decide +kernel), by simp [PyData.depth]⟩
theorem vc_law : ∀ ds m R, ds.length = p_law.length → sp_law ds m R → b_law (EN R) (start2 N_law ds) m := by
  rintro ds m R hl ⟨ns, rfl, hn, h⟩
  simp [b_law]
  refine loopL_by (fun d _ => ∃ o1 o2 o3 o4 o5 o6 o7 o8, d = [some (.dat (.list (ns.map .int))), o1, o2, o3, o4, o5, o6, o7, o8]) ?_ _ ?_ _ _ ⟨_, _, _, _, _, _, _, _, rfl⟩
  · rintro d m' -
    simp [b_law_1]
    exact h m'
  · rintro x hx K hK d m1 ⟨o1, o2, o3, o4, o5, o6, o7, o8, rfl⟩
    obtain ⟨i, rfl, i0, i1⟩ := mem_ints hx
    simp [b_law_L0]
    refine ⟨ns, i, rfl, hn, i0, by omega, fun a m2 hf => ?_⟩
    simp [b_law_L0_1]
    refine ⟨a, 6, rfl, by decide, by decide, hf, fun ts m3 t1 tn hf3 => ?_⟩
    have n6 : ts.length ≤ 6 := by simpa using tn.2.1
    simp [b_law_L0_2, srcOf]
    refine ⟨a, ts, rfl, t1, tn, hf3, fun qs m4 ql qg hf4 => ?_⟩
    refine loopC_rng (n := 4) (fun i acc d m' => Feeds m' a ∧ acc.length = i ∧ (∀ q ∈ acc, Ly 20 q) ∧ ∃ o, d = [o, some (.cel a), some (.dat (TH ts))]) ?_ ?_ _ _ _ ⟨hf4, rfl, by simp, _, rfl⟩
    · rintro acc d m5 ⟨hf5, al, ga, -⟩
      simp [sz, al]
      refine ⟨sz (by omega), ?_⟩
      rw [← List.map_append]
      have gq : ∀ q ∈ qs ++ acc, Ly 20 q := fun p hp => (List.mem_append.mp hp).elim (qg p) (ga p)
      generalize qs ++ acc = L at gq
      refine loopL_by (fun d m' => Feeds m' a ∧ ∃ o4, d = [some (.dat (.list (ns.map .int))), some (I i), some (.cel a), some (.dat (TH ts)), o4, o5, o6, o7, o8]) ?_ _ ?_ _ _ ⟨hf5, _, rfl⟩
      · rintro d m6 ⟨hf6, o4, rfl⟩
        have at' : ∀ x ∈ ts.map (fun t => PyData.tuple [.str t.1, .str (kd t.2)]), ∃ t ∈ ts, x = PyData.tuple [.str t.1, .str (kd t.2)] := fun x hx => by
          obtain ⟨t, ht, rfl⟩ := List.mem_map.mp hx
          exact ⟨t, ht, rfl⟩
        simp [b_law_L0_3]
        refine draw_use2 (by omega) (by omega) hf6 fun r m7 r0 r1 hf7 kp7 => ?_
        refine at_use (P := fun x => ∃ t ∈ ts, x = PyData.tuple [.str t.1, .str (kd t.2)]) at' r0 (by simpa using r1) fun p ⟨t, ht, e⟩ => ?_
        subst e
        simp [b_law_L0_4]
        refine draw_use2 (by omega) (by omega) hf7 fun r m8 r0 r1 hf8 kp8 => ?_
        refine at_use (P := fun x => ∃ t ∈ ts, x = PyData.tuple [.str t.1, .str (kd t.2)]) at' r0 (by simpa using r1) fun p ⟨u, hu, e⟩ => ?_
        subst e
        simp [b_law_L0_5]
        by_cases c : t.1 = u.1
        · exact .inl ⟨c, hK _ _ ⟨_, _, _, _, _, _, _, _, rfl⟩⟩
        · obtain ⟨s1, s2, s3, -⟩ := kds_shown t.2 u.2
          refine .inr ⟨c, ts, t.1, u.1, t.2, u.2, rfl, n6, tn.1, ht, hu, fun m9 => ?_⟩
          refine ⟨s1, s2, s3, sz (by decide), s1, s2, s3, ?_⟩
          simp
          exact hK _ _ ⟨_, _, _, _, _, _, _, _, rfl⟩
      · rintro x hx K' hK' d m6 ⟨hf6, o4, rfl⟩
        obtain ⟨q, hq, rfl⟩ := List.mem_map.mp hx
        have lq : Ly 40 q := (gq q hq).mono (by decide)
        obtain ⟨s1, s2, s3⟩ := sb (isTh q)
        simp [b_law_L1]
        refine ⟨q, rfl, lq, ?_⟩
        simp [s1, s2, s3]
        refine ⟨q, rfl, lq, ?_⟩
        simp [s1, s2, s3]
        exact hK' _ _ ⟨hf6, _, rfl⟩
    · rintro i acc d m4 K hi ⟨hf4, al, ga, o, rfl⟩ hK
      simp
      refine ⟨a, TH ts, rfl, th_shp tn, hf4, fun q m5 gq hf5 kp5 => ?_⟩
      exact ⟨_, rfl, Nat.lt_of_lt_of_le (by omega : acc.length < 100) (sz (by decide)), hK _ _ _ ⟨hf5, by simp [al], fun p hp => (List.mem_append.mp hp).elim (ga p) (fun e => by simp at e; subst e; exact gq.mono (by decide)), _, rfl⟩⟩
end K9
namespace K9
open PySem PySem.Spec PyProof.Rows L2 DL
theorem us_n {P : List Value → Prop} (h : P []) : ∀ us : List Value, us.length = 0 → P us
  | [], _ => h
  | _ :: _, e => nomatch e
theorem us_c {P : List Value → Prop} {n : Nat} (h : ∀ a us, us.length = n → P (a :: us)) : ∀ us : List Value, us.length = n + 1 → P us
  | [], e => nomatch e
  | a :: us, e => h a us (Nat.succ.inj e)
theorem us_1 {fd : FuncData} {ps : List Str} (h : ∀ a0, bindArgs fd { pos := [a0] } = pure (ps.zip [a0])) (us : List Value) (hl : us.length = 1) : bindArgs fd { pos := us } = pure (ps.zip us) :=
  (us_c (P := fun us => bindArgs fd { pos := us } = pure (ps.zip (us))) (fun a0 => us_n (P := fun us => bindArgs fd { pos := a0 :: us } = pure (ps.zip (a0 :: us))) (h a0))) us hl
theorem us_2 {fd : FuncData} {ps : List Str} (h : ∀ a0 a1, bindArgs fd { pos := [a0, a1] } = pure (ps.zip [a0, a1])) (us : List Value) (hl : us.length = 2) : bindArgs fd { pos := us } = pure (ps.zip us) :=
  (us_c (P := fun us => bindArgs fd { pos := us } = pure (ps.zip (us))) (fun a0 => us_c (P := fun us => bindArgs fd { pos := a0 :: us } = pure (ps.zip (a0 :: us))) (fun a1 => us_n (P := fun us => bindArgs fd { pos := a0 :: a1 :: us } = pure (ps.zip (a0 :: a1 :: us))) (h a0 a1)))) us hl
theorem us_3 {fd : FuncData} {ps : List Str} (h : ∀ a0 a1 a2, bindArgs fd { pos := [a0, a1, a2] } = pure (ps.zip [a0, a1, a2])) (us : List Value) (hl : us.length = 3) : bindArgs fd { pos := us } = pure (ps.zip us) :=
  (us_c (P := fun us => bindArgs fd { pos := us } = pure (ps.zip (us))) (fun a0 => us_c (P := fun us => bindArgs fd { pos := a0 :: us } = pure (ps.zip (a0 :: us))) (fun a1 => us_c (P := fun us => bindArgs fd { pos := a0 :: a1 :: us } = pure (ps.zip (a0 :: a1 :: us))) (fun a2 => us_n (P := fun us => bindArgs fd { pos := a0 :: a1 :: a2 :: us } = pure (ps.zip (a0 :: a1 :: a2 :: us))) (h a0 a1 a2))))) us hl
theorem all_mk {l : PySem.W.OpenLaw} {w : World} {K : PySem.W.Frag} {h : Heap} {mg : Str → Option Value} {fa : Addr} (X : K.In h) (G : h.Ns mainGlobals mg) (hfa : mg "law" = some (.ref fa))
    {f_is_name : Addr} {od_0 an_0 : Option Addr} {sl_0 : Array (Option Value)} {oc_0 kV_0 dc_0 pm_0 cd_0 ct_0 : Value} (a0 : PySem.W.nsIn K mainGlobals "is_name" = some (some (.ref f_is_name))) (l0 : K.lookup f_is_name = some ⟨oc_0, od_0, .func (PySem.W.fnOf "is_name" "is_name" (defArgs s_is_name) (defBody s_is_name) (defScope s_is_name) .none kV_0 dc_0 pm_0 an_0 cd_0 ct_0), sl_0⟩) (c0 : PySem.W.codeIn K cd_0 "is_name" = true) (k0 : PySem.W.keepIn K (.ref f_is_name) = true)
    {f_is_named_kind : Addr} {od_1 an_1 : Option Addr} {sl_1 : Array (Option Value)} {oc_1 kV_1 dc_1 pm_1 cd_1 ct_1 : Value} (a1 : PySem.W.nsIn K mainGlobals "is_named_kind" = some (some (.ref f_is_named_kind))) (l1 : K.lookup f_is_named_kind = some ⟨oc_1, od_1, .func (PySem.W.fnOf "is_named_kind" "is_named_kind" (defArgs s_is_named_kind) (defBody s_is_named_kind) (defScope s_is_named_kind) .none kV_1 dc_1 pm_1 an_1 cd_1 ct_1), sl_1⟩) (c1 : PySem.W.codeIn K cd_1 "is_named_kind" = true) (k1 : PySem.W.keepIn K (.ref f_is_named_kind) = true)
    {f_is_things : Addr} {od_2 an_2 : Option Addr} {sl_2 : Array (Option Value)} {oc_2 kV_2 dc_2 pm_2 cd_2 ct_2 : Value} (a2 : PySem.W.nsIn K mainGlobals "is_things" = some (some (.ref f_is_things))) (l2 : K.lookup f_is_things = some ⟨oc_2, od_2, .func (PySem.W.fnOf "is_things" "is_things" (defArgs s_is_things) (defBody s_is_things) (defScope s_is_things) .none kV_2 dc_2 pm_2 an_2 cd_2 ct_2), sl_2⟩) (c2 : PySem.W.codeIn K cd_2 "is_things" = true) (k2 : PySem.W.keepIn K (.ref f_is_things) = true)
    {f_names_of : Addr} {od_3 an_3 : Option Addr} {sl_3 : Array (Option Value)} {oc_3 kV_3 dc_3 pm_3 cd_3 ct_3 : Value} (a3 : PySem.W.nsIn K mainGlobals "names_of" = some (some (.ref f_names_of))) (l3 : K.lookup f_names_of = some ⟨oc_3, od_3, .func (PySem.W.fnOf "names_of" "names_of" (defArgs s_names_of) (defBody s_names_of) (defScope s_names_of) .none kV_3 dc_3 pm_3 an_3 cd_3 ct_3), sl_3⟩) (c3 : PySem.W.codeIn K cd_3 "names_of" = true) (k3 : PySem.W.keepIn K (.ref f_names_of) = true)
    {f_kinds_of : Addr} {od_4 an_4 : Option Addr} {sl_4 : Array (Option Value)} {oc_4 kV_4 dc_4 pm_4 cd_4 ct_4 : Value} (a4 : PySem.W.nsIn K mainGlobals "kinds_of" = some (some (.ref f_kinds_of))) (l4 : K.lookup f_kinds_of = some ⟨oc_4, od_4, .func (PySem.W.fnOf "kinds_of" "kinds_of" (defArgs s_kinds_of) (defBody s_kinds_of) (defScope s_kinds_of) .none kV_4 dc_4 pm_4 an_4 cd_4 ct_4), sl_4⟩) (c4 : PySem.W.codeIn K cd_4 "kinds_of" = true) (k4 : PySem.W.keepIn K (.ref f_kinds_of) = true)
    {f__law_feed : Addr} {od_5 an_5 : Option Addr} {sl_5 : Array (Option Value)} {oc_5 kV_5 dc_5 pm_5 cd_5 ct_5 : Value} (a5 : PySem.W.nsIn K mainGlobals "_law_feed" = some (some (.ref f__law_feed))) (l5 : K.lookup f__law_feed = some ⟨oc_5, od_5, .func (PySem.W.fnOf "_law_feed" "_law_feed" (defArgs s__law_feed) (defBody s__law_feed) (defScope s__law_feed) .none kV_5 dc_5 pm_5 an_5 cd_5 ct_5), sl_5⟩) (c5 : PySem.W.codeIn K cd_5 "_law_feed" = true) (k5 : PySem.W.keepIn K (.ref f__law_feed) = true)
    {f__law_draw : Addr} {od_6 an_6 : Option Addr} {sl_6 : Array (Option Value)} {oc_6 kV_6 dc_6 pm_6 cd_6 ct_6 : Value} (a6 : PySem.W.nsIn K mainGlobals "_law_draw" = some (some (.ref f__law_draw))) (l6 : K.lookup f__law_draw = some ⟨oc_6, od_6, .func (PySem.W.fnOf "_law_draw" "_law_draw" (defArgs s__law_draw) (defBody s__law_draw) (defScope s__law_draw) .none kV_6 dc_6 pm_6 an_6 cd_6 ct_6), sl_6⟩) (c6 : PySem.W.codeIn K cd_6 "_law_draw" = true) (k6 : PySem.W.keepIn K (.ref f__law_draw) = true)
    {f__law_names : Addr} {od_7 an_7 : Option Addr} {sl_7 : Array (Option Value)} {oc_7 kV_7 dc_7 pm_7 cd_7 ct_7 : Value} (a7 : PySem.W.nsIn K mainGlobals "_law_names" = some (some (.ref f__law_names))) (l7 : K.lookup f__law_names = some ⟨oc_7, od_7, .func (PySem.W.fnOf "_law_names" "_law_names" (defArgs s__law_names) (defBody s__law_names) (defScope s__law_names) .none kV_7 dc_7 pm_7 an_7 cd_7 ct_7), sl_7⟩) (c7 : PySem.W.codeIn K cd_7 "_law_names" = true) (k7 : PySem.W.keepIn K (.ref f__law_names) = true)
    {f__law_kinds : Addr} {od_8 an_8 : Option Addr} {sl_8 : Array (Option Value)} {oc_8 kV_8 dc_8 pm_8 cd_8 ct_8 : Value} (a8 : PySem.W.nsIn K mainGlobals "_law_kinds" = some (some (.ref f__law_kinds))) (l8 : K.lookup f__law_kinds = some ⟨oc_8, od_8, .func (PySem.W.fnOf "_law_kinds" "_law_kinds" (defArgs s__law_kinds) (defBody s__law_kinds) (defScope s__law_kinds) .none kV_8 dc_8 pm_8 an_8 cd_8 ct_8), sl_8⟩) (c8 : PySem.W.codeIn K cd_8 "_law_kinds" = true) (k8 : PySem.W.keepIn K (.ref f__law_kinds) = true)
    {f__law_things : Addr} {od_9 an_9 : Option Addr} {sl_9 : Array (Option Value)} {oc_9 kV_9 dc_9 pm_9 cd_9 ct_9 : Value} (a9 : PySem.W.nsIn K mainGlobals "_law_things" = some (some (.ref f__law_things))) (l9 : K.lookup f__law_things = some ⟨oc_9, od_9, .func (PySem.W.fnOf "_law_things" "_law_things" (defArgs s__law_things) (defBody s__law_things) (defScope s__law_things) .none kV_9 dc_9 pm_9 an_9 cd_9 ct_9), sl_9⟩) (c9 : PySem.W.codeIn K cd_9 "_law_things" = true) (k9 : PySem.W.keepIn K (.ref f__law_things) = true)
    {f__law_is_name : Addr} {od_10 an_10 : Option Addr} {sl_10 : Array (Option Value)} {oc_10 kV_10 dc_10 pm_10 cd_10 ct_10 : Value} (a10 : PySem.W.nsIn K mainGlobals "_law_is_name" = some (some (.ref f__law_is_name))) (l10 : K.lookup f__law_is_name = some ⟨oc_10, od_10, .func (PySem.W.fnOf "_law_is_name" "_law_is_name" (defArgs s__law_is_name) (defBody s__law_is_name) (defScope s__law_is_name) .none kV_10 dc_10 pm_10 an_10 cd_10 ct_10), sl_10⟩) (c10 : PySem.W.codeIn K cd_10 "_law_is_name" = true) (k10 : PySem.W.keepIn K (.ref f__law_is_name) = true)
    {f__law_is_things : Addr} {od_11 an_11 : Option Addr} {sl_11 : Array (Option Value)} {oc_11 kV_11 dc_11 pm_11 cd_11 ct_11 : Value} (a11 : PySem.W.nsIn K mainGlobals "_law_is_things" = some (some (.ref f__law_is_things))) (l11 : K.lookup f__law_is_things = some ⟨oc_11, od_11, .func (PySem.W.fnOf "_law_is_things" "_law_is_things" (defArgs s__law_is_things) (defBody s__law_is_things) (defScope s__law_is_things) .none kV_11 dc_11 pm_11 an_11 cd_11 ct_11), sl_11⟩) (c11 : PySem.W.codeIn K cd_11 "_law_is_things" = true) (k11 : PySem.W.keepIn K (.ref f__law_is_things) = true)
    {f__law_bent : Addr} {od_12 an_12 : Option Addr} {sl_12 : Array (Option Value)} {oc_12 kV_12 dc_12 pm_12 cd_12 ct_12 : Value} (a12 : PySem.W.nsIn K mainGlobals "_law_bent" = some (some (.ref f__law_bent))) (l12 : K.lookup f__law_bent = some ⟨oc_12, od_12, .func (PySem.W.fnOf "_law_bent" "_law_bent" (defArgs s__law_bent) (defBody s__law_bent) (defScope s__law_bent) .none kV_12 dc_12 pm_12 an_12 cd_12 ct_12), sl_12⟩) (c12 : PySem.W.codeIn K cd_12 "_law_bent" = true) (k12 : PySem.W.keepIn K (.ref f__law_bent) = true)
    {f__law_spoilt : Addr} {od_13 an_13 : Option Addr} {sl_13 : Array (Option Value)} {oc_13 kV_13 dc_13 pm_13 cd_13 ct_13 : Value} (a13 : PySem.W.nsIn K mainGlobals "_law_spoilt" = some (some (.ref f__law_spoilt))) (l13 : K.lookup f__law_spoilt = some ⟨oc_13, od_13, .func (PySem.W.fnOf "_law_spoilt" "_law_spoilt" (defArgs s__law_spoilt) (defBody s__law_spoilt) (defScope s__law_spoilt) .none kV_13 dc_13 pm_13 an_13 cd_13 ct_13), sl_13⟩) (c13 : PySem.W.codeIn K cd_13 "_law_spoilt" = true) (k13 : PySem.W.keepIn K (.ref f__law_spoilt) = true)
    {f_law : Addr} {od_14 an_14 : Option Addr} {sl_14 : Array (Option Value)} {oc_14 kV_14 dc_14 pm_14 cd_14 ct_14 : Value} (a14 : PySem.W.nsIn K mainGlobals "law" = some (some (.ref f_law))) (l14 : K.lookup f_law = some ⟨oc_14, od_14, .func (PySem.W.fnOf "law" "law" (defArgs s_law) (defBody s_law) (defScope s_law) .none kV_14 dc_14 pm_14 an_14 cd_14 ct_14), sl_14⟩) (c14 : PySem.W.codeIn K cd_14 "law" = true) (k14 : PySem.W.keepIn K (.ref f_law) = true)
    {t_LONGEST_NAME : Tok} (a_LONGEST_NAME : PySem.W.nsIn K mainGlobals "LONGEST_NAME" = some (some (.int (8) t_LONGEST_NAME)))
    {t_LETTERS : Tok} (a_LETTERS : PySem.W.nsIn K mainGlobals "LETTERS" = some (some (.str "abcdefghijklmnopqrstuvwxyz" t_LETTERS)))
    {t_MOST_THINGS : Tok} (a_MOST_THINGS : PySem.W.nsIn K mainGlobals "MOST_THINGS" = some (some (.int (6) t_MOST_THINGS)))
    (z_isinstance : PySem.W.nsIn K mainGlobals "isinstance" = some none)
    (z_str : PySem.W.nsIn K mainGlobals "str" = some none)
    (z_len : PySem.W.nsIn K mainGlobals "len" = some none)
    (z_all : PySem.W.nsIn K mainGlobals "all" = some none)
    (z_tuple : PySem.W.nsIn K mainGlobals "tuple" = some none)
    (z_sorted : PySem.W.nsIn K mainGlobals "sorted" = some none)
    (z_set : PySem.W.nsIn K mainGlobals "set" = some none)
    (z_dict : PySem.W.nsIn K mainGlobals "dict" = some none)
    (z_max : PySem.W.nsIn K mainGlobals "max" = some none)
    (z_range : PySem.W.nsIn K mainGlobals "range" = some none)
    (z_list : PySem.W.nsIn K mainGlobals "list" = some none)
    (z_bool : PySem.W.nsIn K mainGlobals "bool" = some none)
    (z_int : PySem.W.nsIn K mainGlobals "int" = some none)
    (z_repr : PySem.W.nsIn K mainGlobals "repr" = some none)
    : ∃ fd : FuncData, (∀ (s : Shared) (v : Value), BindsTo s fd ⟨[v], []⟩ [("_law_script", v)]) ∧ ∀ base : Heap, K.In base → base.Ns mainGlobals mg → FnOk l.prog w K mg base CX0 7 fa fd ["_law_script"] (LSp K 1 sp_law) := by
  have e := hfa.symm.trans (PySem.W.mg_of X G a14)
  cases e
  have F_is_name := fun_mk (st := s_is_name) l0 c0 k0
  have B_is_name := (F_is_name).binds (ps := p_is_name) fun _ _ _ _ _ _ us hl => us_1 (by intros; rfl) us hl
  have M_is_name := PySem.W.mg_of X G a0
  have F_is_named_kind := fun_mk (st := s_is_named_kind) l1 c1 k1
  have B_is_named_kind := (F_is_named_kind).binds (ps := p_is_named_kind) fun _ _ _ _ _ _ us hl => us_1 (by intros; rfl) us hl
  have M_is_named_kind := PySem.W.mg_of X G a1
  have F_is_things := fun_mk (st := s_is_things) l2 c2 k2
  have B_is_things := (F_is_things).binds (ps := p_is_things) fun _ _ _ _ _ _ us hl => us_1 (by intros; rfl) us hl
  have M_is_things := PySem.W.mg_of X G a2
  have F_names_of := fun_mk (st := s_names_of) l3 c3 k3
  have B_names_of := (F_names_of).binds (ps := p_names_of) fun _ _ _ _ _ _ us hl => us_1 (by intros; rfl) us hl
  have M_names_of := PySem.W.mg_of X G a3
  have F_kinds_of := fun_mk (st := s_kinds_of) l4 c4 k4
  have B_kinds_of := (F_kinds_of).binds (ps := p_kinds_of) fun _ _ _ _ _ _ us hl => us_3 (by intros; rfl) us hl
  have M_kinds_of := PySem.W.mg_of X G a4
  have F__law_feed := fun_mk (st := s__law_feed) l5 c5 k5
  have B__law_feed := (F__law_feed).binds (ps := p__law_feed) fun _ _ _ _ _ _ us hl => us_2 (by intros; rfl) us hl
  have M__law_feed := PySem.W.mg_of X G a5
  have F__law_draw := fun_mk (st := s__law_draw) l6 c6 k6
  have B__law_draw := (F__law_draw).binds (ps := p__law_draw) fun _ _ _ _ _ _ us hl => us_2 (by intros; rfl) us hl
  have M__law_draw := PySem.W.mg_of X G a6
  have F__law_names := fun_mk (st := s__law_names) l7 c7 k7
  have B__law_names := (F__law_names).binds (ps := p__law_names) fun _ _ _ _ _ _ us hl => us_2 (by intros; rfl) us hl
  have M__law_names := PySem.W.mg_of X G a7
  have F__law_kinds := fun_mk (st := s__law_kinds) l8 c8 k8
  have B__law_kinds := (F__law_kinds).binds (ps := p__law_kinds) fun _ _ _ _ _ _ us hl => us_2 (by intros; rfl) us hl
  have M__law_kinds := PySem.W.mg_of X G a8
  have F__law_things := fun_mk (st := s__law_things) l9 c9 k9
  have B__law_things := (F__law_things).binds (ps := p__law_things) fun _ _ _ _ _ _ us hl => us_2 (by intros; rfl) us hl
  have M__law_things := PySem.W.mg_of X G a9
  have F__law_is_name := fun_mk (st := s__law_is_name) l10 c10 k10
  have B__law_is_name := (F__law_is_name).binds (ps := p__law_is_name) fun _ _ _ _ _ _ us hl => us_1 (by intros; rfl) us hl
  have M__law_is_name := PySem.W.mg_of X G a10
  have F__law_is_things := fun_mk (st := s__law_is_things) l11 c11 k11
  have B__law_is_things := (F__law_is_things).binds (ps := p__law_is_things) fun _ _ _ _ _ _ us hl => us_1 (by intros; rfl) us hl
  have M__law_is_things := PySem.W.mg_of X G a11
  have F__law_bent := fun_mk (st := s__law_bent) l12 c12 k12
  have B__law_bent := (F__law_bent).binds (ps := p__law_bent) fun _ _ _ _ _ _ us hl => us_2 (by intros; rfl) us hl
  have M__law_bent := PySem.W.mg_of X G a12
  have F__law_spoilt := fun_mk (st := s__law_spoilt) l13 c13 k13
  have B__law_spoilt := (F__law_spoilt).binds (ps := p__law_spoilt) fun _ _ _ _ _ _ us hl => us_2 (by intros; rfl) us hl
  have M__law_spoilt := PySem.W.mg_of X G a13
  have F_law := fun_mk (st := s_law) l14 c14 k14
  have M_LONGEST_NAME := PySem.W.mg_of X G a_LONGEST_NAME
  have M_LETTERS := PySem.W.mg_of X G a_LETTERS
  have M_MOST_THINGS := PySem.W.mg_of X G a_MOST_THINGS
  have m_isinstance := PySem.W.mg_none_of X G z_isinstance
  have m_str := PySem.W.mg_none_of X G z_str
  have m_len := PySem.W.mg_none_of X G z_len
  have m_all := PySem.W.mg_none_of X G z_all
  have m_tuple := PySem.W.mg_none_of X G z_tuple
  have m_sorted := PySem.W.mg_none_of X G z_sorted
  have m_set := PySem.W.mg_none_of X G z_set
  have m_dict := PySem.W.mg_none_of X G z_dict
  have m_max := PySem.W.mg_none_of X G z_max
  have m_range := PySem.W.mg_none_of X G z_range
  have m_list := PySem.W.mg_none_of X G z_list
  have m_bool := PySem.W.mg_none_of X G z_bool
  have m_int := PySem.W.mg_none_of X G z_int
  have m_repr := PySem.W.mg_none_of X G z_repr
  refine ⟨PySem.W.fnOf "law" "law" (defArgs s_law) (defBody s_law) (defScope s_law) .none kV_14 dc_14 pm_14 an_14 cd_14 ct_14, fun s v => .of_eq rfl, fun base _ _ => ?_⟩
  have C__law_feed := ok__law_feed (P := l.prog) (w := w) (mg := mg) (base := base) F__law_feed m_len m_max vc__law_feed
  have C__law_draw := ok__law_draw (P := l.prog) (w := w) (mg := mg) (base := base) F__law_draw vc__law_draw
  have C__law_names := ok__law_names (P := l.prog) (w := w) (mg := mg) (base := base) F__law_names F__law_draw B__law_draw M__law_draw C__law_draw m_range m_len m_sorted vc__law_names
  have C__law_kinds := ok__law_kinds (P := l.prog) (w := w) (mg := mg) (base := base) F__law_kinds F__law_draw B__law_draw M__law_draw C__law_draw m_range m_tuple vc__law_kinds
  have C__law_things := ok__law_things (P := l.prog) (w := w) (mg := mg) (base := base) F__law_things F__law_names B__law_names M__law_names C__law_names F__law_draw B__law_draw M__law_draw C__law_draw F__law_kinds B__law_kinds M__law_kinds C__law_kinds m_len m_tuple m_range vc__law_things
  have C_is_name := ok_is_name (P := l.prog) (w := w) (mg := mg) (base := base) F_is_name M_LONGEST_NAME M_LETTERS m_isinstance m_str m_len m_all vc_is_name
  have C_is_named_kind := ok_is_named_kind (P := l.prog) (w := w) (mg := mg) (base := base) F_is_named_kind F_is_name B_is_name M_is_name C_is_name m_isinstance m_tuple m_len vc_is_named_kind
  have C_names_of := ok_names_of (P := l.prog) (w := w) (mg := mg) (base := base) F_names_of vc_names_of
  have C_is_things := ok_is_things (P := l.prog) (w := w) (mg := mg) (base := base) F_is_things F_is_named_kind B_is_named_kind M_is_named_kind C_is_named_kind F_names_of B_names_of M_names_of C_names_of M_MOST_THINGS m_isinstance m_tuple m_len m_all m_sorted m_set vc_is_things
  have C__law_is_name := ok__law_is_name (P := l.prog) (w := w) (mg := mg) (base := base) F__law_is_name m_isinstance m_str m_len vc__law_is_name
  have C__law_is_things := ok__law_is_things (P := l.prog) (w := w) (mg := mg) (base := base) F__law_is_things F__law_is_name B__law_is_name M__law_is_name C__law_is_name m_isinstance m_tuple m_len m_str vc__law_is_things
  have C__law_bent := ok__law_bent (P := l.prog) (w := w) (mg := mg) (base := base) F__law_bent F__law_draw B__law_draw M__law_draw C__law_draw m_len m_list m_range m_tuple vc__law_bent
  have C__law_spoilt0 : FnOk l.prog w K mg base CX0 (0 + 2) f__law_spoilt (PySem.W.fnOf "_law_spoilt" "_law_spoilt" (defArgs s__law_spoilt) (defBody s__law_spoilt) (defScope s__law_spoilt) .none kV_13 dc_13 pm_13 an_13 cd_13 ct_13) p__law_spoilt (LSp K 2 (sp__law_spoilt 0)) := fn_none fun _ _ _ h => h
  have C__law_spoilt1 := ok__law_spoilt (j := 0) (P := l.prog) (w := w) (mg := mg) (base := base) F__law_spoilt F__law_draw B__law_draw M__law_draw C__law_draw B__law_spoilt M__law_spoilt C__law_spoilt0 m_isinstance m_tuple m_str m_len m_list m_bool m_int vc__law_spoilt0
  have C__law_spoilt2 := ok__law_spoilt (j := 1) (P := l.prog) (w := w) (mg := mg) (base := base) F__law_spoilt F__law_draw B__law_draw M__law_draw C__law_draw B__law_spoilt M__law_spoilt C__law_spoilt1 m_isinstance m_tuple m_str m_len m_list m_bool m_int vc__law_spoilt1
  have C__law_spoilt3 := ok__law_spoilt (j := 2) (P := l.prog) (w := w) (mg := mg) (base := base) F__law_spoilt F__law_draw B__law_draw M__law_draw C__law_draw B__law_spoilt M__law_spoilt C__law_spoilt2 m_isinstance m_tuple m_str m_len m_list m_bool m_int vc__law_spoilt2
  have C__law_spoilt := ok__law_spoilt (j := 3) (P := l.prog) (w := w) (mg := mg) (base := base) F__law_spoilt F__law_draw B__law_draw M__law_draw C__law_draw B__law_spoilt M__law_spoilt C__law_spoilt3 m_isinstance m_tuple m_str m_len m_list m_bool m_int vc__law_spoilt3
  have C_kinds_of := ok_kinds_of (P := l.prog) (w := w) (mg := mg) (base := base) F_kinds_of m_dict vc_kinds_of
  exact ok_law F_law F__law_feed B__law_feed M__law_feed C__law_feed F__law_things B__law_things M__law_things C__law_things F_is_things B_is_things M_is_things C_is_things F__law_is_things B__law_is_things M__law_is_things C__law_is_things F__law_bent B__law_bent M__law_bent C__law_bent F__law_spoilt B__law_spoilt M__law_spoilt C__law_spoilt F__law_draw B__law_draw M__law_draw C__law_draw F_kinds_of B_kinds_of M_kinds_of C_kinds_of m_repr m_range m_len vc_law
theorem walk {l : PySem.W.OpenLaw} {q : Program} {loose : List Str} {XP : (Str → Option Value) → Heap → Prop} {YP : World → Heap → Prop} {d : DefRec} {K : Params → PySem.W.Frag} (hn : l.most = some 63) (hdf : d.params.defaults = [])
    (hY : ∀ (w : World) (h : Heap), YP w h → (K w.params).In h)
    (F : ∀ (w : World) (mg : Str → Option Value) (fa : Addr) (h : Heap), (K w.params).In h → h.Ns mainGlobals mg → mg d.name = some (.ref fa) →
      ∃ fd : FuncData, (∀ (s : Shared) (u : Value), BindsTo s fd ⟨[u], []⟩ [("_law_script", u)]) ∧ ∀ base : Heap, (K w.params).In base → base.Ns mainGlobals mg → FnOk l.prog w (K w.params) mg base CX0 7 fa fd ["_law_script"] (LSp (K w.params) 1 sp_law)) :
    PySem.W.WalkO q loose XP YP l.row.toRowW d [] (fun f vs => PySem.call f vs) :=
  L2.walk_of (n := 63) (k := 7) (x := "_law_script") (CX := fun _ => CX0) (sp := fun w => LSp (K w.params) 1 sp_law) hn (by decide) hdf ⟨rfl, rfl, by decide, by decide⟩ hY F (fun _ _ a ns hl _ hS => lsp_law hS ⟨ns, rfl, hl, fun _ => rfl⟩) fun _ _ _ _ _ z => z
end K9
open PySem PySem.W PyProof.Rows
set_option maxRecDepth 100000 in
set_option maxHeartbeats 0 in
theorem PySem.Challenge.cw_whens_k09_things_by_kind_holds : PySem.Challenge.rw_whens_k09_things_by_kind.Holds := by
  w_on; o_law; k_head; (case hw => w_witness2)
  k_fill
  refine K9.walk (l := PySem.Challenge.rw_whens_k09_things_by_kind) rfl rfl (fun w h Y => PySem.W.kIn_of Y) ?F
  case F =>
    intro w mg fa h KX G hmg
    refine' K9.all_mk KX G hmg ?a0 ?l0 ?c0 ?k0 ?a1 ?l1 ?c1 ?k1 ?a2 ?l2 ?c2 ?k2 ?a3 ?l3 ?c3 ?k3 ?a4 ?l4 ?c4 ?k4 ?a5 ?l5 ?c5 ?k5 ?a6 ?l6 ?c6 ?k6 ?a7 ?l7 ?c7 ?k7 ?a8 ?l8 ?c8 ?k8 ?a9 ?l9 ?c9 ?k9 ?a10 ?l10 ?c10 ?k10 ?a11 ?l11 ?c11 ?k11 ?a12 ?l12 ?c12 ?k12 ?a13 ?l13 ?c13 ?k13 ?a14 ?l14 ?c14 ?k14 ?a_LONGEST_NAME ?a_LETTERS ?a_MOST_THINGS ?z_isinstance ?z_str ?z_len ?z_all ?z_tuple ?z_sorted ?z_set ?z_dict ?z_max ?z_range ?z_list ?z_bool ?z_int ?z_repr
    (case a0 => k_is)
    (case l0 => k_is)
    (case c0 => k_is)
    (case k0 => k_is)
    (case a1 => k_is)
    (case l1 => k_is)
    (case c1 => k_is)
    (case k1 => k_is)
    (case a2 => k_is)
    (case l2 => k_is)
    (case c2 => k_is)
    (case k2 => k_is)
    (case a3 => k_is)
    (case l3 => k_is)
    (case c3 => k_is)
    (case k3 => k_is)
    (case a4 => k_is)
    (case l4 => k_is)
    (case c4 => k_is)
    (case k4 => k_is)
    (case a5 => k_is)
    (case l5 => k_is)
    (case c5 => k_is)
    (case k5 => k_is)
    (case a6 => k_is)
    (case l6 => k_is)
    (case c6 => k_is)
    (case k6 => k_is)
    (case a7 => k_is)
    (case l7 => k_is)
    (case c7 => k_is)
    (case k7 => k_is)
    (case a8 => k_is)
    (case l8 => k_is)
    (case c8 => k_is)
    (case k8 => k_is)
    (case a9 => k_is)
    (case l9 => k_is)
    (case c9 => k_is)
    (case k9 => k_is)
    (case a10 => k_is)
    (case l10 => k_is)
    (case c10 => k_is)
    (case k10 => k_is)
    (case a11 => k_is)
    (case l11 => k_is)
    (case c11 => k_is)
    (case k11 => k_is)
    (case a12 => k_is)
    (case l12 => k_is)
    (case c12 => k_is)
    (case k12 => k_is)
    (case a13 => k_is)
    (case l13 => k_is)
    (case c13 => k_is)
    (case k13 => k_is)
    (case a14 => k_is)
    (case l14 => k_is)
    (case c14 => k_is)
    (case k14 => k_is)
    (case a_LONGEST_NAME => k_is)
    (case a_LETTERS => k_is)
    (case a_MOST_THINGS => k_is)
    (case z_isinstance => k_is)
    (case z_str => k_is)
    (case z_len => k_is)
    (case z_all => k_is)
    (case z_tuple => k_is)
    (case z_sorted => k_is)
    (case z_set => k_is)
    (case z_dict => k_is)
    (case z_max => k_is)
    (case z_range => k_is)
    (case z_list => k_is)
    (case z_bool => k_is)
    (case z_int => k_is)
    (case z_repr => k_is)
#print axioms PySem.Challenge.cw_whens_k09_things_by_kind_holds
