import PyProof.Rows.All
import Wide.All
import OpenK.AllK
import Wide.FinOn
import Lean
import PyProof.EqAt
import PyProof.EqKinds
import PyProof.TupleCall
import PyProof.ListMulRoad
import KE.KRevIter
import PyProof.ZipIter
import PyProof.TupleIter
import PyProof.Rows.SortWalk
import PyProof.Rows.SortStr
import PyProof.Rows.StrWeight2
import PyProof.ConsumeWalk
import PyProof.SliceStr2
import PyProof.ListRange
import PyProof.TupleOfSeq
import PyProof.P3In
import PyProof.AttrMissHeap
import KE.KDictOf
import PyProof.StrBlockI
import PyProof.WalksEnum
import PyProof.EnumMake
import PyProof.DictWalks
import PyProof.SetRoads
import PyProof.SetNew
import PyProof.Rows.SetFrom
import PyProof.CollectWalk
import PyProof.StrWalks
import PyProof.FString5
import Open.Tops
import PyProof.DictDisplay
import PyProof.Rows.TupDisplay
import PySem.Challenge.RW_whens_k08_whole_three_things
set_option Elab.async false
set_option linter.all false
set_option maxRecDepth 100000
set_option maxHeartbeats 4000000
namespace L2
open PySem PySem.Spec PyProof.Rows
noncomputable instance decPy : DecidableEq PyData := fun _ _ => Classical.propDecidable _
mutual
def isK : PyData → Bool
 | .int _ => true
 | .str x => PyData.strOk x
 | .tuple xs => isKs xs
 | .none | .bool _ | .list _ | .dict _ => false
def isKs : List PyData → Bool
 | [] => true
 | x :: xs => isK x && isKs xs
end
mutual
def Aa (w : World) : PyData → Int
 | .int i => hashInt i
 | .str x => hashStr w x
 | .tuple xs => reduceHash (Builtin.Tuple.tupleHashOf (hashKs w xs))
 | .none | .bool _ | .list _ | .dict _ => 0
def hashKs (w : World) : List PyData → List Int
 | [] => []
 | x :: xs => Aa w x :: hashKs w xs
end
mutual
def zU : PyData → Nat
 | .int _ | .str _ => 1
 | .tuple xs => drawsKs xs + 1
 | .none | .bool _ | .list _ | .dict _ => 0
def drawsKs : List PyData → Nat
 | [] => 0
 | x :: xs => zU x + drawsKs xs
end
mutual
theorem uP : ∀ p : PyData, isK p = true → p.canLay0 = true
 | .int _, _ => rfl
 | .str _, h => h
 | .tuple xs, h => isKs_lay xs h
 | .none, h | .bool _, h | .list _, h | .dict _, h => by simp [isK] at h
theorem isKs_lay : ∀ ps : List PyData, isKs ps = true → PyData.canLayAll0 ps = true
 | [], _ => rfl
 | x :: xs, h => by
  simp only [isKs, Bool.and_eq_true] at h; simp only [PyData.canLayAll0, uP x h.1, isKs_lay xs h.2, Bool.and_self]
end
mutual
theorem Iv : ∀ p q : PyData, isK p = true → isK q = true → p.eqv q = decide (p = q)
 | .int i, .int j, _, _ => by
  simp only [PyData.eqv, PyData.int.injEq]; exact Bool.eq_iff_iff.mpr (by simp)
 | .str x, .str y, _, _ => by
  simp only [PyData.eqv, PyData.str.injEq]; exact Bool.eq_iff_iff.mpr (by simp)
 | .tuple xs, .tuple ys, h, h' => by
  have e := isKs_eqv xs ys h h'
  simp only [PyData.eqv, PyData.tuple.injEq]; exact e
 | .int i, .str y, _, _ | .str y, .int i, _, _ | .int i, .tuple y, _, _ | .tuple y, .int i, _, _ | .str i, .tuple y, _, _ | .tuple y, .str i, _, _ => by
  simp only [PyData.eqv]; exact (decide_eq_false (fun e => nomatch e)).symm
 | .none, _, h, _ | .bool _, _, h, _ | .list _, _, h, _ | .dict _, _, h, _ => by simp [isK] at h
 | .int _, .none, _, h | .int _, .bool _, _, h | .int _, .list _, _, h | .int _, .dict _, _, h => by simp [isK] at h
 | .str _, .none, _, h | .str _, .bool _, _, h | .str _, .list _, _, h | .str _, .dict _, _, h => by simp [isK] at h
 | .tuple _, .none, _, h | .tuple _, .bool _, _, h | .tuple _, .list _, _, h | .tuple _, .dict _, _, h => by simp [isK] at h
theorem isKs_eqv : ∀ p q : List PyData, isKs p = true → isKs q = true → PyData.eqvAll p q = decide (p = q)
 | [], [], _, _ => by simp [PyData.eqvAll]
 | [], _ :: _, _, _ => by simp [PyData.eqvAll]
 | _ :: _, [], _, _ => by simp [PyData.eqvAll]
 | x :: xs, y :: ys, h, h' => by
  simp only [isKs, Bool.and_eq_true] at h h'; simp only [PyData.eqvAll, Iv x y h.1 h'.1, isKs_eqv xs ys h.2 h'.2, List.cons.injEq]; exact (Bool.decide_and _ _).symm
end
mutual
theorem Fs {h h' : Heap} {d : Addr} {o : Obj} {es ep} (ho : h.get? d = some o) (hd : o.data = .dict es ep) (hs : Heap.SameBut d h h') :
  ∀ (p : PyData) (v : Value) (as : List Addr), isK p = true → Reads h v p as → Reads h' v p as
 | .int _, _, _, _, r => by cases r; exact .int _ _
 | .str _, _, _, _, r => by cases r; exact .str _ _
 | .tuple xs, _, _, hk, r => by
  cases r with
  | tuple h1 h2 h3 h4 =>
   rename_i a ob vs n; have hne : a ≠ d := by
    rintro rfl; obtain rfl : ob = o := Option.some.inj (h1.symm.trans ho); rw [hd] at h3; exact nomatch h3
   exact .tuple ((hs.2 _ hne).trans h1) h2 h3 (readsAll_keep ho hd hs xs _ _ hk h4)
 | .none, _, _, h, _ | .bool _, _, _, h, _ | .list _, _, _, h, _ | .dict _, _, _, h, _ => by simp [isK] at h
theorem readsAll_keep {h h' : Heap} {d : Addr} {o : Obj} {es ep} (ho : h.get? d = some o) (hd : o.data = .dict es ep) (hs : Heap.SameBut d h h') :
  ∀ (ps : List PyData) (vs : List Value) (as : List Addr), isKs ps = true → ReadsAll h vs ps as → ReadsAll h' vs ps as
 | [], _, _, _, r => by cases r; exact .nil
 | x :: xs, _, _, hk, r => by
  simp only [isKs, Bool.and_eq_true] at hk
  cases r with
  | cons r1 r2 => exact .cons (Fs ho hd hs x _ _ hk.1 r1) (readsAll_keep ho hd hs xs _ _ hk.2 r2)
end
section
variable {prog : Program} {w : World}
mutual
theorem Ml : ∀ (p : PyData) (v : Value) (A : Around) (E : Value → Shared → Prop) (s : Shared) (as : List Addr) (Q : Int → Shared → Prop), isK p = true → Reads s.heap v p as → A.units + p.depth < cLine →
  Q (Aa w p) { s with toks := s.toks + zU p } → wpAny (model prog w) A (pyHash v) Q E s
 | .int i, _, A, E, s, _, Q, _, r, _, h => by cases r; exact wpAny_pyHash_int h
 | .str x, _, A, E, s, _, Q, _, r, _, h => by cases r; exact wpAny_pyHash_str h
 | .tuple xs, _, A, E, s, _, Q, hk, r, hu, h => by
  cases r with
  | tuple h1 h2 h3 h4 =>
   refine PySem.W.pyHash_slot (T := "tuple") ⟨_, h1, h2⟩ F.slot_tuple_hash F.entry_tuple_hash (F.args_tuple_hash_1 _) (beq_builtin_none _) (.inr (by omega)) ?_
   show wpAny _ _ (Builtin.Tuple.tupleItemsOf (.ref _) >>= _) _ _ s
   refine wpAny_bind (wpAny_tupleItemsOf h1 h3 ?_); refine wpAny_bind ?_; rw [← Array.forIn_toList]; refine hash_readsAll xs _ A.in1 E s _ #[] _ hk h4 (by simp only [PyData.depth, Around.in1_units] at hu ⊢; omega) fun b hb => ?_
   show wpAny _ _ (retInt (Builtin.Tuple.tupleHashOf b.toList)) _ _ _
   rw [hb]; exact wpAny_bind (wpAny_mkInt (wpAny_pure ⟨_, _, rfl, h⟩))
 | .none, _, _, _, _, _, _, h, _, _, _ | .bool _, _, _, _, _, _, _, h, _, _, _ | .list _, _, _, _, _, _, _, h, _, _, _ | .dict _, _, _, _, _, _, _, h, _, _, _ => by simp [isK] at h
theorem hash_readsAll : ∀ (ps : List PyData) (vs : List Value) (A : Around) (E : Value → Shared → Prop) (s : Shared) (as : List Addr) (b : Array Int) (Q : Array Int → Shared → Prop), isKs ps = true → ReadsAll s.heap vs ps as → A.units + PyData.depthAll ps < cLine →
  (∀ b', b'.toList = b.toList ++ hashKs w ps → Q b' { s with toks := s.toks + drawsKs ps }) →
  wpAny (model prog w) A (forIn vs b fun x r => do let h ← pyHash x; pure PUnit.unit; pure (ForInStep.yield (r.push h))) Q E s
 | [], _, A, E, s, _, b, Q, _, x, _, h => by cases x; exact wpAny_pure (h b (by simp [hashKs]))
 | k :: xs, _, A, E, s, _, b, Q, hk, x, hu, h => by
  cases x with
  | cons x1 x2 =>
   simp only [isKs, Bool.and_eq_true, PyData.depthAll] at hk hu; rw [List.forIn_cons]; refine wpAny_bind (wpAny_bind (Ml k _ A E s _ _ hk.1 x1 (by omega) ?_))
   refine wpAny_bind (wpAny_pure (wpAny_pure ?_)); refine hash_readsAll xs _ A E _ _ _ Q hk.2 x2 (by omega) fun b' hb => ?_
   have := h b' (by simp [hb, hashKs])
   simpa [drawsKs, Nat.add_assoc] using this
end
mutual
theorem Mn : ∀ (p : PyData) (v : Value) (A : Around) (E : Value → Shared → Prop) (s : Shared) (as : List Addr) (n : Nat) (Q : Bool → Shared → Prop), isK p = true → Reads s.heap v p as → p.depth ≤ n →
  Q true s → wpAny (model prog w) A (eqIsQuiet n v) Q E s
 | .int i, _, A, E, s, _, n, Q, _, r, _, h => by cases r; rw [eqIsQuiet_byValue _ rfl]; exact wpAny_pure h
 | .str x, _, A, E, s, _, n, Q, _, r, _, h => by cases r; rw [eqIsQuiet_byValue _ rfl]; exact wpAny_pure h
 | .tuple xs, _, A, E, s, _, n, Q, hk, r, hn, h => by
  cases r with
  | tuple h1 h2 h3 h4 =>
   have hT : s.TypeIs (.ref _) "tuple" := ⟨_, h1, h2⟩
   unfold eqIsQuiet; refine wpAny_bind (wpAny_specialOf hT F.slot_tuple_eq.lookup ?_); show wpAny _ _ (isInstance (.ref _) (.type "tuple") >>= _) _ _ s
   refine wpAny_bind (wpAny_isInstance hT isSubtype_tuple_tuple ?_); simp only [Bool.not_true, Bool.false_eq_true, if_false]; simp only [PyData.depth] at hn; obtain ⟨n', rfl⟩ : ∃ n', n = n' + 1 := ⟨n - 1, by omega⟩
   refine wpAny_bind (wpAny_seqItems h1 h3 ?_); refine wpAny_bind ?_; show wpAny _ _ (forIn _ _ _) _ _ s
   rw [← Array.forIn_toList]; refine wpAny_forIn_list _ (fun rest r s' => r.1 = none ∧ s' = s ∧ ∃ ps as, isKs ps = true ∧ PyData.depthAll ps ≤ n' ∧ (∀ q ∈ ps, q ∈ xs) ∧ ReadsAll s.heap rest ps as) _ ?_ ?_ _ _ ⟨rfl, rfl, xs, _, hk, by omega, fun _ z => z, h4⟩
   ·rintro v rest r s' ⟨hr, rfl, ps, as', hks, hd, hmem, ra⟩
    cases ra with
    | cons r1 r2 =>
     rename_i q qs as1 as2; simp only [isKs, Bool.and_eq_true, PyData.depthAll] at hks hd; have hq : q ∈ xs := hmem q List.mem_cons_self
     have hdep : sizeOf q < sizeOf (PyData.tuple xs) := by have := List.sizeOf_lt_of_mem hq; simp; omega
     refine wpAny_bind (Mn q v A E _ _ _ _ hks.1 r1 (by omega) ?_)
     simp only [Bool.not_true, Bool.false_eq_true, if_false]; exact wpAny_pure ⟨rfl, rfl, qs, _, hks.2, by omega, fun z hz => hmem z (List.mem_cons_of_mem _ hz), r2⟩
   ·rintro ⟨r1, r2⟩ s' ⟨hr, rfl, _⟩; simp only at hr; subst hr; exact wpAny_pure h
 | .none, _, _, _, _, _, _, _, h, _, _, _ | .bool _, _, _, _, _, _, _, _, h, _, _, _ | .list _, _, _, _, _, _, _, _, h, _, _, _ | .dict _, _, _, _, _, _, _, _, h, _, _, _ => by simp [isK] at h
termination_by p => sizeOf p
end
end
noncomputable def qB (prog : Program) (w : World) : HeapKind prog w (List PyData) where
 is := fun h ks a => isKs ks = true ∧ PyData.depthAll ks ≤ 6 ∧ ∃ as, Reads h (.ref a) (.tuple ks) as
 hash := fun ks => Aa w (.tuple ks)
 draws := fun ks => zU (.tuple ks)
 room := fun A => A.units + 20 < cLine
 inj := fun {h a x y} hx hy => by
  obtain ⟨k1, _, _, r1⟩ := hx; obtain ⟨k2, _, _, r2⟩ := hy; have e := SeqAt.Reads.unique _ _ _ _ _ (uP (.tuple x) k1) r1 r2
  exact PyData.tuple.inj e
 keeps := fun x ho hd hs => let ⟨k1, k2, as, r⟩ := x; ⟨k1, k2, as, Fs ho hd hs _ _ _ k1 r⟩
 pyHash := fun {A E s k a Q} hu hk h => by
  obtain ⟨k1, k2, as, r⟩ := hk; exact Ml (.tuple k) _ A E s as Q k1 r (by simp only [PyData.depth]; omega) h
 eqBool := fun {A E s x y a b Q} hu hx hy h => by
  obtain ⟨k1, d1, as, r1⟩ := hx; obtain ⟨k2, d2, bs, r2⟩ := hy; refine SeqAt.eqAt_reads (.tuple x) (.tuple y) A s _ _ _ _ r1 r2 (uP (.tuple x) k1) (uP (.tuple y) k2) (by simp only [PyData.depth]; omega) prog w E Q ?_
  rw [Iv (.tuple x) (.tuple y) k1 k2]; have e : decide (PyData.tuple x = PyData.tuple y) = decide (x = y) := by
   simp only [PyData.tuple.injEq]
  rw [e]; exact h
 quiet := fun {A E s k a Q} hk h => by
  obtain ⟨k1, k2, as, r⟩ := hk; exact Mn (.tuple k) _ A E s as 8 Q k1 r (by simp only [PyData.depth]; omega) h
end L2
namespace L2
open PySem PySem.Spec PyProof.Rows
abbrev aS := Sum Int Str
def pY : aS → Value → Bool
 | .inl k, v => Value.isInt k v
 | .inr x, v => Value.isStrOf x v
def u3 (w : World) : aS → Int
 | .inl k => hashInt k
 | .inr x => hashStr w x
theorem iR : ∀ {k : aS} {v : Value}, pY k v = true → (∃ i t, k = Sum.inl i ∧ v = Value.int i t) ∨ (∃ x t, k = Sum.inr x ∧ v = Value.str x t)
 | .inl i, v, h => by
  obtain ⟨t, e⟩ := Value.isInt_shape (k := i) (v := v) h; exact .inl ⟨i, t, rfl, e⟩
 | .inr x, v, h => by
  obtain ⟨t, e⟩ := Value.isStrOf_shape (x := x) (v := v) h; exact .inr ⟨x, t, rfl, e⟩
theorem Pm (i : Int) (t : Tok) : pY (.inl i) (.int i t) = true := by simp [pY, Value.isInt]
theorem Q2 (x : Str) (t : Tok) : pY (.inr x) (.str x t) = true := by simp [pY, Value.isStrOf]
theorem Qo (a b : Int) : decide ((Sum.inl a : aS) = Sum.inl b) = (a == b) := by
 by_cases e : a = b
 ·subst e; simp
 ·have h : ¬ (Sum.inl a : aS) = Sum.inl b := fun q => e (Sum.inl.inj q)
  rw [decide_eq_false h]; exact (beq_eq_false_iff_ne.mpr e).symm
theorem j9 (a b : Str) : decide ((Sum.inr a : aS) = Sum.inr b) = decide (a = b) := by
 by_cases e : a = b
 ·subst e; simp
 ·have h : ¬ (Sum.inr a : aS) = Sum.inr b := fun q => e (Sum.inr.inj q)
  rw [decide_eq_false h, decide_eq_false e]
theorem Y5 (a : Int) (b : Str) : decide ((Sum.inl a : aS) = Sum.inr b) = false := decide_eq_false (fun q => nomatch q)
theorem F6 (a : Str) (b : Int) : decide ((Sum.inr a : aS) = Sum.inl b) = false := decide_eq_false (fun q => nomatch q)
def cR (prog : Program) (w : World) : PySem.KeyKind prog w aS where
 is := pY
 hash := u3 w
 inj := fun v a b ha hb => by
  rcases iR ha with ⟨i, t, rfl, rfl⟩ | ⟨x, t, rfl, rfl⟩
  ·rcases iR hb with ⟨j, u, rfl, e⟩ | ⟨y, u, rfl, e⟩
   ·injection e with e1 _; rw [e1]
   ·exact nomatch e
  ·rcases iR hb with ⟨j, u, rfl, e⟩ | ⟨y, u, rfl, e⟩
   ·exact nomatch e
   ·injection e with e1 _; rw [e1]
 byValue := fun k v h => by
  rcases iR h with ⟨i, t, rfl, rfl⟩ | ⟨x, t, rfl, rfl⟩ <;> rfl
 pyHash := fun hv h => by
  rcases iR hv with ⟨i, t, rfl, rfl⟩ | ⟨x, t, rfl, rfl⟩
  ·exact wpAny_pyHash_int h
  ·exact wpAny_pyHash_str h
 eqBool := fun hu hv h => by
  rcases iR hu with ⟨i, t, rfl, rfl⟩ | ⟨x, t, rfl, rfl⟩
  ·rcases iR hv with ⟨j, u, rfl, rfl⟩ | ⟨y, u, rfl, rfl⟩
   ·rw [Qo] at h; exact wpAny_eqBool_int h
   ·rw [Y5] at h; exact SeqAt.EqAt.int_str i t y u _ _ _ _ h
  ·rcases iR hv with ⟨j, u, rfl, rfl⟩ | ⟨y, u, rfl, rfl⟩
   ·rw [F6] at h; exact SeqAt.EqAt.str_int x t j u _ _ _ _ h
   ·rw [j9] at h; exact wpAny_eqBool_str h
 «strs» := fun k x t v h => by
  rcases iR h with ⟨i, u, rfl, e⟩ | ⟨y, u, rfl, e⟩
  ·exact nomatch e
  ·injection e with e1 _
   subst e1
   cases v <;> rfl
theorem Xn (prog : Program) (w : World) (i : Int) (t : Tok) : (cR prog w).is (.inl i) (.int i t) = true := Pm i t
theorem Wt (prog : Program) (w : World) (x : Str) (t : Tok) : (cR prog w).is (.inr x) (.str x t) = true := Q2 x t
end L2
namespace L2
open PySem PySem.Spec PyProof.Rows
inductive V where
 | non | bl (b : Bool) | int (i : Int) | str (x : Str) | byt (b : Array UInt8) | flt (b : UInt64) | ref (a : Addr) | ty (n : String)
 deriving DecidableEq
def RelV : V → Value → Prop
 | .non, u => u = Value.none
 | .bl b, u => u = Value.bool b
 | .int i, u => ∃ t, u = Value.int i t
 | .str x, u => ∃ t, u = Value.str x t
 | .byt b, u => ∃ t, u = Value.bytes b t
 | .flt b, u => ∃ t, u = Value.float b t
 | .ref a, u => u = Value.ref a
 | .ty n, u => u = Value.type n
abbrev Vals : List V → List Value → Prop := Paired RelV
theorem Vals.length {xs : List V} {us : List Value} (r : Vals xs us) : xs.length = us.length := Paired.length r
theorem Vals.get : ∀ {xs : List V} {us : List Value} {i : Nat} {x : V}, Vals xs us → xs[i]? = some x → ∃ u, us[i]? = some u ∧ RelV x u
 | _, _, _, _, .nil, e => by simp at e
 | _, _, 0, _, .cons r _, e => by simp at e; subst e; exact ⟨_, rfl, r⟩
 | _, _, i + 1, x, .cons _ t, e => by
  obtain ⟨u, h1, h2⟩ := Vals.get (i := i) (x := x) t (by simpa using e)
  exact ⟨u, by simpa using h1, h2⟩
theorem Vals.set {x : V} {u : Value} (r : RelV x u) : ∀ {xs : List V} {us : List Value} (i : Nat), Vals xs us → Vals (xs.set i x) (us.set i u)
 | _, _, _, .nil => .nil
 | _, _, 0, .cons _ t => .cons r t
 | _, _, i + 1, .cons q t => .cons q (Vals.set r i t)
theorem Vals.append : ∀ {xs ys : List V} {us ws : List Value}, Vals xs us → Vals ys ws → Vals (xs ++ ys) (us ++ ws)
 | _, _, _, _, .nil, s => s
 | _, _, _, _, .cons r t, s => .cons r (Vals.append t s)
theorem Vals.take : ∀ {xs : List V} {us : List Value} (n : Nat), Vals xs us → Vals (xs.take n) (us.take n)
 | _, _, 0, _ => .nil
 | _, _, _ + 1, .nil => .nil
 | _, _, n + 1, .cons r t => .cons r (Vals.take n t)
theorem Vals.drop : ∀ {xs : List V} {us : List Value} (n : Nat), Vals xs us → Vals (xs.drop n) (us.drop n)
 | _, _, 0, r => r
 | _, _, _ + 1, .nil => .nil
 | _, _, n + 1, .cons _ t => Vals.drop n t
theorem Vals.none_of : ∀ {xs : List V} {us : List Value} {i : Nat}, Vals xs us → xs[i]? = none → us[i]? = none := fun {xs us i} r e => by
 have h1 := r.length
 have h2 : xs.length ≤ i := List.getElem?_eq_none_iff.mp e
 exact List.getElem?_eq_none_iff.mpr (by omega)
def RelO : Option V → Option Value → Prop
 | some v, some u => RelV v u
 | none, none => True
 | _, _ => False
def KV {κ : Type} : List (κ × V) → List (κ × Value) → Prop := Paired fun (p : κ × V) (q : κ × Value) => p.1 = q.1 ∧ RelV p.2 q.2
def kV : aS → V
 | .inl i => .int i
 | .inr x => .str x
inductive HO where
 | lst (xs : List V)
 | tup (xs : List V)
 | dK (kvs : List (aS × V)) | dT (kvs : List (List aS × V)) | dN (K : PySem.W.Frag) (kvs : List (List PyData × V))
 | set (S : Int → Bool) (n : Nat)
 | ins (C dx : Addr) (fs : List (Str × V))
 | own (x : Addr)
 | xd (fs : List (Str × V))
 | met (f x : Addr)
 | rng (lo hi : Int)
 | frz (o : Obj) (u : HO)
 | tbl (ps : Array Value)
 | ext (φ : Heap → Prop)
abbrev Hp := Addr → Option HO
def aN (H : Hp) (a : Addr) (o : HO) : Hp := fun b => if b = a then some o else H b
theorem cZ {H : Hp} {a : Addr} {o : HO} : aN H a o a = some o := by unfold aN; rw [if_pos rfl]
theorem bG {H : Hp} {a b : Addr} {o : HO} (h : b ≠ a) : aN H a o b = H b := by unfold aN; rw [if_neg h]
theorem yV {H : Hp} {a b : Addr} {o u : HO} (h : H a = some o) (h' : H b = some u) (d : o ≠ u) : a ≠ b := by
 intro e; subst e; rw [h] at h'; exact d (Option.some.inj h')
theorem lP {H : Hp} {a b : Addr} {o : HO} (h : H a = some o) (h' : H b = none) : a ≠ b := by
 intro e; subst e; rw [h] at h'; cases h'
def NoD (h : Heap) (a : Addr) : Prop := ∃ o, h.get? a = some o ∧ o.dict = none
theorem NoD.new (h : Heap) (c : Value) (d : Data) (hf : Obj.isFreed { cls := c, data := d } = false := by rfl) : NoD (h.push { cls := c, data := d }) h.objs.size := ⟨_, Heap.get?_push_size _ hf, rfl⟩
theorem NoD.keep {h h' : Heap} {a : Addr} (x : NoD h a) (k : ∀ o, h.get? a = some o → h'.get? a = some o) : NoD h' a := let ⟨o, e, d⟩ := x; ⟨o, k _ e, d⟩
def TupAt (K : PySem.W.Frag) (H : Hp) (a : Addr) (xs : List V) : Prop := (H a = some (.tup xs) ∨ ∃ o, H a = some (.frz o (.tup xs))) ∨
  ∃ (o : Obj) (its : Array Value) (n : Nat), K.lookup a = some o ∧ (o.cls = .type "tuple" ∧ o.dict = none) ∧ o.data = .seq its n ∧ its.size ≤ sizeLine ∧ Vals xs its.toList
mutual
def NKV (K : PySem.W.Frag) (H : Hp) : PyData → V → Prop
 | .int i, v => v = .int i
 | .str x, v => v = .str x
 | .tuple xs, v => ∃ a vs, v = .ref a ∧ TupAt K H a vs ∧ NKVs K H xs vs
 | .none, _ | .bool _, _ | .list _, _ | .dict _, _ => False
def NKVs (K : PySem.W.Frag) (H : Hp) : List PyData → List V → Prop
 | [], vs => vs = []
 | x :: xs, vs => ∃ v r, vs = v :: r ∧ NKV K H x v ∧ NKVs K H xs r
end
section
variable {K : PySem.W.Frag} {H H' : Hp}
theorem TupAt.stay {a : Addr} {xs : List V} (x : TupAt K H a xs) (ht : ∀ b xs, H b = some (.tup xs) → H' b = some (.tup xs)) (hf : ∀ b o u, H b = some (.frz o u) → H' b = some (.frz o u)) : TupAt K H' a xs := by
 rcases x with (x | ⟨o, x⟩) | x
 ·exact .inl (.inl (ht _ _ x))
 ·exact .inl (.inr ⟨o, hf _ _ _ x⟩)
 ·exact .inr x
mutual
theorem NKV.stay (ht : ∀ b xs, H b = some (.tup xs) → H' b = some (.tup xs)) (hf : ∀ b o u, H b = some (.frz o u) → H' b = some (.frz o u)) : ∀ (p : PyData) (v : V), NKV K H p v → NKV K H' p v
 | .int _, _, x => by simpa only [NKV] using x
 | .str _, _, x => by simpa only [NKV] using x
 | .tuple xs, _, x => by
  simp only [NKV] at x ⊢; obtain ⟨a, vs, e, x1, x2⟩ := x; exact ⟨a, vs, e, x1.stay ht hf, NKVs.stay ht hf xs vs x2⟩
 | .none, _, x | .bool _, _, x | .list _, _, x | .dict _, _, x => by simp only [NKV] at x
theorem NKVs.stay (ht : ∀ b xs, H b = some (.tup xs) → H' b = some (.tup xs)) (hf : ∀ b o u, H b = some (.frz o u) → H' b = some (.frz o u)) : ∀ (ps : List PyData) (vs : List V), NKVs K H ps vs → NKVs K H' ps vs
 | [], _, x => by simpa only [NKVs] using x
 | p :: ps, _, x => by
  simp only [NKVs] at x ⊢; obtain ⟨v, r, e, x1, x2⟩ := x; exact ⟨v, r, e, NKV.stay ht hf p v x1, NKVs.stay ht hf ps r x2⟩
end
end
section
variable (P : Program) (w : World)
def ObjOk (H : Hp) (h : Heap) (a : Addr) : HO → Prop
 | .lst xs => xs.length ≤ sizeLine ∧ ∃ (its : List Value) (n : Nat), Vals xs its ∧ h.get? a = some { cls := .type "list", data := .seq its.toArray n }
 | .tup xs => (xs.length ≤ sizeLine ∧ NoD h a) ∧ ∃ its : List Value, Vals xs its ∧ IsTup h a its.toArray
 | .dK kvs => kvs.length ≤ sizeLine ∧ (a == sysModules) = false ∧ ∃ vs, KV kvs vs ∧ h.DictOf (cR P w) a vs
 | .dT kvs => kvs.length ≤ sizeLine ∧ (a == sysModules) = false ∧ ∃ xs : List (List aS × Addr × Value),
   Paired (fun (p : List aS × V) (q : List aS × Addr × Value) => p.1 = q.1 ∧ H q.2.1 = some (.tup (p.1.map kV)) ∧ RelV p.2 q.2.2) kvs xs ∧
   ∃ o es ep, h.get? a = some o ∧ o.ExactDict ∧ o.data = .dict es ep ∧ es.toList = xs.map (entryOfKey (tupleKind (cR P w))) ∧ (xs.map (·.1)).Nodup
 | .dN K kvs => kvs.length ≤ sizeLine ∧ (a == sysModules) = false ∧ ∃ xs : List (List PyData × Addr × Value),
   Paired (fun (p : List PyData × V) (q : List PyData × Addr × Value) => p.1 = q.1 ∧ (isKs p.1 = true ∧ PyData.depthAll p.1 ≤ 6 ∧ NKV K H (.tuple p.1) (.ref q.2.1)) ∧ RelV p.2 q.2.2) kvs xs ∧
   ∃ o es ep, h.get? a = some o ∧ o.ExactDict ∧ o.data = .dict es ep ∧ es.toList = xs.map (entryOfKey (qB P w)) ∧ (xs.map (·.1)).Nodup
 | .set S n => h.SetOf (intKind P w) a S n
 | .ins C dx fs => H dx = some (.own a) ∧ fs.length ≤ 1000 ∧ dx ≠ a ∧ h.get? a = some (PySem.W.instObj C dx) ∧
   ∃ mA, h.Ns1 dx mA ∧ (∀ f, RelO (fs.lookup f) (mA f)) ∧ PySem.Within mA (fs.map (·.1))
 | .own _ => ∃ o, h.get? a = some o
 | .xd fs => ∃ mA, h.Ns1 a mA ∧ ∀ f, RelO (fs.lookup f) (mA f)
 | .rng lo hi => ∃ t u v, h.get? a = some { cls := .type "range", data := .fields #[.int lo t, .int hi u, .int 1 v] }
 | .frz o u => h.get? a = some o ∧ ObjOk H h a u
 | .tbl ps => h.get? a = some { cls := .none, data := .fields ps }
 | .met f x => h.get? a = some (PySem.W.methodObj (.ref f) (.ref x))
 | .ext φ => φ h ∧ (∃ o, h.get? a = some o) ∧ ∀ h1 h2 : Heap, φ h1 → (∀ o, h1.get? a = some o → h2.get? a = some o) → φ h2
def HOk (H : Hp) (h : Heap) : Prop := ∀ a o, H a = some o → ObjOk P w H h a o
end
section
variable {P : Program} {w : World} {H H' : Hp} {h h' : Heap} {a : Addr} {o : HO}
theorem ObjOk.lt (x : ObjOk P w H h a o) : a < h.objs.size := by
 cases o with
 | lst xs => obtain ⟨_, _, _, _, e⟩ := x; exact Heap.lt_size e
 | tup xs => obtain ⟨_, _, _, p⟩ := x; exact p.lt
 | dK kvs => obtain ⟨_, _, _, _, o, _, _, e, _⟩ := x; exact Heap.lt_size e
 | dT kvs => obtain ⟨_, _, _, _, o, _, _, e, _⟩ := x; exact Heap.lt_size e
 | dN K kvs => obtain ⟨_, _, _, _, o, _, _, e, _⟩ := x; exact Heap.lt_size e
 | set S n => obtain ⟨o, _, _, _, e, _⟩ := x; exact Heap.lt_size e
 | ins C dx fs => obtain ⟨_, _, _, e, _⟩ := x; exact Heap.lt_size e
 | own y => obtain ⟨_, e⟩ := x; exact Heap.lt_size e
 | xd fs => obtain ⟨_, ⟨_, _, _, e, _⟩, _⟩ := x; exact Heap.lt_size e
 | rng lo hi => obtain ⟨_, _, _, e⟩ := x; exact Heap.lt_size e
 | frz ob u => obtain ⟨e, _⟩ := x; exact Heap.lt_size e
 | tbl ps => exact Heap.lt_size (show h.get? a = some _ from x)
 | met f y => exact Heap.lt_size (show h.get? a = some _ from x)
 | ext φ => obtain ⟨_, ⟨_, e⟩, _⟩ := x; exact Heap.lt_size e
theorem Paired.mapP {α β : Type} {F G : α → β → Prop} : ∀ {l₁ : List α} {l₂ : List β}, Paired F l₁ l₂ → (∀ a b, F a b → G a b) → Paired G l₁ l₂
 | _, _, .nil, _ => .nil
 | _, _, .cons r t, f => .cons (f _ _ r) (Paired.mapP t f)
theorem ObjOk.stay (x : ObjOk P w H h a o) (k : ∀ b u, (b = a ∨ H b = some (.own a)) → h.get? b = some u → h'.get? b = some u)
  (ho : ∀ b, H b = some (.own a) → H' b = some (.own a)) (ht : ∀ b xs, H b = some (.tup xs) → H' b = some (.tup xs)) (hf : ∀ b ob u, H b = some (.frz ob u) → H' b = some (.frz ob u)) : ObjOk P w H' h' a o := by
 induction o with
 | lst xs => obtain ⟨z, its, n, r, e⟩ := x; exact ⟨z, its, n, r, k _ _ (.inl rfl) e⟩
 | tup xs => obtain ⟨z, its, r, ob, e, c⟩ := x; exact ⟨⟨z.1, z.2.keep fun _ e => k _ _ (.inl rfl) e⟩, its, r, ob, k _ _ (.inl rfl) e, c⟩
 | dK kvs => obtain ⟨z, y, vs, r, ob, es, ep, e, c⟩ := x; exact ⟨z, y, vs, r, ob, es, ep, k _ _ (.inl rfl) e, c⟩
 | dT kvs =>
  obtain ⟨z, y, xs, r, ob, es, ep, e, c⟩ := x; exact ⟨z, y, xs, Paired.mapP r fun p q z => ⟨z.1, ht _ _ z.2.1, z.2.2⟩, ob, es, ep, k _ _ (.inl rfl) e, c⟩
 | dN K kvs =>
  obtain ⟨z, y, xs, r, ob, es, ep, e, c⟩ := x; exact ⟨z, y, xs, Paired.mapP r fun p q z => ⟨z.1, ⟨z.2.1.1, z.2.1.2.1, NKV.stay ht hf _ _ z.2.1.2.2⟩, z.2.2⟩, ob, es, ep, k _ _ (.inl rfl) e, c⟩
 | set S n => obtain ⟨ob, es, ep, t, e, c⟩ := x; exact ⟨ob, es, ep, t, k _ _ (.inl rfl) e, c⟩
 | ins C dx fs =>
  obtain ⟨d, z, ne, e, mA, ⟨od, es, ep, e2, c⟩, r⟩ := x; exact ⟨ho _ d, z, ne, k _ _ (.inl rfl) e, mA, ⟨od, es, ep, k _ _ (.inr d) e2, c⟩, r⟩
 | own y => obtain ⟨ob, e⟩ := x; exact ⟨ob, k _ _ (.inl rfl) e⟩
 | xd fs => obtain ⟨mA, ⟨od, es, ep, e, c⟩, r⟩ := x; exact ⟨mA, ⟨od, es, ep, k _ _ (.inl rfl) e, c⟩, r⟩
 | rng lo hi => obtain ⟨t, u, v, e⟩ := x; exact ⟨t, u, v, k _ _ (.inl rfl) e⟩
 | frz ob u ih => obtain ⟨e, q⟩ := x; exact ⟨k _ _ (.inl rfl) e, ih q⟩
 | tbl ps =>
  have e : h.get? a = some { cls := .none, data := .fields ps } := x
  show h'.get? a = some { cls := .none, data := .fields ps }
  exact k a _ (.inl rfl) e
 | met f y =>
  have e : h.get? a = some (PySem.W.methodObj (.ref f) (.ref y)) := x
  show h'.get? a = some (PySem.W.methodObj (.ref f) (.ref y))
  exact k a _ (.inl rfl) e
 | ext φ => obtain ⟨p, ⟨o, e⟩, st⟩ := x; exact ⟨st _ _ p fun o q => k _ _ (.inl rfl) q, ⟨o, k _ _ (.inl rfl) e⟩, st⟩
theorem HOk.lt (x : HOk P w H h) (e : H a = some o) : a < h.objs.size := (x a o e).lt
theorem HOk.fresh (x : HOk P w H h) (e : h.objs.size ≤ a) : H a = none := by
 cases q : H a with
 | none => rfl
 | some u => exact absurd (Nat.lt_of_lt_of_le (x.lt q) e) (Nat.lt_irrefl _)
theorem HOk.kept (x : HOk P w H h) (k : ∀ b u, h.get? b = some u → h'.get? b = some u) : HOk P w H h' := fun a o e =>
 (x a o e).stay (fun b u _ q => k b u q) (fun _ q => q) (fun _ _ q => q) fun _ _ _ q => q
theorem HOk.laid (x : HOk P w H h) (k : ∀ b u, h.get? b = some u → h'.get? b = some u) (hp : h.objs.size ≤ a) (new : ObjOk P w (aN H a o) h' a o) : HOk P w (aN H a o) h' := fun b u e => by
 have hn := x.fresh hp
 by_cases hb : b = a
 ·subst hb; rw [cZ] at e; cases e; exact new
 ·rw [bG hb] at e; exact (x b u e).stay (fun c v _ q => k c v q) (fun c q => by rw [bG (lP q hn)]; exact q) (fun c xs q => by rw [bG (lP q hn)]; exact q) fun c ob u q => by rw [bG (lP q hn)]; exact q
end
def Rd (H : Hp) (a : Addr) (u : HO) : Prop := H a = some u ∨ ∃ o, H a = some (.frz o u)
theorem Rd.of {H : Hp} {a : Addr} {u : HO} (h : H a = some u) : Rd H a u := .inl h
theorem Rd.ok {P : Program} {w : World} {H : Hp} {h : Heap} {a : Addr} {u : HO} (r : Rd H a u) (x : HOk P w H h) : ObjOk P w H h a u := by
 rcases r with r | ⟨o, r⟩
 ·exact x a u r
 ·obtain ⟨_, q⟩ := x a _ r; exact q
def qT : Option HO → Prop
 | some (.lst _) => True
 | some (.dK _) => True
 | some (.dT _) => True
 | some (.dN _ _) => True
 | some (.set _ _) => True
 | some (.ins _ _ _) => True
 | some (.ext _) => True
 | _ => False
section
variable {P : Program} {w : World} {H : Hp} {h h' : Heap} {x e : Addr} {o' : HO}
theorem HOk.write (ok : HOk P w H h) (mu : qT (H x)) (he : e = x ∨ H e = some (.own x)) (k : ∀ b u, b ≠ e → h.get? b = some u → h'.get? b = some u) (heo : ∃ u, h'.get? e = some u)
  (new : ObjOk P w (aN H x o') h' x o') : HOk P w (aN H x o') h' := fun b u q => by
 have nown : ∀ c y, H c = some (.own y) → c ≠ x := fun c y r z => by subst z; rw [r] at mu; exact mu
 have ntup : ∀ c xs, H c = some (.tup xs) → c ≠ x := fun c xs r z => by subst z; rw [r] at mu; exact mu
 by_cases hb : b = x
 ·subst hb; rw [cZ] at q; cases q; exact new
 ·rw [bG hb] at q
  by_cases hbe : b = e
  ·have q' : H b = some (.own x) := by
    rcases he with z | z
    ·exact absurd (hbe.trans z) hb
    ·rw [hbe]; exact z
   rw [q] at q'; cases q'; obtain ⟨v, hv⟩ := heo; exact ⟨v, by rw [hbe]; exact hv⟩
  ·refine (ok b u q).stay (fun c v hc r => k c v ?_ r) (fun c r => by rw [bG (nown c b r)]; exact r) (fun c xs r => by rw [bG (ntup c xs r)]; exact r) fun c ob u r => by rw [bG (fun z => by subst z; rw [r] at mu; exact mu)]; exact r
   rcases hc with rfl | hc
   ·exact hbe
   ·rintro rfl; rcases he with z | z
    ·exact nown c b hc z
    ·rw [hc] at z; cases z; exact hb rfl
end
structure Un (fs ex : List Addr) (H H' : Hp) (h h' : Heap) : Prop where
 keep : ∀ b o, h.get? b = some o → H b = none → b ∉ fs → b ∉ ex → h'.get? b = some o
 slot : ∀ b o, h.get? b = some o → H b = none → b ∈ fs → b ∉ ex → ∃ sl, h'.get? b = some { o with slots := sl }
 free : ∀ b o, h.get? b = some o → H b = none → b ∉ ex → H' b = none
 there : ∀ b o, h.get? b = some o → b ∉ ex → ∃ o', h'.get? b = some o'
 tups : ∀ b xs, H b = some (.tup xs) → H' b = some (.tup xs)
 frzs : ∀ b o u, H b = some (.frz o u) → H' b = some (.frz o u)
 tbls : ∀ b ps, H b = some (.tbl ps) → ∃ more, H' b = some (.tbl (ps ++ more))
section
variable {fs fs' ex ex' : List Addr} {H H1 H2 : Hp} {h h1 h2 h' : Heap} {a x e : Addr} {o : HO}
theorem Un.any (u : Un fs ex H H1 h h1) {b : Addr} {ob : Obj} (q : h.get? b = some ob) (n : H b = none) (hx : b ∉ ex) : ∃ sl, h1.get? b = some { ob with slots := sl } := by
 by_cases hb : b ∈ fs
 ·exact u.slot b ob q n hb hx
 ·exact ⟨ob.slots, u.keep b ob q n hb hx⟩
theorem Un.trans (a : Un fs ex H H1 h h1) (b : Un fs ex H1 H2 h1 h2) : Un fs ex H H2 h h2 where
 keep := fun c ob q n hc hx => b.keep c ob (a.keep c ob q n hc hx) (a.free c ob q n hx) hc hx
 slot := fun c ob q n hc hx => by
  obtain ⟨sl, e1⟩ := a.slot c ob q n hc hx; obtain ⟨sl', e2⟩ := b.slot c _ e1 (a.free c ob q n hx) hc hx; exact ⟨sl', e2⟩
 free := fun c ob q n hx => by
  obtain ⟨o', e1⟩ := a.there c ob q hx; exact b.free c o' e1 (a.free c ob q n hx) hx
 there := fun c ob q hx => by
  obtain ⟨o', e1⟩ := a.there c ob q hx; exact b.there c o' e1 hx
 tups := fun c xs q => b.tups c xs (a.tups c xs q)
 frzs := fun c ob xs q => b.frzs c ob xs (a.frzs c ob xs q)
 tbls := fun c ps q => by
  obtain ⟨m1, e1⟩ := a.tbls c ps q; obtain ⟨m2, e2⟩ := b.tbls c _ e1; exact ⟨m1 ++ m2, by rw [e2, Array.append_assoc]⟩
theorem Un.kept (k : ∀ b u, h.get? b = some u → h'.get? b = some u) : Un fs ex H H h h' :=
 ⟨fun b ob q _ _ _ => k b ob q, fun b ob q _ _ _ => ⟨ob.slots, k b ob q⟩, fun _ _ _ n _ => n, fun b ob q _ => ⟨ob, k b ob q⟩, fun _ _ q => q, fun _ _ _ q => q, fun _ ps q => ⟨#[], by rw [q]; simp⟩⟩
theorem Un.refl : Un fs ex H H h h := Un.kept fun _ _ q => q
theorem Un.laid (k : ∀ b u, h.get? b = some u → h'.get? b = some u) (hp : h.objs.size ≤ a) (hn : H a = none) : Un fs ex H (aN H a o) h h' where
 keep := fun b u q _ _ _ => k b u q
 slot := fun b u q _ _ _ => ⟨u.slots, k b u q⟩
 free := fun b u q n _ => by rw [bG (Nat.ne_of_lt (Nat.lt_of_lt_of_le (Heap.lt_size q) hp))]; exact n
 there := fun b u q _ => ⟨u, k b u q⟩
 tups := fun b xs q => by rw [bG (lP q hn)]; exact q
 frzs := fun b u xs q => by rw [bG (lP q hn)]; exact q
 tbls := fun b ps q => ⟨#[], by rw [bG (lP q hn), q]; simp⟩
theorem Un.write (mu : qT (H x)) (he : e = x ∨ H e = some (.own x)) (k : ∀ b u, b ≠ e → h.get? b = some u → h'.get? b = some u) (heo : ∃ u, h'.get? e = some u) : Un fs ex H (aN H x o) h h' := by
 have hx : ∀ b, H b = none → b ≠ x := fun b n z => by subst z; rw [n] at mu; exact mu
 have hb : ∀ b, H b = none → b ≠ e := fun b n z => by
  subst z; rcases he with r | r
  ·exact hx b n r
  ·rw [n] at r; cases r
 have hm : ∀ b u, H b = some u → ¬ qT (some u) → b ≠ x := fun b u q nm z => by subst z; rw [q] at mu; exact nm mu
 refine ⟨fun b u q n _ _ => k b u (hb b n) q, fun b u q n _ _ => ⟨u.slots, k b u (hb b n) q⟩, fun b u q n _ => by rw [bG (hx b n)]; exact n, fun b u q _ => ?_,
  fun b xs q => by rw [bG (hm b _ q fun z => z)]; exact q, fun b u xs q => by rw [bG (hm b _ q fun z => z)]; exact q, fun b ps q => ⟨#[], by rw [bG (hm b _ q fun z => z), q]; simp⟩⟩
 by_cases hbe : b = e
 ·subst hbe; exact heo
 ·exact ⟨u, k b u hbe q⟩
theorem Un.mono (u : Un fs ex H H1 h h1) (hs : ∀ b ∈ fs, b ∈ fs') (hx : ∀ b ∈ ex, b ∈ ex') : Un fs' ex' H H1 h h1 :=
 ⟨fun b ob q n hb he => u.keep b ob q n (fun z => hb (hs b z)) fun z => he (hx b z), fun _ _ q n _ he => u.any q n fun z => he (hx _ z), fun b ob q n he => u.free b ob q n fun z => he (hx b z), fun b ob q he => u.there b ob q fun z => he (hx b z), u.tups, u.frzs, u.tbls⟩
end
def sS (h : Heap) (H : Hp) : List Addr := (List.range h.objs.size).filter fun a => (H a).isSome
def iM (h : Heap) (H : Hp) : Heap := PySem.W.hideAll h (sS h H)
theorem Pe (h : Heap) (H : Hp) : (iM h H).objs.size = h.objs.size := PySem.W.hideAll_size _ _
theorem L1 {h : Heap} {H : Hp} {b : Addr} {o : Obj} (e : h.get? b = some o) (n : H b = none) : (iM h H).get? b = some o :=
 PySem.W.hideAll_get _ e fun hm => by
  have q : (H b).isSome = true := (List.mem_filter.mp hm).2
  rw [n] at q; simp at q
theorem i5 {h : Heap} {H : Hp} {b : Addr} {o : Obj} (e : (iM h H).get? b = some o) : h.get? b = some o ∧ H b = none := by
 have e' : h.get? b = some o := PySem.W.of_hideAll (sS h H) e
 refine ⟨e', ?_⟩
 cases q : H b with
 | none => rfl
 | some x =>
  have hm : b ∈ sS h H := List.mem_filter.mpr ⟨List.mem_range.mpr (Heap.lt_size e'), by simp [q]⟩
  have z : (iM h H).get? b = none := PySem.W.hideAll_none (sS h H) hm
  rw [z] at e; cases e
def Su (g h : Heap) (L : Addr) : List (Addr × Obj) := (List.range h.objs.size).filterMap fun a => if a = L ∨ (g.get? a).isSome = true then none else (h.get? a).map fun o => (a, o)
def rest (g h : Heap) (L d : Addr) : List (Addr × Obj) := (Su g h L).filter fun p => decide (p.1 ≠ d)
end L2
namespace L2
open PySem PySem.Spec PyProof.Rows
structure Mod (K : PySem.W.Frag) (mg : Str → Option Value) (base : Heap) : Prop where
 kin : K.In base
 glob : base.Ns mainGlobals mg
 blt : ∃ mb, base.Ns builtinsNs mb ∧ ∀ x : Str, x ≠ "__name__" → mb x = bootBuiltins x
 nolimit : base.NoLimit
structure Cx where
 prog : Program
 w : World
 K : PySem.W.Frag
 mg : Str → Option Value
 base : Heap
 A : Around
 N : List Str
 s₀ : Shared
 H₀ : Hp
 env : Env
 outer : List Env
 stack : List Env
 ex : List Addr
 fn : Str → Bool
 calm : Bool
 pn : List (Addr × Obj)
 xe : Value → Shared → Prop
def eU (l : List Env) : List Addr := l.filterMap (·.frame)
abbrev Cx.fs (X : Cx) : List Addr := eU X.outer
def jX (sc : Scope) (x : Str) : Prop := sc.names.lookup x = some .local ∨ sc.names.lookup x = some .cell ∨ sc.names.lookup x = some .free
def fQ (sc : Scope) (x : Str) : Prop := sc.names.lookup x = some .local ∨ sc.names.lookup x = some .cell
def P2 (env : Env) (h : Heap) (m : Str → Option Value) (x : Str) (u : Value) : Prop :=
 (env.kindOf x = some .local ∧ m x = some u) ∨ ((env.kindOf x = some .cell ∨ env.kindOf x = some .free) ∧ ∃ c, env.cells.lookup x = some c ∧ h.IsCell c (some u))
structure Cx.Ok (X : Cx) : Prop where
 mod : Mod X.K X.mg X.base
 kind : X.env.scope.kind = .function
 glob : X.env.globals = mainGlobals
 blt : X.env.builtins = builtinsNs
 above : X.s₀.heap.objs.size ≤ X.env.locals
 inj : ∀ x y c, X.env.cells.lookup x = some c → X.env.cells.lookup y = some c → x = y
 has : ∀ x, (X.env.kindOf x = some .cell ∨ X.env.kindOf x = some .free) → ∃ c, X.env.cells.lookup x = some c
 cab : ∀ x c, X.fn x = true → X.env.cells.lookup x = some c → X.s₀.heap.objs.size ≤ c
 hd : X.calm = true → X.A.handled = none
 frames : X.A.frames = some X.stack
 stk : X.stack = X.outer ∨ (X.stack = X.env :: X.outer ∧ X.env.frame = some X.env.locals)
 exf : ∀ b ∈ X.ex, b ≠ X.env.locals ∧ ∀ x c, X.env.cells.lookup x = some c → c ≠ b
 bs : ∀ b o, X.base.get? b = some o → X.s₀.heap.get? b = some o ∧ X.H₀ b = none
 bsz : X.base.objs.size ≤ X.s₀.heap.objs.size
 noex : ∀ b o, X.base.get? b = some o → b ∉ X.ex
 exfs : ∀ b ∈ X.ex, b ∉ X.fs
 funs : X.s₀.heap.FunFrames X.base X.outer
 frf : ∀ b ∈ X.fs, X.H₀ b = none
structure Inv (X : Cx) (pins : List (Addr × Obj)) (σ : List (Option V)) (H : Hp) (s : Shared) : Prop where
 ok : X.Ok
 os : s.os = X.s₀.os
 bare : AllBare s.gens
 base : Un X.fs X.ex X.H₀ H X.s₀.heap s.heap
 loc : ∃ m, s.heap.Ns X.env.locals m ∧ ∀ (i : Nat) (x : Str) (v : V), X.N[i]? = some x → σ[i]? = some (some v) → jX X.env.scope x → ∃ u, RelV v u ∧ P2 X.env s.heap m x u
 cell : ∀ x c, X.env.cells.lookup x = some c → ∃ v, s.heap.IsCell c v
 free : H X.env.locals = none
 freeC : ∀ x c, X.env.cells.lookup x = some c → H c = none
 pin : ∀ p ∈ X.pn ++ pins, s.heap.get? p.1 = some p.2 ∧ H p.1 = none ∧ p.1 ≠ X.env.locals ∧ p.1 ∉ X.fs ∧ ∀ v, p.2.data ≠ .cell v
 hok : HOk X.prog X.w H s.heap
 len : σ.length = X.N.length
section
variable {X : Cx} {pins : List (Addr × Obj)} {σ : List (Option V)} {H H' : Hp} {s : Shared} {h' : Heap}
theorem Cx.Ok.nofr (ok : X.Ok) {b : Addr} {o : Obj} (e : X.base.get? b = some o) : b ∉ X.fs := fun hb => by
 have := (ok.funs.mem hb).1
 rw [e] at this; cases this
theorem Inv.bs (I : Inv X pins σ H s) : ∀ b o, X.base.get? b = some o → s.heap.get? b = some o ∧ H b = none := fun b o e =>
 ⟨I.base.keep b o (I.ok.bs b o e).1 (I.ok.bs b o e).2 (I.ok.nofr e) (I.ok.noex b o e), I.base.free b o (I.ok.bs b o e).1 (I.ok.bs b o e).2 (I.ok.noex b o e)⟩
theorem Inv.bk (I : Inv X pins σ H s) : ∀ b o, X.base.get? b = some o → s.heap.get? b = some o := fun b o e => (I.bs b o e).1
theorem Inv.mod (I : Inv X pins σ H s) : Mod X.K X.mg X.base := I.ok.mod
theorem Inv.kIn (I : Inv X pins σ H s) : X.K.In s.heap := I.ok.mod.kin.keeps I.bk
theorem Inv.nolimit (I : Inv X pins σ H s) : s.heap.NoLimit := I.ok.mod.nolimit.keeps I.bk
theorem Inv.fr (I : Inv X pins σ H s) : ∃ m, Fr X.base X.env.locals s.heap m :=
 let ⟨m, hn, _⟩ := I.loc
 ⟨m, hn, I.bk, Nat.le_trans I.ok.bsz I.ok.above⟩
theorem Inv.lt (I : Inv X pins σ H s) : X.env.locals < s.heap.objs.size := let ⟨_, hn, _⟩ := I.loc; hn.lt
theorem Inv.sz (I : Inv X pins σ H s) : X.s₀.heap.objs.size ≤ s.heap.objs.size := Nat.le_trans I.ok.above (Nat.le_of_lt I.lt)
theorem Inv.nofs (I : Inv X pins σ H s) {a : Addr} (h : s.heap.objs.size ≤ a) : a ∉ X.fs := fun hb => by
 obtain ⟨_, o, ho, _⟩ := I.ok.funs.mem hb; exact absurd (Nat.lt_of_lt_of_le (Heap.lt_size ho) (Nat.le_trans I.sz h)) (Nat.lt_irrefl _)
theorem Inv.cne (I : Inv X pins σ H s) : ∀ x c, X.env.cells.lookup x = some c → c ≠ X.env.locals := fun x c e z => by
 obtain ⟨v, o, ho, hd⟩ := I.cell x c e; obtain ⟨m, ⟨o', es, ep, ho', hd', _⟩, _⟩ := I.loc; rw [z, ho'] at ho; cases ho; rw [hd'] at hd; cases hd
theorem Inv.funs (I : Inv X pins σ H s) : s.heap.FunFrames X.base X.outer := by
 have all : ∀ (l : List Env), (∀ b ∈ eU l, b ∈ X.fs) → X.s₀.heap.FunFrames X.base l → s.heap.FunFrames X.base l := by
  intro l
  induction l with
  | nil => intro _ _; trivial
  | cons env r ih =>
   intro hs hl; obtain ⟨hk, ⟨L, o, hf, hn, ho, hd⟩, hr⟩ := hl; have hL : L ∈ X.fs := hs L (by unfold eU; rw [List.filterMap_cons, hf]; exact List.mem_cons_self)
   obtain ⟨sl, e⟩ := I.base.slot L o ho (I.ok.frf L hL) hL fun z => I.ok.exfs L z hL; exact ⟨hk, ⟨L, _, hf, hn, e, hd⟩, ih (fun b hb => hs b (by unfold eU; rw [List.filterMap_cons, hf]; exact List.mem_cons_of_mem _ hb)) hr⟩
 exact all X.outer (fun _ hb => hb) I.ok.funs
theorem Inv.stack (I : Inv X pins σ H s) : s.heap.FunFrames X.base X.stack := by
 rcases I.ok.stk with e | ⟨e, hf⟩
 ·rw [e]; exact I.funs
 ·rw [e]; obtain ⟨m, hn, _⟩ := I.loc; refine .cons (by rw [I.ok.kind]; decide) hf hn ?_ I.funs
  exact Heap.get?_none_of_le (Nat.le_trans I.ok.bsz I.ok.above)
theorem Inv.stkSub (I : Inv X pins σ H s) : ∀ b ∈ eU X.stack, b ∈ X.env.locals :: X.fs := fun b hb => by
 rcases I.ok.stk with e | ⟨e, hf⟩
 ·rw [e] at hb; exact List.mem_cons_of_mem _ hb
 ·rw [e] at hb; unfold eU at hb; rw [List.filterMap_cons, hf] at hb; exact hb
theorem Inv.stkFree (I : Inv X pins σ H s) : ∀ b ∈ eU X.stack, H b = none := fun b hb => by
 rcases List.mem_cons.mp (I.stkSub b hb) with e | hb
 ·rw [e]; exact I.free
 ·obtain ⟨_, o, ho, _⟩ := I.ok.funs.mem hb; exact I.base.free b o ho (I.ok.frf b hb) fun z => I.ok.exfs b z hb
theorem Inv.step {g' : Array GenState} {t' : Nat} {d' : Drawn} {ch : List Addr} (I : Inv X pins σ H s)
  (hch : ∀ b ∈ ch, (b ∈ X.ex ∨ X.s₀.heap.objs.size ≤ b) ∧ b ≠ X.env.locals ∧ (∀ x c, X.env.cells.lookup x = some c → c ≠ b) ∧ ∀ p ∈ X.pn ++ pins, p.1 ≠ b)
  (keep : ∀ b o, b ≠ X.env.locals → b ∉ X.fs → b ∉ ch → s.heap.get? b = some o → H b = none → h'.get? b = some o)
  (slot : ∀ b o, b ≠ X.env.locals → b ∈ X.fs → b ∉ ch → s.heap.get? b = some o → H b = none → ∃ sl, h'.get? b = some { o with slots := sl }) (free : ∀ b o, b ∉ ch → s.heap.get? b = some o → H b = none → H' b = none)
  (there : ∀ b o, b ∉ ch → s.heap.get? b = some o → ∃ o', h'.get? b = some o')
  (tups : ∀ b xs, H b = some (.tup xs) → H' b = some (.tup xs)) (frzs : ∀ b o u, H b = some (.frz o u) → H' b = some (.frz o u)) (tbls : ∀ b ps, H b = some (.tbl ps) → ∃ more, H' b = some (.tbl (ps ++ more)))
  (ns : ∀ m, s.heap.Ns X.env.locals m → h'.Ns X.env.locals m) (hok : HOk X.prog X.w H' h') (hg : AllBare g') :
  Inv X pins σ H' { s with heap := h', gens := g', drawn := d', toks := t' } := by
 have neL : ∀ b o, X.s₀.heap.get? b = some o → b ≠ X.env.locals := fun b o e => Nat.ne_of_lt (Nat.lt_of_lt_of_le (Heap.lt_size e) I.ok.above)
 have neC : ∀ b o, X.s₀.heap.get? b = some o → b ∉ X.ex → b ∉ ch := fun b o e hx hb => by
  rcases (hch b hb).1 with z | z
  ·exact hx z
  ·exact absurd (Nat.lt_of_lt_of_le (Heap.lt_size e) z) (Nat.lt_irrefl _)
 have cellK : ∀ x c, X.env.cells.lookup x = some c → ∀ v, s.heap.IsCell c v → h'.IsCell c v := fun x c e v ⟨o, ho, hd⟩ => by
  have nch : c ∉ ch := fun z => (hch c z).2.2.1 x c e rfl
  by_cases hc : c ∈ X.fs
  ·obtain ⟨sl, q⟩ := slot c o (I.cne x c e) hc nch ho (I.freeC x c e); exact ⟨_, q, hd⟩
  ·exact ⟨o, keep c o (I.cne x c e) hc nch ho (I.freeC x c e), hd⟩
 refine ⟨I.ok, I.os, hg, ⟨fun b o e n hb hx => ?_, fun b o e n hb hx => ?_, fun b o e n hx => ?_, fun b o e hx => ?_, fun b xs e => tups b xs (I.base.tups b xs e), fun b o xs e => frzs b o xs (I.base.frzs b o xs e), fun b ps e => ?_⟩, ?_, fun x c e => ?_, ?_, fun x c e => ?_, fun p hp => ?_, hok, I.len⟩
 ·exact keep b o (neL b o e) hb (neC b o e hx) (I.base.keep b o e n hb hx) (I.base.free b o e n hx)
 ·obtain ⟨sl, e1⟩ := I.base.slot b o e n hb hx; obtain ⟨sl', e2⟩ := slot b _ (neL b o e) hb (neC b o e hx) e1 (I.base.free b o e n hx); exact ⟨sl', e2⟩
 ·obtain ⟨o', e1⟩ := I.base.there b o e hx; exact free b o' (neC b o e hx) e1 (I.base.free b o e n hx)
 ·obtain ⟨o', e1⟩ := I.base.there b o e hx; exact there b o' (neC b o e hx) e1
 ·obtain ⟨m1, e1⟩ := I.base.tbls b ps e; obtain ⟨m2, e2⟩ := tbls b _ e1; exact ⟨m1 ++ m2, by rw [e2, Array.append_assoc]⟩
 ·obtain ⟨m, hn, hl⟩ := I.loc; refine ⟨m, ns m hn, fun i x v e1 e2 e3 => ?_⟩; obtain ⟨u, r, l⟩ := hl i x v e1 e2 e3; refine ⟨u, r, ?_⟩; rcases l with l | ⟨k, c, e, z⟩
  ·exact .inl l
  ·exact .inr ⟨k, c, e, cellK x c e _ z⟩
 ·obtain ⟨v, z⟩ := I.cell x c e; exact ⟨v, cellK x c e v z⟩
 ·obtain ⟨m, ⟨o, _, _, ho, _⟩, _⟩ := I.loc; exact free _ o (fun z => (hch _ z).2.1 rfl) ho I.free
 ·obtain ⟨v, o, ho, hd⟩ := I.cell x c e; exact free c o (fun z => (hch c z).2.2.1 x c e rfl) ho (I.freeC x c e)
 ·obtain ⟨e, n, ne, nf, d⟩ := I.pin p hp; have nch : p.1 ∉ ch := fun z => (hch p.1 z).2.2.2 p hp rfl
  exact ⟨keep p.1 p.2 ne nf nch e n, free p.1 p.2 nch e n, ne, nf, d⟩
theorem Inv.un {t' : Nat} (I : Inv X pins σ H s) (u : Un X.fs [] H H' s.heap h') (hok : HOk X.prog X.w H' h') : Inv X pins σ H' { s with heap := h', toks := t' } := by
 obtain ⟨m, ⟨o, es, ep, ho, r⟩, _⟩ := id I.loc; obtain ⟨sl, hL⟩ := u.any ho I.free (by simp)
 exact I.step (g' := s.gens) (d' := s.drawn) (ch := []) (fun _ z => nomatch z) (fun b o _ hb _ e n => u.keep b o e n hb (by simp)) (fun b o _ hb _ e n => u.slot b o e n hb (by simp)) (fun b o _ e n => u.free b o e n (by simp)) (fun b o _ e => u.there b o e (by simp)) u.tups u.frzs u.tbls (fun m' hm => by
  obtain ⟨o', es', ep', ho', r'⟩ := hm; rw [ho] at ho'; cases ho'; exact ⟨_, es', ep', hL, r'⟩) hok I.bare
theorem Inv.call {g' : Array GenState} {t' : Nat} {d' : Drawn} {ch : List Addr} (I : Inv X pins σ H s) (u : Un (eU X.stack) ch H H' s.heap h') (hok : HOk X.prog X.w H' h') (hg : AllBare g')
  (hch : ∀ b ∈ ch, (b ∈ X.ex ∨ X.s₀.heap.objs.size ≤ b) ∧ b ≠ X.env.locals ∧ (∀ x c, X.env.cells.lookup x = some c → c ≠ b) ∧ ∀ p ∈ X.pn ++ pins, p.1 ≠ b) :
  Inv X pins σ H' { s with heap := h', gens := g', drawn := d', toks := t' } := by
 obtain ⟨m, ⟨o, es, ep, ho, r⟩, _⟩ := id I.loc; obtain ⟨sl, hL⟩ := u.any ho I.free fun z => (hch _ z).2.1 rfl; exact I.step (ch := ch) hch (fun b o hL hb hc e n => u.keep b o e n (fun z => (List.mem_cons.mp (I.stkSub b z)).elim hL hb) hc) (fun b o _ _ hc e n => u.any e n hc) (fun b o hc e n => u.free b o e n hc) (fun b o hc e => u.there b o e hc) u.tups u.frzs u.tbls (fun m' hm => by
  obtain ⟨o', es', ep', ho', r'⟩ := hm; rw [ho] at ho'; cases ho'; exact ⟨_, es', ep', hL, r'⟩) hok hg
theorem Inv.turned {t' : Nat} {it : Addr} (I : Inv X pins σ H s) (k : ∀ b o, b ≠ it → s.heap.get? b = some o → h'.get? b = some o) (hn : H it = none) (hL : it ≠ X.env.locals)
  (h1 : it ∈ X.ex ∨ X.s₀.heap.objs.size ≤ it) (h2 : ∀ x c, X.env.cells.lookup x = some c → c ≠ it) (h3 : ∀ p ∈ X.pn ++ pins, p.1 ≠ it) : Inv X pins σ H { s with heap := h', toks := t' } := by
 have nit : ∀ b u, H b = some u → b ≠ it := fun b u e z => by rw [z, hn] at e; cases e
 refine I.step (g' := s.gens) (d' := s.drawn) (ch := [it]) (fun b hb => ?_) (fun b o _ _ hc e _ => k b o (fun z => hc (by simp [z])) e) (fun b o _ _ hc e _ => ⟨o.slots, k b o (fun z => hc (by simp [z])) e⟩) (fun _ _ _ _ n => n)
  (fun b o hc e => ⟨o, k b o (fun z => hc (by simp [z])) e⟩) (fun _ _ e => e) (fun _ _ _ e => e) (fun b ps e => ⟨#[], by rw [e]; simp⟩) (fun m hm => ?_) (fun b u e => ?_) I.bare
 ·have e : b = it := by simpa using hb
  subst e; exact ⟨h1, hL, h2, h3⟩
 ·obtain ⟨o, es, ep, ho, r⟩ := hm; exact ⟨o, es, ep, k _ o (Ne.symm hL) ho, r⟩
 ·refine (I.hok b u e).stay (fun c v hc q => k c v ?_ q) (fun _ q => q) (fun _ _ q => q) fun _ _ _ q => q; rcases hc with z | z
  ·rw [z]; exact nit b u e
  ·exact nit c _ z
theorem Inv.tok (I : Inv X pins σ H s) (t : Nat) : Inv X pins σ H { s with toks := t } := I.un (h' := s.heap) (t' := t) Un.refl I.hok
theorem Inv.kept {t' : Nat} (I : Inv X pins σ H s) (k : ∀ b u, s.heap.get? b = some u → h'.get? b = some u) : Inv X pins σ H { s with heap := h', toks := t' } := I.un (Un.kept k) (I.hok.kept k)
theorem Inv.laid {a : Addr} {o : HO} {t' : Nat} (I : Inv X pins σ H s) (k : ∀ b u, s.heap.get? b = some u → h'.get? b = some u) (hp : s.heap.objs.size ≤ a) (new : ObjOk X.prog X.w (aN H a o) h' a o) :
  Inv X pins σ (aN H a o) { s with heap := h', toks := t' } := I.un (Un.laid k hp (I.hok.fresh hp)) (I.hok.laid k hp new)
theorem Inv.write {x e : Addr} {o : HO} {t' : Nat} (I : Inv X pins σ H s) (mu : qT (H x)) (he : e = x ∨ H e = some (.own x)) (k : ∀ b u, b ≠ e → s.heap.get? b = some u → h'.get? b = some u) (heo : ∃ u, h'.get? e = some u)
  (new : ObjOk X.prog X.w (aN H x o) h' x o) : Inv X pins σ (aN H x o) { s with heap := h', toks := t' } := I.un (Un.write mu he k heo) (I.hok.write mu he k heo new)
theorem Inv.pins_of {pins' : List (Addr × Obj)} (I : Inv X pins σ H s) (h : ∀ p ∈ pins', s.heap.get? p.1 = some p.2 ∧ H p.1 = none ∧ p.1 ≠ X.env.locals ∧ p.1 ∉ X.fs ∧ ∀ v, p.2.data ≠ .cell v) : Inv X pins' σ H s :=
 ⟨I.ok, I.os, I.bare, I.base, I.loc, I.cell, I.free, I.freeC, fun p hp => (List.mem_append.mp hp).elim (fun z => I.pin p (List.mem_append_left _ z)) (h p), I.hok, I.len⟩
theorem Fl {N : List Str} (hN : N.Nodup) {i j : Nat} {x : Str} (a : N[i]? = some x) (b : N[j]? = some x) : i = j := by
 obtain ⟨h1, e1⟩ := List.getElem?_eq_some_iff.mp a; obtain ⟨h2, e2⟩ := List.getElem?_eq_some_iff.mp b; exact (List.getElem_inj hN).mp (e1.trans e2.symm)
theorem Go {M : Model} {A : Around} {E : Value → Shared → Prop} {i : Nat} {x : Str} {v : V} {u : Value} {Q : Unit → Shared → Prop} (I : Inv X pins σ H s) (hN : X.N.Nodup) (hi : X.N[i]? = some x) (hx : fQ X.env.scope x) (r : RelV v u)
  (h : ∀ s', Inv X pins (σ.set i (some v)) H s' → (∃ a, Heap.SameBut a s.heap s'.heap ∧ (a = X.env.locals ∨ X.env.cells.lookup x = some a)) → Q () s') (hf : X.fn x = true ∨ X.env.scope.names.lookup x = some .local := by first | exact .inl rfl | exact .inr rfl | assumption) : wpAny M A (storeName X.env x u) Q E s := by
 obtain ⟨m, hn, hl⟩ := id I.loc; have hcls : (X.env.scope.kind == .class || (X.env.scope.kind == .module && X.env.locals != X.env.globals)) = false := by rw [I.ok.kind]; rfl
 have hiσ : i < σ.length := by rw [I.len]; exact (List.getElem?_eq_some_iff.mp hi).1
 have cne := I.cne
 have tracked : ∀ {a : Addr} {h' : Heap}, (∃ o, s.heap.get? a = some o ∧ H a = none) → Heap.SameBut a s.heap h' → HOk X.prog X.w H h' := fun {a h'} ha hs b ob e => by
  obtain ⟨_, _, hfree⟩ := ha; refine (I.hok b ob e).stay (fun c w' hc q => (hs.2 c ?_).trans q) (fun _ q => q) (fun _ _ q => q) fun _ _ _ q => q; rintro rfl; rcases hc with rfl | hc
  ·rw [hfree] at e; cases e
  ·rw [hfree] at hc; cases hc
 rcases hx with hk | hk
 ·refine wpAny_storeName_local hk hn (fun h' hn' hs => ?_) hcls; obtain ⟨oL, _, _, hoL, _⟩ := id hn; refine h _ ⟨I.ok, I.os, I.bare, ⟨fun b o e n hb hx => ?_, fun b o e n hb hx => ?_, I.base.free, fun b o e hx => ?_, I.base.tups, I.base.frzs, I.base.tbls⟩, ⟨_, hn', fun j y v' e1 e2 e3 => ?_⟩, fun y c e => ?_, I.free, I.freeC, fun p hp => ?_, tracked ⟨oL, hoL, I.free⟩ hs, by simpa using I.len⟩ ⟨_, hs, .inl rfl⟩
  ·exact (hs.2 b (Nat.ne_of_lt (Nat.lt_of_lt_of_le (Heap.lt_size e) I.ok.above))).trans (I.base.keep b o e n hb hx)
  ·obtain ⟨sl, e1⟩ := I.base.slot b o e n hb hx; exact ⟨sl, (hs.2 b (Nat.ne_of_lt (Nat.lt_of_lt_of_le (Heap.lt_size e) I.ok.above))).trans e1⟩
  ·obtain ⟨o', e1⟩ := I.base.there b o e hx; exact ⟨o', (hs.2 b (Nat.ne_of_lt (Nat.lt_of_lt_of_le (Heap.lt_size e) I.ok.above))).trans e1⟩
  ·by_cases hj : j = i
   ·subst hj; rw [hi] at e1; cases e1; rw [List.getElem?_set_self hiσ] at e2
    cases e2
    exact ⟨u, r, .inl ⟨hk, by simp⟩⟩
   ·rw [List.getElem?_set_ne (Ne.symm hj)] at e2; obtain ⟨u', r', q⟩ := hl j y v' e1 e2 e3; refine ⟨u', r', ?_⟩; rcases q with ⟨k, e⟩ | ⟨k, c, e, z⟩
    ·refine .inl ⟨k, ?_⟩; have : y ≠ x := fun e => hj (Fl hN e1 (e ▸ hi))
     simp [this, e]
    ·exact .inr ⟨k, c, e, z.sameBut hs (cne y c e)⟩
  ·obtain ⟨w', z⟩ := I.cell y c e; exact ⟨w', z.sameBut hs (cne y c e)⟩
  ·obtain ⟨e, n, ne, nf, d⟩ := I.pin p hp; exact ⟨(hs.2 p.1 ne).trans e, n, ne, nf, d⟩
 ·have hfn : X.fn x = true := by
   rcases hf with z | z
   ·exact z
   ·rw [z] at hk; cases hk
  obtain ⟨c, hc⟩ := I.ok.has x (.inl hk); obtain ⟨w', z⟩ := I.cell x c hc; refine wpAny_storeName_cell I.ok.kind hk hc z (fun h' hc' hs => ?_); obtain ⟨oc, hoc, hocd⟩ := id z; refine h { s with heap := h' } ⟨I.ok, I.os, I.bare, ⟨fun b o e n hb hx => ?_, fun b o e n hb hx => ?_, I.base.free, fun b o e hx => ?_, I.base.tups, I.base.frzs, I.base.tbls⟩, ⟨m, hn.sameBut hs (Ne.symm (cne x c hc)), fun j y v' e1 e2 e3 => ?_⟩, fun y c' e => ?_, I.free, I.freeC, fun p hp => ?_, tracked ⟨oc, hoc, I.freeC x c hc⟩ hs, by simpa using I.len⟩ ⟨c, hs, .inr hc⟩
  ·exact (hs.2 b (Nat.ne_of_lt (Nat.lt_of_lt_of_le (Heap.lt_size e) (I.ok.cab x c hfn hc)))).trans (I.base.keep b o e n hb hx)
  ·obtain ⟨sl, e1⟩ := I.base.slot b o e n hb hx; exact ⟨sl, (hs.2 b (Nat.ne_of_lt (Nat.lt_of_lt_of_le (Heap.lt_size e) (I.ok.cab x c hfn hc)))).trans e1⟩
  ·obtain ⟨o', e1⟩ := I.base.there b o e hx; exact ⟨o', (hs.2 b (Nat.ne_of_lt (Nat.lt_of_lt_of_le (Heap.lt_size e) (I.ok.cab x c hfn hc)))).trans e1⟩
  ·by_cases hj : j = i
   ·subst hj; rw [hi] at e1; cases e1; rw [List.getElem?_set_self hiσ] at e2
    cases e2
    exact ⟨u, r, .inr ⟨.inl hk, c, hc, hc'⟩⟩
   ·rw [List.getElem?_set_ne (Ne.symm hj)] at e2; obtain ⟨u', r', q⟩ := hl j y v' e1 e2 e3; refine ⟨u', r', ?_⟩; rcases q with q | ⟨k, c', e, z'⟩
    ·exact .inl q
    ·refine .inr ⟨k, c', e, z'.sameBut hs ?_⟩; rintro rfl; exact hj (Fl hN e1 (I.ok.inj _ _ _ e hc ▸ hi))
  ·by_cases hcc : c' = c
   ·subst hcc; exact ⟨_, hc'⟩
   ·obtain ⟨w2, z2⟩ := I.cell y c' e; exact ⟨w2, z2.sameBut hs hcc⟩
  ·obtain ⟨e, n, ne, nf, d⟩ := I.pin p hp; refine ⟨(hs.2 p.1 ?_).trans e, n, ne, nf, d⟩; intro q; rw [q, hoc] at e; have q' : oc = p.2 := Option.some.inj e
   exact d w' (by rw [← q']; exact hocd)
theorem Gr {M : Model} {A : Around} {E : Value → Shared → Prop} {i : Nat} {x : Str} {v : V} {u : Value} {Q : Unit → Shared → Prop} (I : Inv X pins σ H s) (hN : X.N.Nodup) (hi : X.N[i]? = some x) (hx : fQ X.env.scope x) (r : RelV v u)
  (h : ∀ s', Inv X pins (σ.set i (some v)) H s' → Q () s') (hf : X.fn x = true ∨ X.env.scope.names.lookup x = some .local := by first | exact .inl rfl | exact .inr rfl | assumption) : wpAny M A (storeName X.env x u) Q E s :=
 Go I hN hi hx r (fun s' I' _ => h s' I') hf
theorem Inv.call' {s' : Shared} {ch : List Addr} (I : Inv X pins σ H s) (ho : s'.os = s.os) (u : Un (eU X.stack) ch H H' s.heap s'.heap) (hok : HOk X.prog X.w H' s'.heap) (hg : AllBare s'.gens)
  (hch : ∀ b ∈ ch, (b ∈ X.ex ∨ X.s₀.heap.objs.size ≤ b) ∧ b ≠ X.env.locals ∧ (∀ x c, X.env.cells.lookup x = some c → c ≠ b) ∧ ∀ p ∈ X.pn ++ pins, p.1 ≠ b) : Inv X pins σ H' s' := by
 obtain ⟨h', g', d', t', o'⟩ := s'; have e : o' = s.os := ho
 subst e; exact I.call (g' := g') (t' := t') (d' := d') u hok hg hch
end
abbrev XK := Value → Option Addr → Hp → Prop
abbrev St := List (Option V)
abbrev VK := V → Hp → Prop
abbrev TE := St → Hp → VK → Prop
abbrev TT := St → Hp → (Bool → Hp → Prop) → Prop
abbrev TA := St → Hp → (List V → Hp → Prop) → Prop
structure Ends where
 nx : St → Hp → Prop
 rt : VK
 bk : St → Hp → Prop := fun _ _ => False
 ct : St → Hp → Prop := fun _ _ => False
abbrev TS := Ends → St → Hp → Prop
def EP (X : Cx) (pins : List (Addr × Obj)) (σ : St) (Q : VK) (u : Value) (s' : Shared) : Prop := ∃ v H', Inv X pins σ H' s' ∧ RelV v u ∧ Q v H'
def TP (X : Cx) (pins : List (Addr × Obj)) (σ : St) (Q : Bool → Hp → Prop) (b : Bool) (s' : Shared) : Prop := ∃ H', Inv X pins σ H' s' ∧ Q b H'
def AP (X : Cx) (pins : List (Addr × Obj)) (σ : St) (Q : List V → Hp → Prop) (us : List Value) (s' : Shared) : Prop := ∃ vs H', Inv X pins σ H' s' ∧ Vals vs us ∧ Q vs H'
def SP (X : Cx) (pins : List (Addr × Obj)) (D : Ends) (f : Flow) (s' : Shared) : Prop :=
 match f with
 | .next => ∃ σ' H', Inv X pins σ' H' s' ∧ D.nx σ' H'
 | .brk => ∃ σ' H', Inv X pins σ' H' s' ∧ D.bk σ' H'
 | .cont => ∃ σ' H', Inv X pins σ' H' s' ∧ D.ct σ' H'
 | .ret u => ∃ v σ' H', Inv X pins σ' H' s' ∧ RelV v u ∧ D.rt v H'
def PE (X : Cx) (e : Expr) (t : TE) : Prop :=
 ∀ (pins : List (Addr × Obj)) (s : Shared) (σ : St) (H : Hp) (Q : VK), Inv X pins σ H s → t σ H Q → wpAny (model X.prog X.w) X.A (eval e X.env) (EP X pins σ Q) X.xe s
def PT (X : Cx) (e : Expr) (t : TT) : Prop :=
 ∀ (pins : List (Addr × Obj)) (s : Shared) (σ : St) (H : Hp) (Q : Bool → Hp → Prop), Inv X pins σ H s → t σ H Q → wpAny (model X.prog X.w) X.A (isTrue e X.env (eval e X.env)) (TP X pins σ Q) X.xe s
def PW (X : Cx) (e : Expr) (t : TT) : Prop :=
 ∀ (whole : Sem Value) (pins : List (Addr × Obj)) (s : Shared) (σ : St) (H : Hp) (Q : Bool → Hp → Prop), Inv X pins σ H s → t σ H Q → wpAny (model X.prog X.w) X.A (isTrue e X.env whole) (TP X pins σ Q) X.xe s
theorem PW.pt {X : Cx} {e : Expr} {t : TT} (h : PW X e t) : PT X e t := h _
def PA (X : Cx) (es : List Expr) (t : TA) : Prop :=
 ∀ (pos : Pos) (pins : List (Addr × Obj)) (s : Shared) (σ : St) (H : Hp) (Q : List V → Hp → Prop), Inv X pins σ H s → t σ H Q → wpAny (model X.prog X.w) X.A (spliced (backTo pos (starEach es X.env))) (AP X pins σ Q) X.xe s
def PS (X : Cx) (st : Stmt) (t : TS) : Prop :=
 ∀ (pins : List (Addr × Obj)) (s : Shared) (σ : St) (H : Hp) (D : Ends), Inv X pins σ H s → t D σ H → wpAny (model X.prog X.w) X.A (exec st X.env) (SP X pins D) X.xe s
def PSs (X : Cx) (st : List Stmt) (t : TS) : Prop :=
 ∀ (pins : List (Addr × Obj)) (s : Shared) (σ : St) (H : Hp) (D : Ends), Inv X pins σ H s → t D σ H → wpAny (model X.prog X.w) X.A (execs st X.env) (SP X pins D) X.xe s
theorem aL {α : Type} {t : Sem α} {Q Q' : α → Shared → Prop} {M : Model} {A : Around} {E : Value → Shared → Prop} {s : Shared} (h : wpAny M A t Q E s) (hQ : ∀ a s, Q a s → Q' a s) : wpAny M A t Q' E s := wpAny_mono h hQ fun _ _ x => x
end L2
namespace L2
open PySem PySem.Spec PyProof.Rows
section
variable {X : Cx}
def f8 (i : Nat) : TE := fun σ H Q => ∃ v, σ[i]? = some (some v) ∧ Q v H
def tC (v : V) : TE := fun _ H Q => Q v H
theorem t8 {i : Nat} {x : Str} {pos : Pos} (hN : X.N[i]? = some x) (hv : jX X.env.scope x) (hd : (x == ("__debug__" : Str)) = false := by decide) (hcd : (x == ("__classdict__" : Str)) = false := by decide) : PE X (.Name x pos) (f8 i) := by
 intro pins s σ H Q I h; obtain ⟨v, e, h⟩ := h; obtain ⟨m, hn, hl⟩ := I.loc; obtain ⟨u, r, l⟩ := hl i x v hN e hv; have fin : EP X pins σ Q u s := ⟨v, H, I, r, h⟩
 rcases l with ⟨hk, hm⟩ | ⟨hk, c, hc, hcell⟩
 ·exact wpAny_Name (wpAny_loadName_local I.ok.kind hk hn hm fin) hd
 ·rcases hk with hk | hk
  ·exact wpAny_Name (wpAny_loadName_cell I.ok.kind hk hc hcell fin) hd
  ·exact wpAny_Name (wpAny_loadName_free I.ok.kind hk hc hcell fin hcd) hd
theorem E9 {i j pos} : PE X (.Constant (.int i) j pos) (tC (.int i)) := fun _ _ _ H _ I h => wpAny_Constant_int ⟨.int i, H, I.tok _, ⟨_, rfl⟩, h⟩
theorem E4 {b j pos} : PE X (.Constant (.bool b) j pos) (tC (.bl b)) := fun _ _ _ H _ I h => Constant_bool ⟨.bl b, H, I, rfl, h⟩
theorem M3 {j pos} : PE X (.Constant .none j pos) (tC .non) := fun _ _ _ H _ I h => Constant_none ⟨.non, H, I, rfl, h⟩
theorem K0 {x j pos} : PE X (.Constant (.str x) j pos) (tC (.str x)) := fun _ _ _ H _ I h => Calls.Constant_str ⟨.str x, H, I.tok _, ⟨_, rfl⟩, h⟩
def Gl (X : Cx) (x : Str) : Prop := X.env.kindOf x = some .globalImplicit
theorem Ak {E : Value → Shared → Prop} {pins : List (Addr × Obj)} {s : Shared} {σ : St} {H : Hp} {x : Str} {u : Value} {pos : Pos} {Q : Value → Shared → Prop} (I : Inv X pins σ H s) (hg : Gl X x) (hm : X.mg x = some u) (h : Q u s)
  (hd : (x == ("__debug__" : Str)) = false := by decide) : wpAny (model X.prog X.w) X.A (eval (.Name x pos) X.env) Q E s :=
 Calls.Name_function_global I.ok.kind hg (Calls.loadGlobal_global (by rw [I.ok.glob]; exact I.mod.glob.keeps I.bk) hm h) hd
theorem lK {E : Value → Shared → Prop} {pins : List (Addr × Obj)} {s : Shared} {σ : St} {H : Hp} {x : Str} {u : Value} {pos : Pos} {Q : Value → Shared → Prop} (I : Inv X pins σ H s) (hg : Gl X x) (hm : X.mg x = none) (hv : bootBuiltins x = some u) (h : Q u s)
  (hn : x ≠ "__name__" := by decide) (hd : (x == ("__debug__" : Str)) = false := by decide) : wpAny (model X.prog X.w) X.A (eval (.Name x pos) X.env) Q E s := by
 obtain ⟨mb, h1, h2⟩ := I.mod.blt; exact Calls.Name_function_global I.ok.kind hg (Calls.loadGlobal_builtin (by rw [I.ok.glob]; exact I.mod.glob.keeps I.bk) hm (by rw [I.ok.blt]; exact h1.keeps I.bk) ((h2 x hn).trans hv) h) hd
theorem wL {x : Str} {v : V} {u : Value} {pos : Pos} (hg : Gl X x) (hm : X.mg x = some u) (r : RelV v u) (hd : (x == ("__debug__" : Str)) = false := by decide) : PE X (.Name x pos) (tC v) :=
 fun _ _ _ H _ I h => Ak I hg hm ⟨v, H, I, r, h⟩ hd
theorem Oh {x : Str} {v : V} {u : Value} {pos : Pos} (hg : Gl X x) (hm : X.mg x = none) (hv : bootBuiltins x = some u) (r : RelV v u) (hn : x ≠ "__name__" := by decide) (hd : (x == ("__debug__" : Str)) = false := by decide) : PE X (.Name x pos) (tC v) :=
 fun _ _ _ H _ I h => lK I hg hm hv ⟨v, H, I, r, h⟩ hn hd
variable {a b : Expr} {ta tb : TE} {pos : Pos}
def tB (t : TE) : TT := fun σ H Q => t σ H fun x H1 => ∃ c, x = .bl c ∧ Q c H1
theorem A8 {e : Expr} {t : TE} (h : PE X e t) (he : ∀ whole, isTrue e X.env whole = (do let v ← whole; standAt e.pos; holding [v] (truthy v)) := by intro _; rfl) : PT X e (tB t) := by
 intro pins s σ H Q I hw; refine isTrue_plain (aL (h pins s σ H _ I hw) fun v s1 ⟨x, H1, I1, r1, q1⟩ => ?_) (he _); obtain ⟨d, rfl, q⟩ := q1
 cases r1
 exact wpAny_truthy_bool ⟨H1, I1, q⟩
variable {tA tB' : TT} {rest : List Expr}
def e6 (t u : TT) : TT := fun σ H Q => t σ H fun c H1 => if c = true then u σ H1 Q else Q false H1
def Sh (t u : TT) : TT := fun σ H Q => t σ H fun c H1 => if c = true then Q true H1 else u σ H1 Q
theorem Pi (ha : PT X a tA) : PW X (.BoolOp .And [a] pos) tA := by
 intro wh pins s σ H Q I h; refine isTrue_and (aL (ha pins s σ H Q I h) fun c s1 e => ?_)
 cases c with
 | true => exact isTrue_and_nil e
 | false => exact e
theorem V0 (ha : PT X a tA) : PW X (.BoolOp .Or [a] pos) tA := by
 intro wh pins s σ H Q I h; refine isTrue_or (aL (ha pins s σ H Q I h) fun c s1 e => ?_)
 cases c with
 | false => exact isTrue_or_nil e
 | true => exact e
theorem G2 (ha : PT X a tA) (hb : PW X (.BoolOp .And (b :: rest) pos) tB') : PW X (.BoolOp .And (a :: b :: rest) pos) (e6 tA tB') := by
 intro wh pins s σ H Q I h; refine isTrue_and (aL (ha pins s σ H _ I h) fun c s1 ⟨H1, I1, q1⟩ => ?_)
 cases c with
 | true => exact hb wh pins s1 σ H1 Q I1 q1
 | false => exact ⟨H1, I1, q1⟩
theorem Sx (ha : PT X a tA) (hb : PW X (.BoolOp .Or (b :: rest) pos) tB') : PW X (.BoolOp .Or (a :: b :: rest) pos) (Sh tA tB') := by
 intro wh pins s σ H Q I h; refine isTrue_or (aL (ha pins s σ H _ I h) fun c s1 ⟨H1, I1, q1⟩ => ?_)
 cases c with
 | true => exact ⟨H1, I1, q1⟩
 | false => exact hb wh pins s1 σ H1 Q I1 q1
def B4 (ta tb : TE) : TE := fun σ H Q => ta σ H fun x H1 => ∃ c, x = .bl c ∧ if c = true then tb σ H1 Q else Q (.bl false) H1
theorem Sz {op} {t : TE} (h : PE X a t) : PE X (.BoolOp op [a] pos) t := fun pins s σ H Q I hw => BoolOp_one (h pins s σ H Q I hw)
theorem Sy (ha : PE X a ta) (hb : PE X (.BoolOp .And (b :: rest) pos) tb) : PE X (.BoolOp .And (a :: b :: rest) pos) (B4 ta tb) := by
 intro pins s σ H Q I h; refine BoolOp_and (aL (ha pins s σ H _ I h) fun v s1 ⟨x, H1, I1, r1, q1⟩ => ?_); obtain ⟨c, rfl, q1⟩ := q1
 cases r1
 refine wpAny_truthy_bool ?_
 cases c with
 | true => exact hb pins s1 σ H1 Q I1 q1
 | false => exact ⟨.bl false, H1, I1, rfl, q1⟩
def J0 (t : TT) (ta tb : TE) : TE := fun σ H Q => t σ H fun c H1 => if c = true then ta σ H1 Q else tb σ H1 Q
theorem Pa {c : Expr} (hc : PT X c tA) (ha : PE X a ta) (hb : PE X b tb) : PE X (.IfExp c a b pos) (J0 tA ta tb) := by
 intro pins s σ H Q I h; refine wpAny_IfExp (aL (hc pins s σ H _ I h) fun d s1 ⟨H1, I1, q1⟩ => ?_)
 cases d with
 | true => exact ha pins s1 σ H1 Q I1 q1
 | false => exact hb pins s1 σ H1 Q I1 q1
end
end L2
namespace L2
open PySem PySem.Spec PyProof.Rows
def SqL (K : PySem.W.Frag) (H : Hp) (a : Addr) (xs : List V) : Prop :=
 Rd H a (.lst xs) ∨
  ∃ (o : Obj) (its : Array Value) (n : Nat), K.lookup a = some o ∧ o.cls = .type "list" ∧ o.dict = none ∧ o.data = .seq its n ∧ its.size ≤ sizeLine ∧ Vals xs its.toList
def SqT (K : PySem.W.Frag) (H : Hp) (a : Addr) (xs : List V) : Prop :=
 Rd H a (.tup xs) ∨
  ∃ (o : Obj) (its : Array Value) (n : Nat), K.lookup a = some o ∧ (o.cls = .type "tuple" ∧ o.dict = none) ∧ o.data = .seq its n ∧ its.size ≤ sizeLine ∧ Vals xs its.toList
def Qr : Value → Option V
 | .none => some .non
 | .bool b => some (.bl b)
 | .int i _ => some (.int i)
 | .str x _ => some (.str x)
 | .bytes b _ => some (.byt b)
 | .float b _ => some (.flt b)
 | .ref a => some (.ref a)
 | .type n => some (.ty n)
 | _ => none
theorem RelV.abs {x : V} {u : Value} (r : RelV x u) : Qr u = some x := by
 cases x with
 | non => cases r; rfl
 | bl _ => cases r; rfl
 | int _ => obtain ⟨t, rfl⟩ := r; rfl
 | str _ => obtain ⟨t, rfl⟩ := r; rfl
 | byt _ => obtain ⟨t, rfl⟩ := r; rfl
 | flt _ => obtain ⟨t, rfl⟩ := r; rfl
 | ref _ => cases r; rfl
 | ty _ => cases r; rfl
theorem RelV.inj {x y : V} {u : Value} (r : RelV x u) (q : RelV y u) : x = y := Option.some.inj (r.abs.symm.trans q.abs)
theorem Vals.inj : ∀ {xs ys : List V} {us : List Value}, Vals xs us → Vals ys us → xs = ys
 | _, _, _, .nil, .nil => rfl
 | _, _, _, .cons r t, .cons r' t' => by rw [r.inj r', Vals.inj t t']
section
variable {X : Cx} {pins : List (Addr × Obj)} {σ : St} {H : Hp} {s : Shared} {a : Addr} {xs ys : List V}
theorem SqL.of {K : PySem.W.Frag} (h : H a = some (.lst xs)) : SqL K H a xs := .inl (.inl h)
theorem SqT.of {K : PySem.W.Frag} (h : H a = some (.tup xs)) : SqT K H a xs := .inl (.inl h)
theorem Inv.list (I : Inv X pins σ H s) (h : SqL X.K H a xs) : ∃ its : List Value, Vals xs its ∧ PlainL s.heap a its.toArray ∧ xs.length ≤ sizeLine := by
 rcases h with h | ⟨o, its, n, hk, hc, hd, hs, hz, r⟩
 ·obtain ⟨z, its, n, r, e⟩ := h.ok I.hok; exact ⟨its, r, ⟨_, n, e, rfl, rfl, rfl⟩, z⟩
 ·refine ⟨its.toList, r, ⟨o, n, I.kIn a o hk, hc, hd, by simpa using hs⟩, ?_⟩
  have e := r.length
  simp only [Array.length_toList] at e; omega
theorem Inv.tuple (I : Inv X pins σ H s) (h : SqT X.K H a xs) : ∃ its : List Value, Vals xs its ∧ IsTup s.heap a its.toArray ∧ xs.length ≤ sizeLine := by
 rcases h with h | ⟨o, its, n, hk, hc, hs, hz, r⟩
 ·obtain ⟨z, its, r, p⟩ := h.ok I.hok; exact ⟨its, r, p, z.1⟩
 ·refine ⟨its.toList, r, ⟨o, I.kIn a o hk, hc.1, n, by simpa using hs⟩, ?_⟩
  have e := r.length
  simp only [Array.length_toList] at e; omega
theorem Inv.list_inj (I : Inv X pins σ H s) (h : SqL X.K H a xs) (h' : SqL X.K H a ys) : xs = ys := by
 obtain ⟨its, r, ⟨o, n, e, _, _, d⟩, _⟩ := I.list h; obtain ⟨its', r', ⟨o', n', e', _, _, d'⟩, _⟩ := I.list h'; rw [e] at e'; cases e'; rw [d] at d'
 injection d' with d1 _
 have : its = its' := by simpa using congrArg Array.toList d1
 subst this; exact r.inj r'
theorem Inv.tuple_inj (I : Inv X pins σ H s) (h : SqT X.K H a xs) (h' : SqT X.K H a ys) : xs = ys := by
 obtain ⟨its, r, ⟨o, e, _, n, d⟩, _⟩ := I.tuple h; obtain ⟨its', r', ⟨o', e', _, n', d'⟩, _⟩ := I.tuple h'; rw [e] at e'; cases e'; rw [d] at d'
 injection d' with d1 _
 have : its = its' := by simpa using congrArg Array.toList d1
 subst this; exact r.inj r'
end
abbrev Cx.wish (X : Cx) (E : Value → Shared → Prop) : Cx := { X with xe := E }
abbrev Cx.nox (X : Cx) : Cx := X.wish fun _ _ => False
theorem Cx.Ok.wish {X : Cx} (ok : X.Ok) (E : Value → Shared → Prop) : (X.wish E).Ok :=
 ⟨ok.mod, ok.kind, ok.glob, ok.blt, ok.above, ok.inj, ok.has, ok.cab, ok.hd, ok.frames, ok.stk, ok.exf, ok.bs, ok.bsz, ok.noex, ok.exfs, ok.funs, ok.frf⟩
theorem Cx.Ok.unwish {X : Cx} {E : Value → Shared → Prop} (ok : (X.wish E).Ok) : X.Ok :=
 ⟨ok.mod, ok.kind, ok.glob, ok.blt, ok.above, ok.inj, ok.has, ok.cab, ok.hd, ok.frames, ok.stk, ok.exf, ok.bs, ok.bsz, ok.noex, ok.exfs, ok.funs, ok.frf⟩
section
variable {X : Cx} {pins : List (Addr × Obj)} {σ : St} {H : Hp} {s : Shared} {E : Value → Shared → Prop}
theorem Inv.wish (I : Inv X pins σ H s) (E : Value → Shared → Prop) : Inv (X.wish E) pins σ H s := ⟨I.ok.wish E, I.os, I.bare, I.base, I.loc, I.cell, I.free, I.freeC, I.pin, I.hok, I.len⟩
theorem Inv.unwish (I : Inv (X.wish E) pins σ H s) : Inv X pins σ H s := ⟨I.ok.unwish, I.os, I.bare, I.base, I.loc, I.cell, I.free, I.freeC, I.pin, I.hok, I.len⟩
theorem SP.unwish {D : Ends} {f : Flow} {s' : Shared} (h : SP (X.wish E) pins D f s') : SP X pins D f s' := by
 cases f with
 | next => obtain ⟨σ', H', I, q⟩ := h; exact ⟨σ', H', I.unwish, q⟩
 | brk => obtain ⟨σ', H', I, q⟩ := h; exact ⟨σ', H', I.unwish, q⟩
 | cont => obtain ⟨σ', H', I, q⟩ := h; exact ⟨σ', H', I.unwish, q⟩
 | ret u => obtain ⟨v, σ', H', I, r, q⟩ := h; exact ⟨v, σ', H', I.unwish, r, q⟩
theorem PE.nox {e : Expr} {t : TE} (h : PE X.nox e t) : PE X e t := fun pins s σ H Q I hw =>
 wpAny_mono (h pins s σ H Q (I.wish _) hw) (fun _ _ ⟨v, H', I', r, q⟩ => ⟨v, H', I'.unwish, r, q⟩) fun _ _ z => False.elim z
theorem PT.nox {e : Expr} {t : TT} (h : PT X.nox e t) : PT X e t := fun pins s σ H Q I hw =>
 wpAny_mono (h pins s σ H Q (I.wish _) hw) (fun _ _ ⟨H', I', q⟩ => ⟨H', I'.unwish, q⟩) fun _ _ z => False.elim z
theorem PSs.nox {st : List Stmt} {t : TS} (h : PSs X.nox st t) : PSs X st t := fun pins s σ H D I hw =>
 wpAny_mono (h pins s σ H D (I.wish _) hw) (fun _ _ q => q.unwish) fun _ _ z => False.elim z
end
section
variable {X : Cx} {st : Stmt} {rest : List Stmt} {t u : TS} {e : Expr} {te : TE} {pos : Pos}
def L4 : TS := fun D σ H => D.nx σ H
def d9 (t u : TS) : TS := fun D σ H => t { D with nx := u D } σ H
theorem j2 : PSs X [] L4 := fun _ _ σ H _ I h => wpAny_execs_nil ⟨σ, H, I, h⟩
theorem Yn (h1 : PS X st t) (h2 : PSs X rest u) : PSs X (st :: rest) (d9 t u) := by
 intro pins s σ H D I h; refine wpAny_execs_cons (aL (h1 pins s σ H { D with nx := u D } I h) fun f s1 q => ?_)
 cases f with
 | next =>
  obtain ⟨σ', H', I', q⟩ := q; exact h2 pins s1 σ' H' D I' q
 | ret v => exact q
 | brk => exact q
 | cont => exact q
theorem Inv.quiet {pins : List (Addr × Obj)} {σ : St} {H : Hp} {s : Shared} (I : Inv X pins σ H s) : interactive X.env = false := by simp [interactive, I.ok.kind]
def p6 (te : TE) : TS := fun D σ H => te σ H fun _ H1 => D.nx σ H1
theorem Yz (he : PE X e te) (hs : swapsWith e none pos.line X.env = pure false := by rfl) : PS X (.Expr e pos) (p6 te) := by
 intro pins s σ H D I h; exact wpAny_Expr_any (aL (he pins s σ H _ I h) fun v s1 ⟨x, H1, I1, r1, q1⟩ => ⟨σ, H1, I1, q1⟩) I.quiet hs
def V8 (te : TE) : TS := fun D σ H => te σ H D.rt
theorem Xx (he : PE X e te) : PS X (.Return (some e) pos) (V8 te) := by
 intro pins s σ H D I h; exact wpAny_Return_some (aL (he pins s σ H _ I h) fun v s1 ⟨x, H1, I1, r1, q1⟩ => ⟨x, σ, H1, I1, r1, q1⟩)
def P1 (c : TT) (t u : TS) : TS := fun D σ H => c σ H fun b H1 => if b = true then t D σ H1 else u D σ H1
theorem W5 {c : Expr} {a b : List Stmt} {tc : TT} (hc : PT X c tc) (ha : PSs X a t) (hb : PSs X b u) : PS X (.If c a b pos) (P1 tc t u) := by
 intro pins s σ H D I h; refine wpAny_If (aL (hc pins s σ H _ I h) fun d s1 ⟨H1, I1, q1⟩ => ?_)
 cases d with
 | true => exact ha pins s1 σ H1 D I1 q1
 | false => exact hb pins s1 σ H1 D I1 q1
end
abbrev TG := V → St → Hp → (St → Hp → Prop) → Prop
abbrev gQ := List V → St → Hp → (St → Hp → Prop) → Prop
def PG (X : Cx) (target : Expr) (t : TG) : Prop :=
 ∀ (pins : List (Addr × Obj)) (s : Shared) (σ : St) (H : Hp) (v : V) (u : Value) (Q : St → Hp → Prop), Inv X pins σ H s → RelV v u → t v σ H Q →
  wpAny (model X.prog X.w) X.A (assign target X.env u) (fun _ s' => ∃ σ' H', Inv X pins σ' H' s' ∧ Q σ' H') X.xe s
def PGs (X : Cx) (ts : List Expr) (t : gQ) : Prop :=
 ∀ (pins : List (Addr × Obj)) (s : Shared) (σ : St) (H : Hp) (vs : List V) (us : List Value) (Q : St → Hp → Prop), Inv X pins σ H s → Vals vs us → t vs σ H Q →
  wpAny (model X.prog X.w) X.A (assignInOrder ((assignEach ts X.env).map (·.2)) us) (fun _ s' => ∃ σ' H', Inv X pins σ' H' s' ∧ Q σ' H') X.xe s
abbrev TSet := V → V → V → Hp → (Hp → Prop) → Prop
def Ib (X : Cx) (t : TSet) : Prop :=
 ∀ (pins : List (Addr × Obj)) (s : Shared) (σ : St) (H : Hp) (o i v : V) (ov iv u : Value) (Q : Hp → Prop), Inv X pins σ H s → RelV o ov → RelV i iv → RelV v u → t o i v H Q →
  wpAny (model X.prog X.w) X.A (setItem ov iv u) (fun _ s' => ∃ H', Inv X pins σ H' s' ∧ Q H') X.xe s
section
variable {X : Cx} {pos : Pos}
def Lj (i : Nat) : TG := fun v σ H Q => Q (σ.set i (some v)) H
theorem g6 {i : Nat} {x : Str} (hN : X.N.Nodup) (hi : X.N[i]? = some x) (hx : fQ X.env.scope x) (hf : X.fn x = true ∨ X.env.scope.names.lookup x = some .local := by first | exact .inl rfl | exact .inr rfl | assumption) : PG X (.Name x pos) (Lj i) := by
 intro pins s σ H v u Q I r h; exact wpAny_assign_Name (Gr I hN hi hx r (fun s' I' => ⟨_, H, I', h⟩) hf)
def C6 : gQ := fun vs σ H Q => vs = [] ∧ Q σ H
def Q3 (t : TG) (u : gQ) : gQ := fun vs σ H Q => ∃ v r, vs = v :: r ∧ t v σ H fun σ' H' => u r σ' H' Q
theorem Wa : PGs X [] C6 := by
 intro pins s σ H vs us Q I r h; obtain ⟨e, h⟩ := h; subst e
 cases r
 exact assignInOrder_nil ⟨σ, H, I, h⟩
theorem Zt {e : Expr} {es : List Expr} {t : TG} {u : gQ} (h1 : PG X e t) (h2 : PGs X es u)
  (hs : (assignEach (e :: es) X.env).map (·.2) = assign e X.env :: (assignEach es X.env).map (·.2) := by rfl) : PGs X (e :: es) (Q3 t u) := by
 intro pins s σ H vs us Q I r h; obtain ⟨v, vr, e1, h⟩ := h; subst e1
 cases r with
 | cons r rr =>
  rw [hs]; refine assignInOrder_cons (aL (h1 pins s σ H _ _ _ I r h) fun _ s1 ⟨σ1, H1, I1, q1⟩ => ?_); exact h2 pins s1 σ1 H1 _ _ Q I1 rr q1
def Vy (K : PySem.W.Frag) (n : Nat) (t : gQ) : TG := fun v σ H Q => ∃ a xs, v = .ref a ∧ SqT K H a xs ∧ xs.length = n ∧ t xs σ H Q
theorem G6 {es : List Expr} {k : Nat} {t : gQ} {n : Nat} (hc : X.calm = true) (h : PGs X es t)
  (hn : (assignEach es X.env).length = n := by rfl) (hst : (assignEach es X.env).findIdx? (·.1) = none := by rfl) : PG X (.Tuple es k pos) (Vy X.K n t) := by
 intro pins s σ H v u Q I r hw; obtain ⟨a, xs, e1, hq, hl, hw⟩ := hw; subst e1
 cases r
 obtain ⟨its, rv, ht, hz⟩ := I.tuple hq; refine assign_Tuple_tuple (I.ok.hd hc) ht (by simp [hn, ← hl, rv.length]) hst fun h' hx => ?_
 have I1 : Inv X pins σ H { s with heap := h' } := I.kept (t' := s.toks) fun b o e => hx b o (Nat.ne_of_lt (Heap.lt_size e)) e
 exact h pins _ σ H xs _ Q I1 (by simpa using rv) hw
def U8 (to ti : TE) (t : TSet) : TG := fun v σ H Q => to σ H fun o H1 => ti σ H1 fun i H2 => t o i v H2 fun H3 => Q σ H3
theorem r8 {o i : Expr} {to ti : TE} {t : TSet} (ho : PE X o to) (hi : PE X i ti) (hs : Ib X t)
  (ha : ∀ v, assign (.Subscript o i pos) X.env v = (do
   let ov ← holding [v] (eval o X.env)
   let iv ← holding [v, ov] (eval i X.env)
   standAt pos
   holding [v, ov, iv] (setItem ov iv v)
   release [v, ov, iv] []) := by intro _; rfl) : PG X (.Subscript o i pos) (U8 to ti t) := by
 intro pins s σ H v u Q I r h; rw [ha]; refine wpAny_bind (wpAny_holding (aL (ho pins s σ H _ I h) fun ov s1 ⟨x, H1, I1, r1, q1⟩ => ?_)); refine wpAny_bind (wpAny_holding (aL (hi pins s1 σ H1 _ I1 q1) fun iv s2 ⟨y, H2, I2, r2, q2⟩ => ?_)); refine wpAny_bind (wpAny_standAt (wpAny_bind (wpAny_holding (aL (hs pins s2 σ H2 x y v ov iv u _ I2 r1 r2 r q2) fun _ s3 ⟨H3, I3, q3⟩ => ?_)))); exact wpAny_release ⟨σ, H3, I3, q3⟩
def Lx (te : TE) (g : TG) : TS := fun D σ H => te σ H fun x H1 => g x σ H1 D.nx
theorem Lg {tg e : Expr} {te : TE} {g : TG} (he : PE X e te) (hg : PG X tg g) (hs : swapsWithSole [tg] e pos.line X.env = pure false := by rfl) (hw : swappedStores [tg] e X.env = pure none := by rfl)
  (h1 : (assignEach [tg] X.env).map (·.2) = [assign tg X.env] := by rfl) : PS X (.Assign [tg] e pos) (Lx te g) := by
 intro pins s σ H D I h; refine wpAny_Assign_stores (aL (he pins s σ H _ I h) fun v s1 ⟨x, H1, I1, r1, q1⟩ => ?_) hs hw; rw [h1]; exact aL (hg pins s1 σ H1 x v _ I1 r1 q1) fun _ s2 q => q
theorem J3 {i : Nat} {x : Str} {e : Expr} {te : TE} {pos' : Pos} (hN : X.N.Nodup) (hi : X.N[i]? = some x) (hx : fQ X.env.scope x) (he : PE X e te) (hs : swapsWith e (some (.Name x pos')) pos.line X.env = pure false := by rfl) (hf : X.fn x = true ∨ X.env.scope.names.lookup x = some .local := by first | exact .inl rfl | exact .inr rfl | assumption) :
  PS X (.Assign [.Name x pos'] e pos) (Lx te (Lj i)) := by
 intro pins s σ H D I h; refine wpAny_Assign_Name (aL (he pins s σ H _ I h) fun v s1 ⟨y, H1, I1, r1, q1⟩ => ?_) hs; exact Gr I1 hN hi hx r1 (fun s2 I2 => ⟨_, H1, I2, q1⟩) hf
end
section
variable {X : Cx} {pos : Pos}
def Rx (c : TT) (tb : TS) : TS := fun D σ H => ∃ W : Nat → St → Hp → Prop, (∃ m, W m σ H) ∧ ∀ m σ H, W m σ H →
 c σ H fun b H1 => if b = true then ∃ N : St → Hp → Prop, (∀ σ' H', N σ' H' → ∃ m', m' < m ∧ W m' σ' H') ∧ tb { D with nx := N, ct := N, bk := D.nx } σ H1 else D.nx σ H1
theorem N5 {c : Expr} {body : List Stmt} {tc : TT} {tb : TS} (hp : PassesOwn (model X.prog X.w) X.A X.env X.xe) (hc : PT X c tc) (hb : PSs X body tb) : PS X (.While c body [] pos) (Rx tc tb) := by
 intro pins s σ H D I h; obtain ⟨W, ⟨m0, w0⟩, turn⟩ := h; refine wpAny_While (codeAny_whileLoop (fun n s' => ∃ σ' H', Inv X pins σ' H' s' ∧ W n σ' H') ?_ m0 ⟨σ, H, I, w0⟩); rintro n s1 ⟨σ1, H1, I1, w1⟩; refine wpAny_passesOwn hp (aL (hc pins s1 σ1 H1 _ I1 (turn n σ1 H1 w1)) fun b s2 ⟨H2, I2, q2⟩ => ?_)
 cases b with
 | true =>
  obtain ⟨N, hN, q2⟩ := q2; rw [if_pos rfl]; refine wpAny_passesOwn hp (aL (hb pins s2 σ1 H2 _ I2 q2) fun f s3 q3 => ?_)
  cases f with
  | next =>
   obtain ⟨σ3, H3, I3, n3⟩ := q3; obtain ⟨m', hm, w3⟩ := hN σ3 H3 n3; exact ⟨m', hm, σ3, H3, I3, w3⟩
  | cont =>
   obtain ⟨σ3, H3, I3, n3⟩ := q3; obtain ⟨m', hm, w3⟩ := hN σ3 H3 n3; exact ⟨m', hm, σ3, H3, I3, w3⟩
  | brk => exact q3
  | ret v => exact q3
 | false =>
  rw [if_neg Bool.false_ne_true]; exact wpAny_execs_nil ⟨σ1, H2, I2, q2⟩
end
structure It where
 go : Nat → Hp → Prop
 yld : Nat → Hp → V → Hp → Prop
 stop : Nat → Hp → Prop
def dR (X : Cx) (pins : List (Addr × Obj)) (H : Hp) (b : Addr) : Prop :=
 H b = none ∧ b ≠ X.env.locals ∧ b ∉ X.fs ∧ (b ∈ X.ex ∨ X.s₀.heap.objs.size ≤ b) ∧ (∀ x c, X.env.cells.lookup x = some c → c ≠ b) ∧ ∀ p ∈ X.pn ++ pins, p.1 ≠ b
theorem Inv.fpOk {X : Cx} {pins : List (Addr × Obj)} {σ : St} {H H' : Hp} {s : Shared} {b : Addr} (I : Inv X pins σ H s) (hb : s.heap.objs.size ≤ b) (hn : H' b = none) : dR X pins H' b := by
 refine ⟨hn, Nat.ne_of_gt (Nat.lt_of_lt_of_le I.lt hb), I.nofs hb, .inr (Nat.le_trans I.sz hb), fun x c e z => ?_, fun p hp z => ?_⟩
 ·obtain ⟨v, q⟩ := I.cell x c e; exact absurd (Nat.lt_of_lt_of_le q.lt (by rw [z]; exact hb)) (Nat.lt_irrefl _)
 ·exact absurd (Nat.lt_of_lt_of_le (Heap.lt_size (I.pin p hp).1) (by rw [z]; exact hb)) (Nat.lt_irrefl _)
structure Turn (P : Program) (w : World) (K : PySem.W.Frag) (tg : Expr) (J : It) (fp : List Addr) (it : Addr) (tn : Nat → Heap → Prop) : Prop where
 mem : it ∈ fp
 obj : ∀ i h, tn i h → ∀ b ∈ fp, ∃ o, h.get? b = some o ∧ ∀ v, o.data ≠ .cell v
 keep : ∀ i h h', tn i h → (∀ b ∈ fp, ∀ o, h.get? b = some o → h'.get? b = some o) → tn i h'
 item : ∀ (X : Cx), X.prog = P → X.w = w → X.K = K → X.calm = true → ∀ (i : Nat) (pins : List (Addr × Obj)) (s : Shared) (σ : St) (H : Hp) (E : Value → Shared → Prop), Inv X pins σ H s → (∀ b ∈ fp, dR X pins H b) → tn i s.heap → J.go i H →
  wpAny (model P w) X.A (pyNext (.ref it)) (fun r s1 => ∃ u, r = some u ∧
   wpAny (model P w) X.A (letOwnedTupleGo tg (.ref it) u) (fun _ s2 => ∃ x H', Inv X pins σ H' s2 ∧ RelV x u ∧ J.yld i H x H' ∧ tn (i + 1) s2.heap ∧ ∀ b ∈ fp, H' b = none) E s1) E s
 done : ∀ (X : Cx), X.prog = P → X.w = w → X.K = K → X.calm = true → ∀ (i : Nat) (pins : List (Addr × Obj)) (s : Shared) (σ : St) (H : Hp) (E : Value → Shared → Prop), Inv X pins σ H s → (∀ b ∈ fp, dR X pins H b) → tn i s.heap → J.stop i H →
  wpAny (model P w) X.A (pyNext (.ref it)) (fun r s1 => r = none ∧ Inv X pins σ H s1) E s
 self : ∀ (A : Around) (i : Nat) (s : Shared) (Q : Value → Shared → Prop) (E : Value → Shared → Prop), tn i s.heap → Q (.ref it) s → wpAny (model P w) A (pyIter (.ref it)) Q E s
abbrev TI := St → Hp → (It → Hp → Prop) → Prop
def Jt (X : Cx) (pins : List (Addr × Obj)) (σ : St) (tg : Expr) (R : It → Hp → Prop) (itv : Value) (s2 : Shared) : Prop :=
 ∃ (it : Addr) (fp : List Addr) (tn : Nat → Heap → Prop) (J : It) (H' : Hp), itv = .ref it ∧ Inv X pins σ H' s2 ∧ Turn X.prog X.w X.K tg J fp it tn ∧ tn 0 s2.heap ∧ (∀ b ∈ fp, dR X pins H' b) ∧ R J H'
def PI (X : Cx) (tg iter : Expr) (wi : TI) : Prop :=
 ∀ (pins : List (Addr × Obj)) (s : Shared) (σ : St) (H : Hp) (R : It → Hp → Prop), Inv X pins σ H s → wi σ H R →
  wpAny (model X.prog X.w) X.A (eval iter X.env) (fun v s1 => wpAny (model X.prog X.w) X.A (pyIter v) (Jt X pins σ tg R) X.xe s1) X.xe s
theorem wJ {M : Model} {A : Around} {E : Value → Shared → Prop} {s : Shared} {tg : Expr} {it : Addr} {u : Value} {o : Obj} {n : String} {vs : Array Value} {Q : Unit → Shared → Prop} (ho : s.heap.get? it = some o) (hc : o.cls = .type n) (hd : o.data = .fields vs)
  (hn : ["enumerate", "zip", "dict_itemiterator", "dict_reverseitemiterator", "odict_iterator", "itertools.zip_longest", "itertools.pairwise"].contains n = false) (hQ : Q () s) : wpAny M A (letOwnedTupleGo tg (.ref it) u) Q E s := by
 unfold letOwnedTupleGo
 cases tg <;> first
  | exact wpAny_pure hQ
  | (cases u <;> first
    | exact wpAny_pure hQ
    | (refine wpAny_bind (wpAny_load ho ?_)
       rw [hc, hd]; show wpAny M A (if (["enumerate", "zip", "dict_itemiterator", "dict_reverseitemiterator", "odict_iterator", "itertools.zip_longest", "itertools.pairwise"].contains n && vs[0]? == some (rawInt _)) = true then _ else _) Q E s
       rw [if_neg (by intro h; rw [hn, Bool.false_and] at h; cases h)]
       exact wpAny_pure hQ))
def rP (K : PySem.W.Frag) (a : Addr) : It :=
 ⟨fun i H => ∃ xs x, SqL K H a xs ∧ xs[i]? = some x, fun i H x H' => H' = H ∧ ∀ xs, SqL K H a xs → xs[i]? = some x, fun i H => ∃ xs, SqL K H a xs ∧ xs.length ≤ i⟩
def xR (K : PySem.W.Frag) (a : Addr) : It :=
 ⟨fun i H => ∃ xs x, SqT K H a xs ∧ xs[i]? = some x, fun i H x H' => H' = H ∧ ∀ xs, SqT K H a xs → xs[i]? = some x, fun i H => ∃ xs, SqT K H a xs ∧ xs.length ≤ i⟩
def Ap (lo : Int) (n : Nat) : It := ⟨fun i _ => i < n, fun i H x H' => H' = H ∧ x = .int (lo + i), fun i _ => n ≤ i⟩
theorem N8 {P : Program} {w : World} {K : PySem.W.Frag} {tg : Expr} (a it : Addr) : Turn P w K tg (rP K a) [it] it (fun i h => h.IsListIter it a i) where
 mem := by simp
 obj := fun i h st b hb => by
  have e : b = it := by simpa using hb
  subst e; obtain ⟨o, e, c, d⟩ := st; exact ⟨o, e, fun v z => by rw [d] at z; cases z⟩
 keep := fun i h h' st k => st.at fun o e => k it (by simp) o e
 item := by
  intro X hP hw hK hc i pins s σ H E I hf st hg; subst hP hw hK; obtain ⟨xs, x, hq, hx⟩ := hg; obtain ⟨its, rv, p, hz⟩ := I.list hq; obtain ⟨u, hu, ru⟩ := rv.get hx; obtain ⟨f0, f1, f2, f3, f4, f5⟩ := hf it (by simp)
  refine wpAny_pyNext_list_item st p.isList (x := u) (by simpa using hu) fun h' st' sb => ?_
  have I1 : Inv X pins σ H { s with heap := h' } := I.turned (t' := s.toks) (fun b o hb e => (sb.2 b hb).trans e) f0 f1 f3 f4 f5
  obtain ⟨o, e, c, d⟩ := id st'; exact ⟨u, rfl, wJ (s := { s with heap := h' }) e c d (by decide) ⟨x, H, I1, ru, ⟨rfl, fun ys hy => by rw [I.list_inj hy hq]; exact hx⟩, st', fun b hb => (hf b hb).1⟩⟩
 done := by
  intro X hP hw hK hc i pins s σ H E I hf st hg; subst hP hw hK; obtain ⟨xs, hq, hx⟩ := hg; obtain ⟨its, rv, p, hz⟩ := I.list hq; obtain ⟨f0, f1, f2, f3, f4, f5⟩ := hf it (by simp)
  have hl := rv.length
  exact wpAny_pyNext_list_end (I.ok.hd hc) st p.isList (by simp; omega) fun h' eb => ⟨rfl, I.turned (t' := s.toks) (fun b o hb e => eb b o hb e) f0 f1 f3 f4 f5⟩
 self := fun _ _ _ _ _ st h => wpAny_pyIter_listiter st h
theorem Rs {P : Program} {w : World} {K : PySem.W.Frag} {tg : Expr} (a it : Addr) : Turn P w K tg (xR K a) [it] it (fun i h => h.IsTupleIter it a i) where
 mem := by simp
 obj := fun i h st b hb => by
  have e : b = it := by simpa using hb
  subst e; obtain ⟨o, e, c, d⟩ := st; exact ⟨o, e, fun v z => by rw [d] at z; cases z⟩
 keep := fun i h h' st k => st.at fun o e => k it (by simp) o e
 item := by
  intro X hP hw hK hc i pins s σ H E I hf st hg; subst hP hw hK; obtain ⟨xs, x, hq, hx⟩ := hg; obtain ⟨its, rv, p, hz⟩ := I.tuple hq; obtain ⟨u, hu, ru⟩ := rv.get hx; obtain ⟨f0, f1, f2, f3, f4, f5⟩ := hf it (by simp)
  refine wpAny_pyNext_tuple_item st (show s.heap.IsTuple a its.toArray from p) (x := u) (by simpa using hu) fun h' st' sb => ?_
  have I1 : Inv X pins σ H { s with heap := h' } := I.turned (t' := s.toks) (fun b o hb e => (sb.2 b hb).trans e) f0 f1 f3 f4 f5
  obtain ⟨o, e, c, d⟩ := id st'; exact ⟨u, rfl, wJ (s := { s with heap := h' }) e c d (by decide) ⟨x, H, I1, ru, ⟨rfl, fun ys hy => by rw [I.tuple_inj hy hq]; exact hx⟩, st', fun b hb => (hf b hb).1⟩⟩
 done := by
  intro X hP hw hK hc i pins s σ H E I hf st hg; subst hP hw hK; obtain ⟨xs, hq, hx⟩ := hg; obtain ⟨its, rv, p, hz⟩ := I.tuple hq; obtain ⟨f0, f1, f2, f3, f4, f5⟩ := hf it (by simp)
  have hl := rv.length
  exact wpAny_pyNext_tuple_end (I.ok.hd hc) st (show s.heap.IsTuple a its.toArray from p) (by simp; omega) fun h' eb => ⟨rfl, I.turned (t' := s.toks) (fun b o hb e => eb b o hb e) f0 f1 f3 f4 f5⟩
 self := fun _ _ _ _ _ st h => wpAny_pyIter_tupleiter st h
theorem Ym {P : Program} {w : World} {K : PySem.W.Frag} {tg : Expr} (it : Addr) (lo : Int) (n : Nat) : Turn P w K tg (Ap lo n) [it] it (fun i h => IsRangeIter h it (lo + (i : Nat) * 1) ((n : Int) - (i : Nat)) 1) where
 mem := by simp
 obj := fun i h st b hb => by
  have e : b = it := by simpa using hb
  subst e; exact ⟨_, st, fun v z => by
   have z' : Data.fields _ = Data.cell v := z
   cases z'⟩
 keep := fun i h h' st k => k it (by simp) _ st
 item := by
  intro X hP hw hK hc i pins s σ H E I hf st hg; subst hP hw hK; obtain ⟨f0, f1, f2, f3, f4, f5⟩ := hf it (by simp)
  have W := Walks.range (prog := X.prog) (w := X.w) (I.ok.hd hc) it lo 1 n
  refine W.item i s _ _ hg st fun v h' tk hv st' kk => ?_; obtain ⟨t, rfl⟩ := hv; have I1 : Inv X pins σ H { s with heap := h', toks := tk } := I.turned (fun b o hb e => kk b o (by simpa using hb) e) f0 f1 f3 f4 f5
  refine ⟨_, rfl, wJ (s := { s with heap := h', toks := tk }) (n := "range_iterator") st' rfl rfl (by decide) ⟨.int (lo + i), H, I1, ⟨t, ?_⟩, ⟨rfl, rfl⟩, st', fun b hb => (hf b hb).1⟩⟩
  rw [Int.mul_one]
 done := by
  intro X hP hw hK hc i pins s σ H E I hf st hg; subst hP hw hK; obtain ⟨f0, f1, f2, f3, f4, f5⟩ := hf it (by simp)
  exact wpAny_pyNext_range_end (I.ok.hd hc) st (by have : n ≤ i := hg; omega) fun h' eb => ⟨rfl, I.turned (t' := s.toks) (fun b o hb e => eb b o hb e) f0 f1 f3 f4 f5⟩
 self := fun _ _ _ _ _ st h => wpAny_pyIter_rangeiter st h
end L2
namespace L2
open PySem PySem.Spec PyProof.Rows
section
variable {X : Cx} {tg : Expr}
theorem Vg {pins : List (Addr × Obj)} {σ : St} {H : Hp} {s : Shared} {R : It → Hp → Prop} {E : Value → Shared → Prop} {lo hi : Int} {t u v : Tok} {tk : Nat} (I : Inv X pins σ H s) (h1 : -(2 ^ 62) ≤ lo) (h2 : lo < 2 ^ 62) (h3 : -(2 ^ 62) ≤ hi) (h4 : hi < 2 ^ 62)
  (q : R (Ap lo (hi - lo).toNat) H) : wpAny (model X.prog X.w) X.A (pyIter (.ref s.heap.objs.size)) (Jt X pins σ tg R) E { s with heap := s.heap.push { cls := .type "range", data := .fields #[.int lo t, .int hi u, .int 1 v] }, toks := tk } := by
 refine wpAny_pyIter_range (IsRange.new ..) (small_one h1 h2 h3 h4) ?_; have I1 : Inv X pins σ H { s with heap := s.heap.push { cls := .type "range", data := .fields #[.int lo t, .int hi u, .int 1 v] }, toks := tk } := I.kept fun b o e => Heap.get?_push_of_some _ e
 refine ⟨(s.heap.push { cls := .type "range", data := .fields #[.int lo t, .int hi u, .int 1 v] }).objs.size, [(s.heap.push { cls := .type "range", data := .fields #[.int lo t, .int hi u, .int 1 v] }).objs.size], _, _, H, rfl,
  I1.kept (t' := tk) fun b o e => Heap.get?_push_of_some _ e, Ym _ lo (hi - lo).toNat, ?_, fun b hb => ?_, q⟩
 ·have e1 : lo + ((0 : Nat) : Int) * 1 = lo := by simp
  have e2 : (((hi - lo).toNat : Nat) : Int) - ((0 : Nat) : Int) = Builtin.Range.rangeSize lo hi 1 := by rw [rangeSize_one]; split <;> omega
  show IsRangeIter _ _ (lo + ((0 : Nat) : Int) * 1) ((((hi - lo).toNat : Nat) : Int) - ((0 : Nat) : Int)) 1
  rw [e1, e2]; exact Heap.get?_push_size _ rfl
 ·have e : b = (s.heap.push { cls := .type "range", data := .fields #[.int lo t, .int hi u, .int 1 v] }).objs.size := by simpa using hb
  subst e; exact I1.fpOk (Nat.le_refl _) (I1.hok.fresh (Nat.le_refl _))
def Us (ta : TA) : TI := fun σ H R => ta σ H fun vs H1 => ∃ j : Int, vs = [.int j] ∧ -(2 ^ 62) ≤ j ∧ j < 2 ^ 62 ∧ R (Ap 0 j.toNat) H1
theorem E8 {a : Expr} {ta : TA} {p pos : Pos} (hg : Gl X "range") (hm : X.mg "range" = none) (ha : PA X [a] ta) (hs : starEach [a] X.env = [(false, eval a X.env)] := by rfl) : PI X tg (.Call (.Name "range" p) [a] [] pos) (Us ta) := by
 intro pins s σ H R I h; refine Call_ (lK I hg hm boot_range (PyProof.Rows.callWith_type1 (aL (ha pos pins s σ H _ I h) fun us s1 ⟨vs, H1, I1, r1, q1⟩ => ?_) hs rfl)); obtain ⟨j, e, q1, q2, q⟩ := q1; subst e
 cases r1 with
 | cons r rr =>
  cases rr
  obtain ⟨t, rfl⟩ := r; exact call_range_1 (Vg I1 (by omega) (by omega) q1 q2 (by simpa using q))
def p0 (wi : TI) (g : TG) (tb : TS) : TS := fun D σ H => wi σ H fun J H1 => ∃ W : Nat → Nat → St → Hp → Prop, (∃ m, W 0 m σ H1) ∧ ∀ i m σ H, W i m σ H →
 (J.stop i H ∧ D.nx σ H) ∨ (J.go i H ∧ ∃ N : St → Hp → Prop, (∀ σ' H', N σ' H' → ∃ m', m' < m ∧ W (i + 1) m' σ' H') ∧ ∀ x H', J.yld i H x H' → g x σ H' fun σ2 H2 => tb { D with nx := N, ct := N, bk := D.nx } σ2 H2)
def kF (fp : List Addr) (h : Heap) : List (Addr × Obj) := fp.filterMap fun b => (h.get? b).map fun o => (b, o)
theorem jD {fp : List Addr} {h : Heap} {b : Addr} {o : Obj} (hb : b ∈ fp) (e : h.get? b = some o) : (b, o) ∈ kF fp h := List.mem_filterMap.mpr ⟨b, hb, by rw [e]; rfl⟩
theorem Qy {fp : List Addr} {h : Heap} {p : Addr × Obj} (hp : p ∈ kF fp h) : p.1 ∈ fp ∧ h.get? p.1 = some p.2 := by
 obtain ⟨b, hb, e⟩ := List.mem_filterMap.mp hp
 cases q : h.get? b with
 | none => rw [q] at e; cases e
 | some o =>
  rw [q] at e; have e' : (b, o) = p := Option.some.inj e
  subst e'; exact ⟨hb, q⟩
theorem Inv.pinned {pins : List (Addr × Obj)} {σ : St} {H : Hp} {s : Shared} {fp : List Addr} (I : Inv X pins σ H s) (hf : ∀ b ∈ fp, dR X pins H b) (ho : ∀ b ∈ fp, ∃ o, s.heap.get? b = some o ∧ ∀ v, o.data ≠ .cell v) : Inv X (pins ++ kF fp s.heap) σ H s :=
 I.pins_of fun p hp => (List.mem_append.mp hp).elim (fun z => I.pin p (List.mem_append_right _ z)) fun z => by
  obtain ⟨hb, e⟩ := Qy z; obtain ⟨f0, f1, f2, _⟩ := hf p.1 hb; obtain ⟨o, e', d⟩ := ho p.1 hb; rw [e] at e'; cases e'; exact ⟨e, f0, f1, f2, d⟩
theorem Inv.unpinned {pins pl : List (Addr × Obj)} {σ : St} {H : Hp} {s : Shared} (I : Inv X (pins ++ pl) σ H s) : Inv X pins σ H s := I.pins_of fun p hp => I.pin p (List.mem_append_right _ (List.mem_append_left _ hp))
theorem Wj {iter : Expr} {body : List Stmt} {wi : TI} {g : TG} {tb : TS} {pos : Pos} (hp : PassesOwn (model X.prog X.w) X.A X.env X.xe) (hc : X.calm = true) (hi : PI X tg iter wi) (hg : PG X tg g) (hb : PSs X body tb)
  (hs : ∀ x, foldedSetIterable iter X.env x = pure x := by intro _; rfl) : PS X (.For tg iter body [] pos) (p0 wi g tb) := by
 intro pins s σ H D I h; refine wpAny_For (aL (hi pins s σ H _ I h) fun v s1 h1 => aL h1 fun itv s2 h2 => ?_) hs; obtain ⟨it, fp, tn, J, H2, e, I2, T, st2, f2, W, ⟨m0, w0⟩, turn⟩ := h2; subst e
 -- what stays true of the iterator's objects through the loop
 have stat : ∀ {H' : Hp}, (∀ b ∈ fp, H' b = none) → ∀ b ∈ fp, dR X pins H' b := fun hn b hb => ⟨hn b hb, (f2 b hb).2⟩
 refine codeAny_forLoop_any (fun n s' => ∃ i σ' H', Inv X pins σ' H' s' ∧ tn i s'.heap ∧ (∀ b ∈ fp, H' b = none) ∧ W i n σ' H') ?_ m0 ⟨0, σ, H2, I2, st2, fun b hb => (f2 b hb).1, w0⟩; rintro n s3 ⟨i, σ3, H3, I3, st3, fr3, w3⟩; rcases turn i n σ3 H3 w3 with ⟨stop, qn⟩ | ⟨go, N, hN, step⟩
 ·refine wpAny_passesOwn hp (aL (T.done X rfl rfl rfl hc i pins s3 σ3 H3 X.xe I3 (stat fr3) st3 stop) fun r s4 ⟨hr, I4⟩ => ?_); subst hr; exact wpAny_execs_nil ⟨σ3, H3, I4, qn⟩
 ·refine wpAny_passesOwn hp (aL (T.item X rfl rfl rfl hc i pins s3 σ3 H3 X.xe I3 (stat fr3) st3 go) fun r s4 ⟨u, hr, h4⟩ => ?_); subst hr; refine wpAny_passesOwn hp (aL h4 fun _ s5 ⟨x, H5, I5, r5, y5, st5, fr5⟩ => ?_); have I5' := I5.pinned (stat fr5) (T.obj _ _ st5)
  refine wpAny_passesOwn hp (aL (hg _ s5 σ3 H5 x u _ I5' r5 (step x H5 y5)) fun _ s6 ⟨σ6, H6, I6, q6⟩ => ?_); refine wpAny_passesOwn hp (aL (hb _ s6 σ6 H6 _ I6 q6) fun f s7 q7 => ?_); have again : ∀ {σ7 : St} {H7 : Hp}, Inv X (pins ++ kF fp s5.heap) σ7 H7 s7 → N σ7 H7 → ∃ m, m < n ∧ ∃ i σ' H', Inv X pins σ' H' s7 ∧ tn i s7.heap ∧ (∀ b ∈ fp, H' b = none) ∧ W i m σ' H' := fun {σ7 H7} I7 n7 => by
   obtain ⟨m', hm, w7⟩ := hN σ7 H7 n7; refine ⟨m', hm, i + 1, σ7, H7, I7.unpinned, T.keep _ _ _ st5 fun b hb o e => (I7.pin (b, o) (List.mem_append_right _ (List.mem_append_right _ (jD hb e)))).1, fun b hb => ?_, w7⟩; obtain ⟨o, e, d⟩ := T.obj _ _ st5 b hb; exact (I7.pin (b, o) (List.mem_append_right _ (List.mem_append_right _ (jD hb e)))).2.1
  cases f with
  | next => obtain ⟨σ7, H7, I7, n7⟩ := q7; exact again I7 n7
  | cont => obtain ⟨σ7, H7, I7, n7⟩ := q7; exact again I7 n7
  | brk => obtain ⟨σ7, H7, I7, q7⟩ := q7; exact ⟨σ7, H7, I7.unpinned, q7⟩
  | ret v => obtain ⟨x7, σ7, H7, I7, r7, q7⟩ := q7; exact ⟨x7, σ7, H7, I7.unpinned, r7, q7⟩
end
end L2
namespace L2
open PySem PySem.Spec PyProof.Rows
abbrev R2 := V → V → Hp → VK → Prop
def OpR (X : Cx) (f : Value → Value → Sem Value) (r : R2) : Prop :=
 ∀ (pins : List (Addr × Obj)) (s : Shared) (σ : St) (H : Hp) (x y : V) (v u : Value) (Q : VK), Inv X pins σ H s → RelV x v → RelV y u → r x y H Q →
  wpAny (model X.prog X.w) X.A (f v u) (EP X pins σ Q) X.xe s
def Cl (X : Cx) (f : Value → Sem Value) (r : V → Hp → VK → Prop) : Prop :=
 ∀ (pins : List (Addr × Obj)) (s : Shared) (σ : St) (H : Hp) (x : V) (v : Value) (Q : VK), Inv X pins σ H s → RelV x v → r x H Q →
  wpAny (model X.prog X.w) X.A (f v) (EP X pins σ Q) X.xe s
def CallR (X : Cx) (f : Value) (r : List V → Hp → VK → Prop) : Prop :=
 ∀ (pins : List (Addr × Obj)) (s : Shared) (σ : St) (H : Hp) (xs : List V) (us : List Value) (Q : VK), Inv X pins σ H s → Vals xs us → r xs H Q →
  wpAny (model X.prog X.w) X.A (call f us) (EP X pins σ Q) X.xe s
def K6 (r : R2) (ta tb : TE) : TE := fun σ H Q => ta σ H fun x H1 => tb σ H1 fun y H2 => r x y H2 Q
def U2 (r : V → Hp → VK → Prop) (ta : TE) : TE := fun σ H Q => ta σ H fun x H1 => r x H1 Q
def rI (C : Int → Int → Prop) (g : Int → Int → V) : R2 := fun x y H Q => ∃ i j, x = .int i ∧ y = .int j ∧ C i j ∧ Q (g i j) H
def oC (g : Int → Int → V) : R2 := fun x y H Q => ∃ i j, x = .int i ∧ y = .int j ∧ Q (g i j) H
def rU (g : Int → V) : V → Hp → VK → Prop := fun x H Q => ∃ i, x = .int i ∧ Q (g i) H
section
variable {X : Cx} {a b c : Expr} {ta tb tc : TE} {pos : Pos}
theorem Jh (ha : PE X a ta) (hb : PE X b tb) {pins : List (Addr × Obj)} {s : Shared} {σ : St} {H : Hp} {R : V → V → Hp → Prop} (I : Inv X pins σ H s)
  (h : ta σ H fun x H1 => tb σ H1 fun y H2 => R x y H2) {Q : Value → Shared → Prop} {f : Value → Value → Sem Value}
  (hf : ∀ v u s2 x y H2, Inv X pins σ H2 s2 → RelV x v → RelV y u → R x y H2 → wpAny (model X.prog X.w) X.A (f v u) Q X.xe s2) :
  wpAny (model X.prog X.w) X.A (eval a X.env) (fun v s₁ => wpAny (model X.prog X.w) X.A (eval b X.env) (fun u s₂ => wpAny (model X.prog X.w) X.A (f v u) Q X.xe s₂) X.xe s₁) X.xe s := by
 refine aL (ha pins s σ H _ I h) fun v s1 ⟨x, H1, I1, r1, q1⟩ => ?_; refine aL (hb pins s1 σ H1 _ I1 q1) fun u s2 ⟨y, H2, I2, r2, q2⟩ => ?_; exact hf v u s2 x y H2 I2 r1 r2 q2
theorem Vc {op : UnaryOp} {r : V → Hp → VK → Prop} (ho : Cl X (unaryOp op) r) (ha : PE X a ta) : PE X (.UnaryOp op a pos) (U2 r ta) := by
 intro pins s σ H Q I h; exact UnaryOp_ (aL (ha pins s σ H _ I h) fun v s1 ⟨x, H1, I1, r1, q1⟩ => ho pins s1 σ H1 x v Q I1 r1 q1)
theorem Hb {f : Value → Value → Sem Value} {C : Int → Int → Prop} {g : Int → Int → Int}
  (rule : ∀ (i j : Int) (t u : Tok) (s : Shared) (Q : Value → Shared → Prop) (E : Value → Shared → Prop), C i j → Q (.int (g i j) s.toks) { s with toks := s.toks + 1 } → wpAny (model X.prog X.w) X.A (f (.int i t) (.int j u)) Q E s) :
  OpR X f (rI C fun i j => .int (g i j)) := by
 intro pins s σ H x y v u Q I rx ry h; obtain ⟨i, j, rfl, rfl, hc, q⟩ := h; obtain ⟨t, rfl⟩ := rx; obtain ⟨t', rfl⟩ := ry; exact rule i j t t' s _ _ hc ⟨.int (g i j), H, I.tok _, ⟨_, rfl⟩, q⟩
theorem Nb {f : Value → Value → Sem Value} {g : Int → Int → Int}
  (rule : ∀ (i j : Int) (t u : Tok) (s : Shared) (Q : Value → Shared → Prop) (E : Value → Shared → Prop), Q (.int (g i j) s.toks) { s with toks := s.toks + 1 } → wpAny (model X.prog X.w) X.A (f (.int i t) (.int j u)) Q E s) :
  OpR X f (oC fun i j => .int (g i j)) := by
 intro pins s σ H x y v u Q I rx ry h; obtain ⟨i, j, rfl, rfl, q⟩ := h; obtain ⟨t, rfl⟩ := rx; obtain ⟨t', rfl⟩ := ry; exact rule i j t t' s _ _ ⟨.int (g i j), H, I.tok _, ⟨_, rfl⟩, q⟩
theorem Nd {f : Value → Value → Sem Value} {g : Int → Int → Bool}
  (rule : ∀ (i j : Int) (t u : Tok) (s : Shared) (Q : Value → Shared → Prop) (E : Value → Shared → Prop), Q (.bool (g i j)) s → wpAny (model X.prog X.w) X.A (f (.int i t) (.int j u)) Q E s) :
  OpR X f (oC fun i j => .bl (g i j)) := by
 intro pins s σ H x y v u Q I rx ry h; obtain ⟨i, j, rfl, rfl, q⟩ := h; obtain ⟨t, rfl⟩ := rx; obtain ⟨t', rfl⟩ := ry; exact rule i j t t' s _ _ ⟨.bl (g i j), H, I, rfl, q⟩
def Ow (i j : Int) : Prop := 0 ≤ j ∧ j ≤ 1000000 ∧ i.natAbs < 2 ^ 64
def CMul (i j : Int) : Prop := (-(2 ^ 64) < i ∧ i < 2 ^ 64) ∨ (-(2 ^ 64) < j ∧ j < 2 ^ 64)
theorem CMul.ok {i j : Int} (h : CMul i j) : IntMulOk i j := by
 rcases h with ⟨h1, h2⟩ | ⟨h1, h2⟩
 ·exact .of_left (intBits_le_64 h1 h2)
 ·exact .of_right (intBits_le_64 h1 h2)
theorem Sb : OpR X (binaryOp .Add) (oC fun i j => .int (i + j)) := Nb fun _ _ _ _ _ _ _ q => add_int q
theorem N9 : OpR X (binaryOp .Sub) (oC fun i j => .int (i - j)) := Nb fun _ _ _ _ _ _ _ q => sub_int q
theorem Xc : OpR X (binaryOp .Mod) (rI (fun _ j => j ≠ 0) fun i j => .int (i.fmod j)) := Hb fun _ _ _ _ _ _ _ hc q => mod_int' hc q
theorem Uc : OpR X (binaryOp .Pow) (rI Ow fun i j => .int (i ^ j.toNat)) := Hb fun _ _ _ _ _ _ _ hc q => pow_int_small hc.1 hc.2.1 hc.2.2 q
theorem Zl {f : Value → Sem Value} {g : Int → Int}
  (rule : ∀ (i : Int) (t : Tok) (s : Shared) (Q : Value → Shared → Prop) (E : Value → Shared → Prop), Q (.int (g i) s.toks) { s with toks := s.toks + 1 } → wpAny (model X.prog X.w) X.A (f (.int i t)) Q E s) :
  Cl X f (rU fun i => .int (g i)) := by
 intro pins s σ H x v Q I rx h; obtain ⟨i, rfl, q⟩ := h; obtain ⟨t, rfl⟩ := rx; exact rule i t s _ _ ⟨.int (g i), H, I.tok _, ⟨_, rfl⟩, q⟩
theorem K1 : Cl X (unaryOp .USub) (rU fun i => .int (-i)) := Zl fun _ _ _ _ _ q => neg_int q
end
def Jg : V → V → Bool
 | .non, .non => true | .non, .int _ => true | .int _, .non => true | .non, .bl _ => true | .bl _, .non => true | .non, .str _ => true | .str _, .non => true
 | .int _, .int _ => true | .bl _, .bl _ => true | .str _, .str _ => true | .byt _, .byt _ => true
 | .int _, .str _ => true | .str _, .int _ => true | .bl _, .str _ => true | .str _, .bl _ => true
 | _, _ => false
def Q1 : R2 := fun x y H Q => Jg x y = true ∧ Q (.bl (decide (x = y))) H
def Y3 : R2 := fun x y H Q => Jg x y = true ∧ Q (.bl (!decide (x = y))) H
theorem Kw {i j : Int} : decide (V.int i = V.int j) = (i == j) := by
 rw [Bool.eq_iff_iff]; simp
theorem Jd {i j : Bool} : decide (V.bl i = V.bl j) = (i == j) := by
 rw [Bool.eq_iff_iff]; simp
theorem Jw {i j : Str} : decide (V.str i = V.str j) = (i == j) := by
 rw [Bool.eq_iff_iff]; simp
theorem Kh {i j : Array UInt8} : decide (V.byt i = V.byt j) = (i.toList == j.toList) := by
 rw [Bool.eq_iff_iff]
 cases i
 cases j
 simp
section
variable {X : Cx} {a b c : Expr} {ta tb tc : TE} {pos : Pos}
theorem bX {pins : List (Addr × Obj)} {σ : St} {H : Hp} {s : Shared} {Q : VK} {k k' : Bool} (I : Inv X pins σ H s) (q : Q (.bl k) H) (e : k = k') : EP X pins σ Q (.bool k') s := by
 subst e; exact ⟨.bl k, H, I, rfl, q⟩
theorem B9 : OpR X (compareOp .Eq) Q1 := by
 intro pins s σ H x y v u Q I rx ry h; obtain ⟨hs, q⟩ := h
 cases x with
 | non =>
  cases rx
  cases y with
  | non => cases ry; exact PySem.EqNone.eq_none_none (bX I q (by simp))
  | bl j => cases ry; exact PySem.EqNone.eq_none_bool (bX I q (by simp))
  | int j => obtain ⟨t', rfl⟩ := ry; exact PySem.EqNone.eq_none_int (bX I q (by simp))
  | str j => obtain ⟨t', rfl⟩ := ry; exact PySem.EqNone.eq_none_str (bX I q (by simp))
  | _ => exact absurd (show false = true from hs) Bool.false_ne_true
 | bl i =>
  cases rx
  cases y with
  | non => cases ry; exact PySem.EqNone.eq_bool_none (bX I q (by simp))
  | bl j => cases ry; exact eq_bool (bX I q Jd)
  | str j => obtain ⟨t', rfl⟩ := ry; exact PySem.EqMixed.eq_bool_str (bX I q (by simp))
  | _ => exact absurd (show false = true from hs) Bool.false_ne_true
 | int i =>
  obtain ⟨t, rfl⟩ := rx
  cases y with
  | non => cases ry; exact PySem.EqNone.eq_int_none (bX I q (by simp))
  | int j => obtain ⟨t', rfl⟩ := ry; exact eq_int (bX I q Kw)
  | str j => obtain ⟨t', rfl⟩ := ry; exact PySem.EqMixed.eq_int_str (bX I q (by simp))
  | _ => exact absurd (show false = true from hs) Bool.false_ne_true
 | str i =>
  obtain ⟨t, rfl⟩ := rx
  cases y with
  | non => cases ry; exact PySem.EqNone.eq_str_none (bX I q (by simp))
  | bl j => cases ry; exact PySem.EqMixed.eq_str_bool (bX I q (by simp))
  | int j => obtain ⟨t', rfl⟩ := ry; exact PySem.EqMixed.eq_str_int (bX I q (by simp))
  | str j => obtain ⟨t', rfl⟩ := ry; exact eq_str (bX I q Jw)
  | _ => exact absurd (show false = true from hs) Bool.false_ne_true
 | byt i =>
  obtain ⟨t, rfl⟩ := rx
  cases y with
  | byt j => obtain ⟨t', rfl⟩ := ry; exact PySem.W.eq_bytes (bX I q Kh)
  | _ => exact absurd (show false = true from hs) Bool.false_ne_true
 | _ => cases y <;> exact absurd (show false = true from hs) Bool.false_ne_true
theorem Oj : OpR X (compareOp .NotEq) Y3 := by
 intro pins s σ H x y v u Q I rx ry h; obtain ⟨hs, q⟩ := h
 cases x with
 | non =>
  cases rx
  cases y with
  | non => cases ry; exact PySem.EqNone.ne_none_none (bX I q (by simp))
  | bl j => cases ry; exact PySem.EqNone.ne_none_bool (bX I q (by simp))
  | int j => obtain ⟨t', rfl⟩ := ry; exact PySem.EqNone.ne_none_int (bX I q (by simp))
  | str j => obtain ⟨t', rfl⟩ := ry; exact PySem.EqNone.ne_none_str (bX I q (by simp))
  | _ => exact absurd (show false = true from hs) Bool.false_ne_true
 | bl i =>
  cases rx
  cases y with
  | non => cases ry; exact PySem.EqNone.ne_bool_none (bX I q (by simp))
  | bl j => cases ry; exact ne_bool (bX I q (congrArg not Jd))
  | str j => obtain ⟨t', rfl⟩ := ry; exact PySem.EqMixed.ne_bool_str (bX I q (by simp))
  | _ => exact absurd (show false = true from hs) Bool.false_ne_true
 | int i =>
  obtain ⟨t, rfl⟩ := rx
  cases y with
  | non => cases ry; exact PySem.EqNone.ne_int_none (bX I q (by simp))
  | int j => obtain ⟨t', rfl⟩ := ry; exact ne_int (bX I q (congrArg not Kw))
  | str j => obtain ⟨t', rfl⟩ := ry; exact PySem.EqMixed.ne_int_str (bX I q (by simp))
  | _ => exact absurd (show false = true from hs) Bool.false_ne_true
 | str i =>
  obtain ⟨t, rfl⟩ := rx
  cases y with
  | non => cases ry; exact PySem.EqNone.ne_str_none (bX I q (by simp))
  | bl j => cases ry; exact PySem.EqMixed.ne_str_bool (bX I q (by simp))
  | int j => obtain ⟨t', rfl⟩ := ry; exact PySem.EqMixed.ne_str_int (bX I q (by simp))
  | str j => obtain ⟨t', rfl⟩ := ry; exact ne_str (bX I q (congrArg not Jw))
  | _ => exact absurd (show false = true from hs) Bool.false_ne_true
 | byt i =>
  obtain ⟨t, rfl⟩ := rx
  cases y with
  | byt j => obtain ⟨t', rfl⟩ := ry; exact PySem.W.ne_bytes (bX I q (congrArg not Kh))
  | _ => exact absurd (show false = true from hs) Bool.false_ne_true
 | _ => cases y <;> exact absurd (show false = true from hs) Bool.false_ne_true
theorem Pq : OpR X (compareOp .Lt) (oC fun i j => .bl (decide (i < j))) := Nd fun _ _ _ _ _ _ _ q => lt_int q
theorem G8 : OpR X (compareOp .Gt) (oC fun i j => .bl (decide (j < i))) := Nd fun _ _ _ _ _ _ _ q => gt_int q
theorem Up : OpR X (compareOp .IsNot) (fun x y H Q => y = .non ∧ Q (.bl (!decide (x = .non))) H) := by
 intro pins s σ H x y v u Q I rx ry h; obtain ⟨rfl, q⟩ := h
 cases ry
 refine isnot_none_gen (bX I q ?_)
 cases x <;> first
  | (cases rx; rfl)
  | (obtain ⟨t, rfl⟩ := rx; rfl)
theorem OpR.or {f : Value → Value → Sem Value} {r r' : R2} (h : OpR X f r) (h' : OpR X f r') : OpR X f (fun x y H Q => r x y H Q ∨ r' x y H Q) := by
 intro pins s σ H x y v u Q I rx ry q; rcases q with q | q
 ·exact h pins s σ H x y v u Q I rx ry q
 ·exact h' pins s σ H x y v u Q I rx ry q
theorem uL (b : Expr) {op : CmpOp} (h : op ≠ .In := by decide) (h2 : op ≠ .NotIn := by decide) : behindInMarks op b = false := by
 have e1 : (op == CmpOp.In) = false := by cases op <;> first | rfl | exact absurd rfl h
 have e2 : (op == CmpOp.NotIn) = false := by cases op <;> first | rfl | exact absurd rfl h2
 cases b <;> simp [behindInMarks, e1, e2]
theorem iU : (sizeLine : Nat) < 2 ^ 63 := by rw [sizeLine_eq]; decide
theorem Uw : OpR X (binaryOp .Add) (fun x y H Q => ∃ i j, x = .str i ∧ y = .str j ∧ i.length + j.length ≤ sizeLine ∧ Q (.str (i ++ j)) H) := by
 intro pins s σ H x y v u Q I rx ry h; obtain ⟨i, j, rfl, rfl, hz, q⟩ := h; obtain ⟨t, rfl⟩ := rx; obtain ⟨t', rfl⟩ := ry; exact add_str (fun t' tk => ⟨.str (i ++ j), H, I.tok _, ⟨_, rfl⟩, q⟩) hz
theorem iL {x : V} {us : List Value} (r : Vals [x] us) : ∃ u, us = [u] ∧ RelV x u := by
 cases r with
 | cons r1 r2 => cases r2; exact ⟨_, rfl, r1⟩
theorem vR {x y : V} {us : List Value} (r : Vals [x, y] us) : ∃ u w', us = [u, w'] ∧ RelV x u ∧ RelV y w' := by
 cases r with
 | cons r1 r2 =>
  cases r2 with
  | cons r3 r4 => cases r4; exact ⟨_, _, rfl, r1, r3⟩
theorem Ud : CallR X (.builtin "abs") (fun xs H Q => ∃ i, xs = [.int i] ∧ Q (.int (if i < 0 then -i else i)) H) := by
 intro pins s σ H xs us Q I r h; obtain ⟨i, rfl, q⟩ := h; obtain ⟨u, rfl, t, rfl⟩ := iL r; exact call_abs_int fun u tk => ⟨.int (if i < 0 then -i else i), H, I.tok _, ⟨_, rfl⟩, q⟩
theorem Tv (hc : X.calm = true) : CallR X (.builtin "max") (fun xs H Q => ∃ i j, xs = [.int i, .int j] ∧ Q (.int (if j > i then j else i)) H) := by
 intro pins s σ H xs us Q I r h; obtain ⟨i, j, rfl, q⟩ := h; obtain ⟨u, w', rfl, ⟨t, rfl⟩, ⟨t', rfl⟩⟩ := vR r; refine max_two_ints (I.ok.hd hc) fun h' tk k => ⟨_, H, I.kept k, ?_, q⟩
 by_cases hj : j > i
 ·rw [if_pos hj, if_pos hj]; exact ⟨_, rfl⟩
 ·rw [if_neg hj, if_neg hj]; exact ⟨_, rfl⟩
theorem Jz : CallR X (.type "int") (fun xs H Q => (∃ i, xs = [.int i] ∧ Q (.int i) H) ∨ ∃ k, xs = [.bl k] ∧ Q (.int (if k then 1 else 0)) H) := by
 intro pins s σ H xs us Q I r h; rcases h with ⟨i, rfl, q⟩ | ⟨k, rfl, q⟩
 ·obtain ⟨u, rfl, t, rfl⟩ := iL r; exact call_int_int ⟨.int i, H, I, ⟨_, rfl⟩, q⟩
 ·obtain ⟨u, rfl, r1⟩ := iL r
  cases r1
  exact call_int_bool ⟨.int (if k then 1 else 0), H, I.tok _, ⟨_, rfl⟩, q⟩
end
end L2
namespace L2
open PySem PySem.Spec PyProof.Rows
structure ObjM (h : Heap) (x dx C : Addr) (mA : Str → Option Value) : Prop where
 obj : h.get? x = some (PySem.W.instObj C dx)
 ns : h.Ns1 dx mA
 ne : dx ≠ x
theorem Sr {h : Heap} {dx : Addr} {mA : Str → Option Value} (n : h.Ns1 dx mA) : ∃ od, h.get? dx = some od ∧ ∀ name, PySem.W.lookIn name od = some (mA name) := by
 obtain ⟨o, es, ep, ho, hd, hk, _, hm⟩ := n; refine ⟨o, ho, fun name => ?_⟩; have e := hm name
 unfold nsFind findBy at e; rw [← Array.find?_toList] at e; unfold PySem.W.lookIn; rw [hd]; dsimp only
 split
 ·rename_i y q; rw [q] at e; exact congrArg some e
 ·rename_i q; rw [q] at e; have a : es.toList.any (·.refKey) = false := by
   rw [List.any_eq_false]; intro y hy; obtain ⟨z, t, hkey⟩ := hk y (Array.mem_toList_iff.mp hy); simp [DictEntry.refKey, hkey]
  have a' : ¬ es.toList.any (·.refKey) = true := by rw [a]; exact Bool.false_ne_true
  rw [if_neg a']; exact congrArg some e
theorem ObjM.look {h : Heap} {x dx C : Addr} {mA : Str → Option Value} (I : ObjM h x dx C mA) : ∃ od, PySem.W.InstAt h x (PySem.W.instObj C dx) C (some od) ∧ ∀ name, PySem.W.lookIn name od = some (mA name) :=
 let ⟨od, ho, hl⟩ := Sr I.ns
 ⟨od, ⟨I.obj, rfl, rfl, ho⟩, hl⟩
section
variable {prog : Program} {w : World} {A : Around} {E : Value → Shared → Prop} {s : Shared} {K : PySem.W.Frag} {x dx C f : Addr} {mA : Str → Option Value} {name : Str} {v : Value}
theorem sC {expr : Bool} {Q : Value → Shared → Prop} (X : K.In s.heap) (I : ObjM s.heap x dx C mA) (hg : PySem.W.plainGet K C name = true) (hh : PySem.W.hasDictIn K C = true)
  (ha : PySem.W.findIn K (.ref C) name = some none) (hv : mA name = some v) (hv' : PySem.W.handedIn v = true) (h : Q v { s with toks := s.toks + 1 }) :
  wpAny (model prog w) A (getAttr (.ref x) name expr) Q E s := by
 obtain ⟨od, J, hl⟩ := I.look; exact PySem.W.get_value X J (PySem.W.plainGet_of hg).1 (PySem.W.findObj_own hh ha rfl (by rw [hl, hv])) hv' h
theorem Zb {pl : Sem Bool} {Q : Value × List Value → Shared → Prop} (X : K.In s.heap) (I : ObjM s.heap x dx C mA) (hg : PySem.W.plainGet K C name = true)
  (hf : PySem.W.findIn K (.ref C) name = some (some (.ref f))) (ht : PySem.W.isFn K (.ref f) = true) (hv : mA name = none) (h : Q (.ref f, [.ref x]) s) :
  wpAny (model prog w) A (getMethod (.ref x) name pl) Q E s := by
 obtain ⟨od, J, hl⟩ := I.look; exact PySem.W.method_fn X J (PySem.W.plainGet_of hg).1 (PySem.W.plainGet_of hg).2 hf (beq_iff_eq.mp ht) (by show (PySem.W.lookIn name od).map (·.isSome) = some false; rw [hl, hv]; rfl) h
theorem Xq {ns : List Str} {Q : Unit → Shared → Prop} (X : K.In s.heap) (I : ObjM s.heap x dx C mA)
  (hs : PySem.W.findIn K (.ref C) "__setattr__" = some (some (.builtin "object.__setattr__"))) (hp : PySem.W.plainOver K C = true) (ht : PySem.W.takerIn K C name = some none) (hh : PySem.W.hasDictIn K C = true)
  (hw : PySem.Within mA ns) (hsz : ns.length ≤ sizeLine)
  (h : ∀ h', ObjM h' x dx C (fun y => if y = name then some v else mA y) → Heap.SameBut dx s.heap h' → Q () { s with heap := h', toks := s.toks + 2 }) :
  wpAny (model prog w) A (setAttr (.ref x) name v) Q E s := by
 obtain ⟨od, J, hl⟩ := I.look; refine PySem.W.set_plain X J hs (PySem.W.osa_open (s := { s with toks := s.toks + 1 }) (r := none) X J hp ht fun b => ?_); obtain ⟨cd, hc, hd'⟩ := PySem.W.any_some hh; have hx : s.heap.get? x = some ⟨.ref C, some dx, .plain, #[]⟩ := I.obj
 refine wpAny_bind (wpAny_pure (wpAny_bind (wpAny_bind (wpAny_loadPart hx (wpAny_bind (PySem.W.Looks.here (s := { s with toks := s.toks + 1 }) (PySem.W.looks_clsIn X hc) ?_)))))); rw [hd']; refine wpAny_pure (a := some dx) (wpAny_bind (wpAny_pure (wpAny_bind ?_))); refine wpAny_nsSet1 (s := { s with toks := s.toks + 1 }) I.ns fun h' hn2 hs2 => ?_; obtain ⟨oD, esD, epD, hoD, hdD, hcD⟩ := hn2.count (PySem.Within.cons name v hw); refine wpAny_bind (wpAny_lookBehind hoD (by rw [hdD]; exact pastItsLine_dict (Nat.le_trans hcD (by rw [List.length_cons]; omega))) ?_)
 exact wpAny_pure (h _ ⟨(hs2.2 _ (Ne.symm I.ne)).trans I.obj, hn2, I.ne⟩ hs2)
theorem Pw {R : Result → Shared → Prop} {vs : List Value} {kw : List (Str × Value)} (X : K.In s.heap) (hm : PySem.W.makesIn K C = true)
  (hi : PySem.W.findIn K (.ref C) "__init__" = some (some (.ref f))) (hf : PySem.W.typeIn K (.ref f) = some (.type "function"))
  (h : codeAny (model prog w) (A.under (.builtin "type.__call__" ⟨.ref C :: vs, kw⟩)) (.call (.ref f) ⟨.ref (s.heap.objs.size + 1) :: vs, kw⟩) (PySem.W.InitBack (s.heap.objs.size + 1) R)
   { s with heap := (s.heap.push PySem.W.emptyDict).push (PySem.W.instObj C s.heap.objs.size) }) :
  codeAny (model prog w) A (.call (.ref C) ⟨vs, kw⟩) R s := by
 obtain ⟨hh, g, d, t, os⟩ := s; exact PySem.W.make_core (PySem.W.makes_of X hm) (PySem.W.looks_findIn X hi) (fun self => PySem.W.bind_fn X self hf) (.inl rfl) h
end
def dI (f : Str) (v : V) : List (Str × V) → List (Str × V)
 | [] => [(f, v)]
 | (g, x) :: r => if g = f then (g, v) :: r else (g, x) :: dI f v r
theorem Ex (f g : Str) (v : V) : ∀ fs : List (Str × V), (dI f v fs).lookup g = if g = f then some v else fs.lookup g
 | [] => by
  show List.lookup g [(f, v)] = _
  by_cases h : g = f
  ·have hb : (g == f) = true := beq_iff_eq.mpr h
   simp only [List.lookup, hb, if_pos h]
  ·have hb : (g == f) = false := beq_eq_false_iff_ne.mpr h
   simp only [List.lookup, hb, if_neg h]
 | (k, x) :: r => by
  have ih := Ex f g v r
  rw [show dI f v ((k, x) :: r) = (if k = f then (k, v) :: r else (k, x) :: dI f v r) from rfl]
  by_cases hk : k = f
  ·rw [if_pos hk]
   by_cases h : g = k
   ·have hb : (g == k) = true := beq_iff_eq.mpr h
    simp only [List.lookup, hb, if_pos (h.trans hk)]
   ·have hb : (g == k) = false := beq_eq_false_iff_ne.mpr h
    simp only [List.lookup, hb, if_neg (fun e : g = f => h (e.trans hk.symm))]
  ·rw [if_neg hk]
   by_cases h : g = k
   ·have hb : (g == k) = true := beq_iff_eq.mpr h
    simp only [List.lookup, hb, if_neg (fun e : g = f => hk (h.symm.trans e))]
   ·have hb : (g == k) = false := beq_eq_false_iff_ne.mpr h
    simp only [List.lookup, hb]; exact ih
theorem Ba (f : Str) (v : V) : ∀ fs : List (Str × V), f ∈ (dI f v fs).map (·.1) ∧ ∀ g, g ∈ fs.map (·.1) → g ∈ (dI f v fs).map (·.1)
 | [] => ⟨by simp [dI], fun g h => by simp at h⟩
 | (k, x) :: r => by
  obtain ⟨i1, i2⟩ := Ba f v r; rw [show dI f v ((k, x) :: r) = (if k = f then (k, v) :: r else (k, x) :: dI f v r) from rfl]
  by_cases hk : k = f
  ·rw [if_pos hk]; subst hk; exact ⟨by simp, fun g h => by simpa using h⟩
  ·rw [if_neg hk]; refine ⟨?_, fun g h => ?_⟩
   ·rw [List.map_cons]; exact List.mem_cons_of_mem _ i1
   ·rw [List.map_cons] at h ⊢; rcases List.mem_cons.mp h with e | e
    ·exact List.mem_cons.mpr (.inl e)
    ·exact List.mem_cons_of_mem _ (i2 g e)
theorem Nw (f : Str) (v : V) : ∀ fs : List (Str × V), (dI f v fs).length ≤ fs.length + 1
 | [] => by simp [dI]
 | (k, x) :: r => by
  have ih := Nw f v r
  rw [show dI f v ((k, x) :: r) = (if k = f then (k, v) :: r else (k, x) :: dI f v r) from rfl]
  by_cases hk : k = f
  ·rw [if_pos hk, List.length_cons, List.length_cons]; omega
  ·rw [if_neg hk, List.length_cons, List.length_cons]; omega
theorem RelO.some_of {v : V} {o : Option Value} (r : RelO (some v) o) : ∃ u, o = some u ∧ RelV v u := by
 cases o with
 | none => exact (show False from r).elim
 | some u => exact ⟨u, rfl, r⟩
theorem RelO.none_of {o : Option Value} (r : RelO none o) : o = none := by
 cases o with
 | none => rfl
 | some u => exact (show False from r).elim
theorem Ox {v : V} {u : Value} (r : RelV v u) : PySem.W.handedIn u = true := by
 cases v with
 | non => cases (show u = Value.none from r); rfl
 | bl b => cases (show u = Value.bool b from r); rfl
 | int i => obtain ⟨t, e⟩ := (show ∃ t, u = Value.int i t from r); cases e; rfl
 | str x => obtain ⟨t, e⟩ := (show ∃ t, u = Value.str x t from r); cases e; rfl
 | byt b => obtain ⟨t, e⟩ := (show ∃ t, u = Value.bytes b t from r); cases e; rfl
 | flt b => obtain ⟨t, e⟩ := (show ∃ t, u = Value.float b t from r); cases e; rfl
 | ref a => cases (show u = Value.ref a from r); rfl
 | ty n => cases (show u = Value.type n from r); rfl
section
variable {P : Program} {w : World} {H H' : Hp} {h h' : Heap} {a C dx : Addr} {fs fs' : List (Str × V)}
theorem Am (hok : HOk P w H h) (e : H a = some (.ins C dx fs)) : ∃ mA, ObjM h a dx C mA ∧ (∀ f, RelO (fs.lookup f) (mA f)) ∧ PySem.Within mA (fs.map (·.1)) ∧ fs.length ≤ 1000 ∧ H dx = some (.own a) := by
 obtain ⟨d, z, ne, ob, mA, n, r, q⟩ := (show ObjOk P w H h a (.ins C dx fs) from hok a _ e)
 exact ⟨mA, ⟨ob, n, ne⟩, r, q, z, d⟩
end
structure Cls (K : PySem.W.Frag) (C : Addr) : Prop where
 pg : PySem.W.plainGet K C Str.empty = true
 hd : PySem.W.hasDictIn K C = true
 po : PySem.W.plainOver K C = true
 sa : PySem.W.findIn K (.ref C) "__setattr__" = some (some (.builtin "object.__setattr__"))
theorem Cls.get {K : PySem.W.Frag} {C : Addr} (c : Cls K C) (f : Str) : PySem.W.plainGet K C f = true := c.pg
def NoAttr (K : PySem.W.Frag) (C : Addr) (f : Str) : Prop := PySem.W.findIn K (.ref C) f = some none
theorem NoAttr.taker {K : PySem.W.Frag} {C : Addr} {f : Str} (n : NoAttr K C f) : PySem.W.takerIn K C f = some none := by
 unfold PySem.W.takerIn; rw [show PySem.W.findIn K (.ref C) f = some none from n]
 rfl
structure Meth (K : PySem.W.Frag) (C : Addr) (m : Str) (f : Addr) : Prop where
 at_ : PySem.W.findIn K (.ref C) m = some (some (.ref f))
 fn : PySem.W.isFn K (.ref f) = true
 kp : PySem.W.keepIn K (.ref f) = true
section
variable {X : Cx} {pins : List (Addr × Obj)} {σ : St} {H : Hp} {s : Shared} {a C dx : Addr} {fs : List (Str × V)} {f : Str} {v : V} {A : Around} {E : Value → Shared → Prop}
theorem Y9 {b : Bool} {Q : Value → Shared → Prop} (I : Inv X pins σ H s) (e : H a = some (.ins C dx fs)) (c : Cls X.K C) (n : NoAttr X.K C f) (l : fs.lookup f = some v)
  (h : ∀ u s', Inv X pins σ H s' → RelV v u → Q u s') : wpAny (model X.prog X.w) A (getAttr (.ref a) f b) Q E s := by
 obtain ⟨mA, O, r, _, _, _⟩ := Am I.hok e; obtain ⟨u, hu, ru⟩ := RelO.some_of (v := v) (o := mA f) (by rw [← l]; exact r f)
 exact sC I.kIn O (c.get f) c.hd n hu (Ox ru) (h u _ (I.tok _) ru)
theorem u9 {m : Str} {g : Addr} {pl : Sem Bool} {Q : Value × List Value → Shared → Prop} (I : Inv X pins σ H s) (e : H a = some (.ins C dx fs)) (c : Cls X.K C) (k : Meth X.K C m g) (l : fs.lookup m = none)
  (h : Q (.ref g, [.ref a]) s) : wpAny (model X.prog X.w) A (getMethod (.ref a) m pl) Q E s := by
 obtain ⟨mA, O, r, _, _, _⟩ := Am I.hok e; have hn : mA m = none := RelO.none_of (by rw [← l]; exact r m)
 exact Zb I.kIn O (c.get m) k.at_ k.fn hn h
theorem U6 {y : V} {u : Value} {Q : Unit → Shared → Prop} (I : Inv X pins σ H s) (e : H a = some (.ins C dx fs)) (c : Cls X.K C) (n : NoAttr X.K C f) (hl : fs.length < 1000) (ry : RelV y u)
  (h : ∀ s', Inv X pins σ (aN H a (.ins C dx (dI f y fs))) s' → Q () s') : wpAny (model X.prog X.w) A (setAttr (.ref a) f u) Q E s := by
 obtain ⟨mA, O, r, wi, _, ho⟩ := Am I.hok e; have hz : (fs.map (·.1)).length ≤ sizeLine := by rw [List.length_map, sizeLine_eq]; omega
 refine Xq I.kIn O c.sa c.po n.taker c.hd wi hz fun h' O' sb => h _ ?_; have hd : ∃ o, h'.get? dx = some o := let ⟨o, _, _, e', _⟩ := O'.ns; ⟨o, e'⟩
 refine I.write (x := a) (e := dx) (by rw [e]; exact True.intro) (.inr ho) (fun b q hb z => (sb.2 b hb).trans z) hd ?_
 refine ⟨by rw [bG O.ne]; exact ho, ?_, O.ne, O'.obj, _, O'.ns, fun g => ?_, fun g hg => ?_⟩
 ·have := Nw f y fs; omega
 ·show RelO ((dI f y fs).lookup g) (if g = f then some u else mA g)
  rw [Ex]
  by_cases q : g = f
  ·rw [if_pos q, if_pos q]; exact ry
  ·rw [if_neg q, if_neg q]; exact r g
 ·by_cases q : g = f
  ·rw [q]; exact (Ba f y fs).1
  ·refine (Ba f y fs).2 g (wi g fun z => hg ?_); show (if g = f then some u else mA g) = none
   rw [if_neg q]; exact z
theorem Inv.made (I : Inv X pins σ H s) : Inv X pins σ (aN (aN H s.heap.objs.size (.own (s.heap.objs.size + 1))) (s.heap.objs.size + 1) (.ins C s.heap.objs.size []))
  { s with heap := (s.heap.push PySem.W.emptyDict).push (PySem.W.instObj C s.heap.objs.size) } := by
 have e1 : (s.heap.push PySem.W.emptyDict).get? s.heap.objs.size = some PySem.W.emptyDict := Heap.get?_push_size s.heap rfl
 have e2 : ((s.heap.push PySem.W.emptyDict).push (PySem.W.instObj C s.heap.objs.size)).get? (s.heap.objs.size + 1) = some (PySem.W.instObj C s.heap.objs.size) := by
  have := Heap.get?_push_size (s.heap.push PySem.W.emptyDict) (o := PySem.W.instObj C s.heap.objs.size) rfl
  rwa [Heap.size_push] at this
 have e3 : (s.heap.push PySem.W.emptyDict).Ns s.heap.objs.size (fun _ => none) := ⟨PySem.W.emptyDict, #[], _, e1, rfl, (fun e he => absurd he (by simp)), fun _ => rfl⟩
 have I1 := I.laid (a := s.heap.objs.size) (o := .own (s.heap.objs.size + 1)) (h' := s.heap.push PySem.W.emptyDict) (t' := s.toks) (fun b u q => Heap.get?_push_of_some _ q) (Nat.le_refl _) ⟨_, e1⟩
 refine I1.laid (a := s.heap.objs.size + 1) (o := .ins C s.heap.objs.size []) (t' := s.toks) (fun b u q => Heap.get?_push_of_some _ q) (Nat.le_of_eq (Heap.size_push _ _)) ?_; have ne : s.heap.objs.size ≠ s.heap.objs.size + 1 := Nat.ne_of_lt (Nat.lt_succ_self _)
 refine ⟨by rw [bG ne, cZ], Nat.zero_le _, ne, e2, fun _ => none, (Heap.Ns1.of_empty e3).at fun o q => Heap.get?_push_of_some _ q, fun _ => True.intro, fun y hy => absurd rfl hy⟩
theorem Zw {prog : Program} {w : World} {env : Env} {e : Expr} {f : Str} {pos : Pos} {s : Shared} {Q : Value → Shared → Prop} (hb : attributeBase e f env (eval e env) = eval e env)
  (h : wpAny (model prog w) A (eval e env) (fun o s₁ => wpAny (model prog w) A (getAttr o f true) Q E s₁) E s) : wpAny (model prog w) A (eval (.Attribute e f pos) env) Q E s :=
 Attribute_any_ h (by rw [arm_eval_Attribute, hb])
end
def X3 (K : PySem.W.Frag) (ta : TE) (f : Str) : TE := fun σ H Q => ta σ H fun x H1 => ∃ a C dx fs v, x = .ref a ∧ H1 a = some (.ins C dx fs) ∧ Cls K C ∧ NoAttr K C f ∧ fs.lookup f = some v ∧ Q v H1
def Zh (K : PySem.W.Frag) (ta tv : TE) (f : Str) : TS := fun D σ H => tv σ H fun y H1 => ta σ H1 fun x H2 => ∃ a C dx fs, x = .ref a ∧ H2 a = some (.ins C dx fs) ∧ Cls K C ∧ NoAttr K C f ∧ fs.length < 1000 ∧
 D.nx σ (aN H2 a (.ins C dx (dI f y fs)))
section
variable {X : Cx} {o e value : Expr} {f : Str} {pos pos' tpos : Pos} {ta tv : TE}
theorem Tq (he : PE X e ta) (hb : attributeBase e f X.env (eval e X.env) = eval e X.env) : PE X (.Attribute e f pos) (X3 X.K ta f) := by
 intro pins s σ H Q I h; refine Zw hb (aL (he pins s σ H _ I h) fun u s1 ⟨x, H1, I1, rx, a, C, dx, fs, v, ex, ea, c, n, l, q⟩ => ?_); subst ex; obtain rfl : u = Value.ref a := rx; exact Y9 I1 ea c n l fun u' s2 I2 ru => ⟨v, H1, I2, ru, q⟩
theorem Ur (ha : PE X o ta) (hv : PE X value tv) (hs : swapsWith value (some (.Attribute o f pos')) pos.line X.env = pure false) : PS X (.Assign [.Attribute o f pos'] value pos) (Zh X.K ta tv f) := by
 intro pins s σ H D I h; refine plainObj_wpAny_Assign_Attribute (aL (hv pins s σ H _ I h) fun u s1 ⟨y, H1, I1, ry, q⟩ => aL (ha pins s1 σ H1 _ I1 q) fun ov s2 ⟨x, H2, I2, rx, a, C, dx, fs, ex, ea, c, n, l, q2⟩ => ?_) hs; subst ex; obtain rfl : ov = Value.ref a := rx; exact U6 I2 ea c n l ry fun s3 I3 => ⟨σ, _, I3, q2⟩
end
end L2
namespace L2
open PySem PySem.Spec PyProof.Rows
structure Room (k : Nat) (A : Around) : Prop where
 hd : A.handled = none
 gd : A.guards = some []
 dp : A.depth + 3 * k + 5 < recursionLimit
 un : A.units + 16 * k + 200 < cLine
theorem Room.mono {j k : Nat} {A : Around} (r : Room k A) (h : j ≤ k) : Room j A := ⟨r.hd, r.gd, by have := r.dp; omega, by have := r.un; omega⟩
theorem Room.deeper {k : Nat} {A : Around} (r : Room (k + 1) A) (env : Env) : Room k (A.deeper env) :=
 ⟨r.hd, r.gd, by have := r.dp; show A.depth + 1 + 3 * k + 5 < _; omega, by have := r.un; show A.units + 3 + 16 * k + 200 < _; omega⟩
theorem Room.in1 {k : Nat} {A : Around} (r : Room (k + 1) A) : Room k A.in1 :=
 ⟨r.hd, r.gd, by have := r.dp; show A.depth + 3 * k + 5 < _; omega, by have := r.un; show A.units + 1 + 16 * k + 200 < _; omega⟩
theorem Xi {A : Around} {C : Addr} {us : List Value} {kw : List (Str × Value)} : (A.under (.builtin "type.__call__" ⟨.ref C :: us, kw⟩)).depth = A.depth + 1 := by
 first | rfl | simp [Around.under, Code.weight, Code.isCreation, Code.isGuard, Code.isCaller, Code.frames, Code.isFrame, guardIds]
theorem Vf {A : Around} {C : Addr} {us : List Value} {kw : List (Str × Value)} : (A.under (.builtin "type.__call__" ⟨.ref C :: us, kw⟩)).units = A.units + 1 := by
 first | rfl | simp [Around.under, Code.cUnits, Code.frames, Code.isFrame]
theorem Room.make {k : Nat} {A : Around} (r : Room (k + 1) A) (C : Addr) (us : List Value) (kw : List (Str × Value)) : Room k (A.under (.builtin "type.__call__" ⟨.ref C :: us, kw⟩)) :=
 ⟨r.hd, (by first | exact r.gd | (simpa [Around.under, Code.isGuard, guardIds] using r.gd)), by have := r.dp; rw [Xi]; omega, by have := r.un; rw [Vf]; omega⟩
theorem Room.depth {k : Nat} {A : Around} (r : Room k A) : A.depth < recursionLimit := by have := r.dp; omega
theorem Room.units {k : Nat} {A : Around} (r : Room k A) : A.units + 64 < cLine := by have := r.un; omega
def J8 : TA := fun _ H Q => Q [] H
def Oi (ta : TE) (tr : TA) : TA := fun σ H Q => ta σ H fun x H1 => tr σ H1 fun xs H2 => Q (x :: xs) H2
section
variable {X : Cx} {e : Expr} {es : List Expr} {te : TE} {t : TA} {pos : Pos}
theorem pR : PA X [] J8 := fun _ _ _ _ H Q I h => Calls.spliced_nil ⟨[], H, I, .nil, h⟩
theorem kU (ha : PE X e te) (hr : PA X es t) (hs : starEach (e :: es) X.env = (false, eval e X.env) :: starEach es X.env := by rfl) : PA X (e :: es) (Oi te t) := by
 intro pos pins s σ H Q I h; rw [hs]; show wpAny _ _ (spliced ((false, eval e X.env) :: backTo pos (starEach es X.env))) _ _ s
 refine Calls.spliced_cons (aL (ha pins s σ H _ I h) fun u s1 ⟨x, H1, I1, r1, q1⟩ => ?_); exact aL (hr pos pins s1 σ H1 _ I1 q1) fun us s2 ⟨xs, H2, I2, r2, q2⟩ => ⟨x :: xs, H2, I2, .cons r1 r2, q2⟩
def J4 (t : TA) : TE := fun σ H Q => t σ H fun xs H1 => xs.length ≤ sizeLine ∧ ∀ p, H1 p = none → Q (.ref p) (aN H1 p (.tup xs))
theorem Yt {x1} (h : PA X es t) : PE X (.Tuple es x1 pos) (J4 t) := by
 intro pins s σ H Q I hq; refine wpAny_Tuple_spliced (aL (h pos pins s σ H _ I hq) fun us s1 ⟨xs, H1, I1, r, z, q⟩ => ⟨by rw [← r.length]; exact z, ?_⟩)
 have hf : H1 s1.heap.objs.size = none := I1.hok.fresh (Nat.le_refl _)
 refine ⟨.ref s1.heap.objs.size, aN H1 s1.heap.objs.size (.tup xs), I1.laid (t' := s1.toks) (fun b u e => Heap.get?_push_of_some _ e) (Nat.le_refl _) ?_, rfl, q _ hf⟩; exact ⟨⟨z, NoD.new _ _ _⟩, us, r, ⟨_, Heap.get?_push_size _ rfl, rfl, _, rfl⟩⟩
end
abbrev Sp := List V → Hp → VK → XK → Prop
abbrev fB := List Env → Hp → Shared → XK → Value → Shared → Prop
structure Env0 (P : Program) (w : World) (K : PySem.W.Frag) (mg : Str → Option Value) (base : Heap) (A : Around) (outer : List Env) (s : Shared) (H : Hp) : Prop where
 frames : A.frames = some outer
 mod : Mod K mg base
 bs : ∀ b o, base.get? b = some o → s.heap.get? b = some o ∧ H b = none
 bsz : base.objs.size ≤ s.heap.objs.size
 funs : s.heap.FunFrames base outer
 frf : ∀ b ∈ eU outer, H b = none
 hok : HOk P w H s.heap
 bare : AllBare s.gens
def CE (outer : List Env) (P : Program) (w : World) (H : Hp) (s : Shared) (Q : VK) (u : Value) (s' : Shared) : Prop :=
 ∃ v H', s'.os = s.os ∧ AllBare s'.gens ∧ Un (eU outer) [] H H' s.heap s'.heap ∧ HOk P w H' s'.heap ∧ RelV v u ∧ Q v H'
def CR (CX : fB) (outer : List Env) (P : Program) (w : World) (H : Hp) (s : Shared) (Q : VK) (E : XK) (r : Result) (s' : Shared) : Prop :=
 match r with
 | .ok (.ret u) => CE outer P w H s Q u s'
 | .ok _ => False
 | .error e => CX outer H s E e s'
structure FnOk (P : Program) (w : World) (K : PySem.W.Frag) (mg : Str → Option Value) (base : Heap) (CX : fB) (k : Nat) (f : Addr) (fd : FuncData) (ps : List Str) (sp : Sp) : Prop where
 len : ∀ vs H Q E, sp vs H Q E → vs.length = ps.length
 run : ∀ (A : Around) (outer : List Env) (s : Shared) (H : Hp) (args : Args) (us : List Value) (vs : List V) (Q : VK) (E : XK), Room k A → Env0 P w K mg base A outer s H → BindsTo s fd args (ps.zip us) → Vals vs us → sp vs H Q E →
  codeAny (model P w) A (.call (.ref f) args) (CR CX outer P w H s Q E) s
theorem FnOk.mono {P : Program} {w : World} {K : PySem.W.Frag} {mg : Str → Option Value} {base : Heap} {CX : fB} {j k : Nat} {f : Addr} {fd : FuncData} {ps : List Str} {sp : Sp} (F : FnOk P w K mg base CX j f fd ps sp) (h : j ≤ k) :
  FnOk P w K mg base CX k f fd ps sp := ⟨F.len, fun A outer s H args us vs Q E hr => F.run A outer s H args us vs Q E (hr.mono h)⟩
theorem FnOk.imp {P : Program} {w : World} {K : PySem.W.Frag} {mg : Str → Option Value} {base : Heap} {CX : fB} {k : Nat} {f : Addr} {fd : FuncData} {ps : List Str} {sp sp' : Sp} (F : FnOk P w K mg base CX k f fd ps sp)
  (h : ∀ vs H Q E, sp' vs H Q E → sp vs H Q E) : FnOk P w K mg base CX k f fd ps sp' :=
 ⟨fun vs H Q E q => F.len vs H Q E (h _ _ _ _ q), fun A outer s H args us vs Q E hr he hb hv hs => F.run A outer s H args us vs Q E hr he hb hv (h _ _ _ _ hs)⟩
theorem Env0.make {P : Program} {w : World} {K : PySem.W.Frag} {mg : Str → Option Value} {base : Heap} {A : Around} {outer : List Env} {s : Shared} {H : Hp} (e : Env0 P w K mg base A outer s H) (C : Addr) (us : List Value) (kw : List (Str × Value)) :
  Env0 P w K mg base (A.under (.builtin "type.__call__" ⟨.ref C :: us, kw⟩)) outer s H := ⟨by first | exact e.frames | (simpa [Around.under, Code.envs, Code.isFrame, pushEnvs] using e.frames), e.mod, e.bs, e.bsz, e.funs, e.frf, e.hok, e.bare⟩
theorem Env0.in1 {P : Program} {w : World} {K : PySem.W.Frag} {mg : Str → Option Value} {base : Heap} {A : Around} {outer : List Env} {s : Shared} {H : Hp} (e : Env0 P w K mg base A outer s H) :
  Env0 P w K mg base A.in1 outer s H := ⟨e.frames, e.mod, e.bs, e.bsz, e.funs, e.frf, e.hok, e.bare⟩
section
variable {X : Cx} {pins : List (Addr × Obj)} {σ : St} {H : Hp} {s s' : Shared}
theorem Inv.env0 (I : Inv X pins σ H s) : Env0 X.prog X.w X.K X.mg X.base X.A X.stack s H :=
 ⟨I.ok.frames, I.ok.mod, I.bs, Nat.le_trans I.ok.bsz I.sz, I.stack, I.stkFree, I.hok, I.bare⟩
theorem Inv.after {Q : VK} {u : Value} (I : Inv X pins σ H s) (h : CE X.stack X.prog X.w H s Q u s') : EP X pins σ Q u s' := by
 obtain ⟨v, H', os, bare, un, hok, r, q⟩ := h; obtain ⟨hh, g, d, t, os'⟩ := s'; obtain rfl : os' = s.os := os; exact ⟨v, H', I.call (h' := hh) (g' := g) (d' := d) (t' := t) (ch := []) un hok bare (fun b z => absurd z (by simp)), r, q⟩
end
def Ug (sp : Sp) (dvs : List V) (E : XK) (t : TA) : TE := fun σ H Q => t σ H fun vs H1 => sp (vs ++ dvs) H1 Q E
def Qa (C : Addr) (m : Str) (sp : Sp) (dvs : List V) (E : XK) (ta : TE) (t : TA) : TE := fun σ H Q => ta σ H fun x H1 => ∃ a dx fs, x = .ref a ∧ H1 a = some (.ins C dx fs) ∧ fs.lookup m = none ∧
 t σ H1 fun vs H2 => sp (x :: (vs ++ dvs)) H2 Q E
def Binds (K : PySem.W.Frag) (fd : FuncData) (ps : List Str) (ds : List Value) : Prop :=
 ∀ (s : Shared) (us : List Value), K.In s.heap → (us ++ ds).length = ps.length → BindsTo s fd ⟨us, []⟩ (ps.zip (us ++ ds))
theorem Binds.all {K : PySem.W.Frag} {fd : FuncData} {ps : List Str} (h : ∀ us : List Value, us.length = ps.length → bindArgs fd ⟨us, []⟩ = pure (ps.zip us)) : Binds K fd ps [] := fun s us _ hl => by
 rw [List.append_nil] at hl ⊢; exact .of_eq (h us hl)
def tE (CX : fB) (X : Cx) (E : XK) : Prop := ∀ (pins : List (Addr × Obj)) (σ : St) (H : Hp) (s : Shared) (e : Value) (s' : Shared), Inv X pins σ H s → CX X.stack H s E e s' → X.xe e s'
section
variable {X : Cx} {CX : fB} {k : Nat} {f C : Addr} {fd : FuncData} {ps : List Str} {sp : Sp} {dvs : List V} {ds : List Value} {E : XK} {x m : Str} {p pos apos : Pos} {e o : Expr} {es : List Expr} {ta : TE} {t : TA}
theorem Iw {pins : List (Addr × Obj)} {σ : St} {H : Hp} {s : Shared} {Q : VK} {us : List Value} {vs : List V} (F : FnOk X.prog X.w X.K X.mg X.base CX k f fd ps sp) (hr : Room k X.A) (hb : Binds X.K fd ps ds) (hd : Vals dvs ds) (hx : tE CX X E)
  (I : Inv X pins σ H s) (r : Vals vs us) (h : sp (vs ++ dvs) H Q E) : wpAny (model X.prog X.w) X.A (call (.ref f) us) (EP X pins σ Q) X.xe s := by
 have r2 : Vals (vs ++ dvs) (us ++ ds) := r.append hd
 have hl : (us ++ ds).length = ps.length := by rw [← r2.length]; exact F.len _ _ _ _ h
 refine wpAny_call (codeAny_mono (F.run X.A X.stack s H ⟨us, []⟩ (us ++ ds) (vs ++ dvs) Q E hr I.env0 (hb s us I.kIn hl) r2 h) fun r s' hq => ?_)
 cases r with
 | error e => exact hx pins σ H s e s' I hq
 | ok fl =>
  cases fl with
  | ret u => exact I.after hq
  | next => exact False.elim hq
  | brk => exact False.elim hq
  | cont => exact False.elim hq
theorem A5 (F : FnOk X.prog X.w X.K X.mg X.base CX k f fd ps sp) (hr : Room k X.A) (hg : Gl X x) (hm : X.mg x = some (.ref f)) (hk : PySem.W.keepIn X.K (.ref f) = true) (hb : Binds X.K fd ps ds) (hd : Vals dvs ds) (hx : tE CX X E)
  (ha : PA X (e :: es) t) (hdb : (x == ("__debug__" : Str)) = false := by decide) (he : starEach (e :: es) X.env = (false, eval e X.env) :: starEach es X.env := by rfl) (hpl : (backTo pos (starEach es X.env)).any (·.1) = false := by rfl) :
  PE X (.Call (.Name x p) (e :: es) [] pos) (Ug sp dvs E t) := by
 intro pins s σ H Q I h; refine wpAny_Call_Name_kw (Ak I hg hm ?_ hdb); refine PySem.W.callWith_K (h₀ := X.base) I.ok.mod.kin hk (aL (ha pos pins s σ H _ I h) fun us s1 ⟨vs, H1, I1, r, q⟩ => ⟨I1.kIn, ?_⟩) he hpl; exact Iw F hr hb hd hx I1 r q
theorem M0 {pl : Sem Bool} (he : PE X o ta) (c : Cls X.K C) (hm : Meth X.K C m f) (F : FnOk X.prog X.w X.K X.mg X.base CX k f fd ps sp) (hr : Room k X.A) (hb : Binds X.K fd ps ds) (hd : Vals dvs ds) (hx : tE CX X E) (ha : PA X (e :: es) t)
  (hst : starEach (e :: es) X.env = (false, eval e X.env) :: starEach es X.env := by rfl) (hpl : (backTo pos (starEach es X.env)).any (·.1) = false := by rfl)
  (ht : eval (.Call (.Attribute o m apos) (e :: es) [] pos) X.env = (do
   let ov ← eval o X.env
   standAt apos.atName
   let (f, first) ← holding [ov] (getMethod ov m pl)
   callWith pos f first (backTo pos (starEach (e :: es) X.env)) (backToKw pos (keywordEach [] X.env))) := by rfl) :
  PE X (.Call (.Attribute o m apos) (e :: es) [] pos) (Qa C m sp dvs E ta t) := by
 intro pins s σ H Q I h; refine PySem.W.methodCall_KW (pl := pl) (aL (he pins s σ H _ I h) fun u s1 ⟨x, H1, I1, rx, a, dx, fs, ex, ea, l, q⟩ => ?_) ht; subst ex; obtain rfl : u = Value.ref a := rx; refine u9 I1 ea c hm l ?_; refine PySem.W.callWith_K (first := [.ref a]) (h₀ := X.base) I.ok.mod.kin hm.kp (aL (ha pos pins s1 σ H1 _ I1 q) fun us s2 ⟨vs, H2, I2, r, q2⟩ => ⟨I2.kIn, ?_⟩) hst hpl
 exact Iw (us := .ref a :: us) (vs := .ref a :: vs) F hr hb hd hx I2 (.cons rfl r) q2
structure Mk (K : PySem.W.Frag) (C f : Addr) : Prop where
 makes : PySem.W.makesIn K C = true
 init : PySem.W.findIn K (.ref C) "__init__" = some (some (.ref f))
 fn : PySem.W.isFn K (.ref f) = true
 kp : PySem.W.keepIn K (.ref C) = true
end
structure FnScope (N P : List Str) (sc : Scope) : Prop where
 kind : sc.kind = .function
 co : sc.isCoroutine = false
 gen : sc.isGenerator = false
 nd : N.Nodup
 pre : N.take P.length = P
 par : ∀ x ∈ P, sc.names.lookup x = some .local ∨ sc.names.lookup x = some .cell
 nofree : ∀ y ∈ sc.names, y.2 ≠ .free
theorem Nx {kindOf : Str → Option NameKind} {x : Str} : ∀ {binds : List (Str × Value)} {m : Str → Option Value}, (∀ v, (x, v) ∉ binds) → bindL kindOf binds m x = m x
 | [], _, _ => rfl
 | (n, v) :: r, m, h => by
  unfold bindL; rw [Nx fun w hw => h w (List.mem_cons_of_mem _ hw)]
  split
  ·have : x ≠ n := by rintro rfl; exact h v List.mem_cons_self
   simp [this]
  ·rfl
theorem Je {kindOf : Str → Option NameKind} {x : Str} : ∀ {binds : List (Str × Value)} {m : Str → Option Value}, (∀ v, (x, v) ∉ binds) → bindC kindOf binds m x = m x
 | [], _, _ => rfl
 | (n, v) :: r, m, h => by
  unfold bindC; rw [Je fun w hw => h w (List.mem_cons_of_mem _ hw)]
  split
  ·rfl
  ·have : x ≠ n := by rintro rfl; exact h v List.mem_cons_self
   simp [this]
theorem Np {kindOf : Str → Option NameKind} {x : Str} {v : Value} : ∀ {P : List Str} {vs : List Value} {i : Nat} {m : Str → Option Value}, P.Nodup → P[i]? = some x → vs[i]? = some v → kindOf x = some .local →
  bindL kindOf (P.zip vs) m x = some v
 | [], _, _, _, _, h, _, _ => by simp at h
 | _ :: _, [], _, _, _, _, h, _ => by simp at h
 | p :: P, w :: vs, 0, m, nd, h1, h2, hk => by
  simp at h1 h2; subst h1; subst h2; show bindL kindOf ((p, w) :: P.zip vs) m p = _
  unfold bindL; rw [Nx fun v hv => (List.nodup_cons.mp nd).1 (List.of_mem_zip hv).1, if_pos hk]; simp
 | p :: P, w :: vs, i + 1, m, nd, h1, h2, hk => by
  show bindL kindOf ((p, w) :: P.zip vs) m x = _
  unfold bindL; exact Np (i := i) (List.nodup_cons.mp nd).2 (by simpa using h1) (by simpa using h2) hk
theorem Md {kindOf : Str → Option NameKind} {x : Str} {v : Value} : ∀ {P : List Str} {vs : List Value} {i : Nat} {m : Str → Option Value}, P.Nodup → P[i]? = some x → vs[i]? = some v → kindOf x ≠ some .local →
  bindC kindOf (P.zip vs) m x = some v
 | [], _, _, _, _, h, _, _ => by simp at h
 | _ :: _, [], _, _, _, _, h, _ => by simp at h
 | p :: P, w :: vs, 0, m, nd, h1, h2, hk => by
  simp at h1 h2; subst h1; subst h2; show bindC kindOf ((p, w) :: P.zip vs) m p = _
  unfold bindC; rw [Je fun v hv => (List.nodup_cons.mp nd).1 (List.of_mem_zip hv).1, if_neg hk]; simp
 | p :: P, w :: vs, i + 1, m, nd, h1, h2, hk => by
  show bindC kindOf ((p, w) :: P.zip vs) m x = _
  unfold bindC; exact Md (i := i) (List.nodup_cons.mp nd).2 (by simpa using h1) (by simpa using h2) hk
def start (N : List Str) (vs : List V) : St := vs.map some ++ List.replicate (N.length - vs.length) none
def jY (CX : fB) (P : Program) (w : World) (K : PySem.W.Frag) (mg : Str → Option Value) (base : Heap) (N : List Str) (qual : Str) (scope : Scope) (f : Addr) (cd : Value) (A : Around) (outer : List Env) (s : Shared) (H : Hp) (E : XK) : Cx where
 prog := P
 w := w
 K := K
 mg := mg
 base := base
 A := A.deeper (envOfC qual scope s.heap.objs.size f cd)
 N := N
 s₀ := s
 H₀ := H
 env := envOfC qual scope s.heap.objs.size f cd
 outer := outer
 stack := envOfC qual scope s.heap.objs.size f cd :: outer
 ex := []
 calm := true
 fn := fun _ => true
 pn := []
 xe := fun e s' => wpAny (model P w) (A.deeper (envOfC qual scope s.heap.objs.size f cd)) («leaving» (envOfC qual scope s.heap.objs.size f cd) e) (fun _ s'' => CX outer H s E e s'') (fun e' s'' => CX outer H s E e' s'') s'
theorem Mv {sc : Scope} {n : Nat} {x : Str} (h : sc.names.lookup x = some .cell) : ∃ c, (cellsFrom n sc.names []).lookup x = some c := by
 have q := PySem.W.cellsFrom_some sc.names n [] (.inl h)
 exact Option.isSome_iff_exists.mp q
theorem F3 {CX : fB} {P : Program} {w : World} {K : PySem.W.Frag} {mg : Str → Option Value} {base : Heap} {N ps : List Str} {qual : Str} {scope : Scope} {f : Addr} {cd : Value} {A : Around} {outer : List Env} {s s1 : Shared} {H : Hp} {E : XK} {us : List Value} {vs : List V}
  (S : FnScope N ps scope) (hd : A.handled = none) (e0 : Env0 P w K mg base A outer s H) (hl : vs.length = ps.length) (r : Vals vs us)
  (x : InCallC s s.heap.objs.size (bindL (envOfC qual scope s.heap.objs.size f cd).kindOf (ps.zip us) fun _ => none) (cellsFrom (s.heap.objs.size + 1) scope.names []) (bindC (envOfC qual scope s.heap.objs.size f cd).kindOf (ps.zip us) fun _ => none) s1) :
  Inv (jY CX P w K mg base N qual scope f cd A outer s H E) [] (start N vs) H s1 := by
 have hpl : ps.length ≤ N.length := by have := congrArg List.length S.pre; rw [List.length_take] at this; omega
 obtain ⟨h1, tk, rfl, hk⟩ := x.done; have noA : ∀ b : Addr, b ∉ (jY CX P w K mg base N qual scope f cd A outer s H E).ex := fun b z => absurd (show b ∈ ([] : List Addr) from z) (by simp)
 refine ⟨⟨e0.mod, S.kind, rfl, rfl, Nat.le_refl _, fun y z c h1 h2 => ?_, fun y hy => ?_, fun y c _ h => ?_, fun _ => hd, Around.frames_deeper e0.frames, .inr ⟨rfl, rfl⟩, fun b z => absurd z (noA b), e0.bs, e0.bsz, fun b _ _ => noA b, fun b z => absurd z (noA b), e0.funs, e0.frf⟩,
  rfl, e0.bare, Un.kept hk, ⟨_, x.toInCall.ns, fun i y v h1 h2 h3 => ?_⟩, fun y c h => ⟨_, x.cell y c h⟩, e0.hok.fresh (Nat.le_refl _), fun y c h => ?_, fun p hp => absurd (show p ∈ ([] : List (Addr × Obj)) from hp) (by simp), e0.hok.kept hk, ?_⟩
 ·exact name_of_addr x.apart (PySem.mem_of_lookup h1) (PySem.mem_of_lookup h2)
 ·have hy : scope.names.lookup y = some .cell ∨ scope.names.lookup y = some .free := hy
  rcases hy with hy | hy
  ·exact Mv hy
  ·exact absurd rfl (S.nofree _ (PySem.mem_of_lookup hy))
 ·exact Nat.le_of_lt (x.above y c (PySem.mem_of_lookup h))
 ·have hi : i < vs.length := by
   unfold start at h2
   by_cases hi : i < vs.length
   ·exact hi
   ·rw [List.getElem?_append_right (by simpa using hi)] at h2
    rw [List.getElem?_replicate] at h2
    split at h2 <;> cases h2
  have ha : vs[i]? = some v := by
   unfold start at h2; rw [List.getElem?_append_left (by simpa using hi), List.getElem?_map] at h2
   cases e : vs[i]? with
   | none => rw [e] at h2; cases h2
   | some a => rw [e] at h2; cases h2; rfl
  obtain ⟨u, hu, rv⟩ := r.get ha; have hp : ps[i]? = some y := by
   rw [← S.pre, List.getElem?_take_of_lt (by omega)]; exact h1
  have ndP : ps.Nodup := by rw [← S.pre]; exact S.nd.sublist (List.take_sublist _ _)
  refine ⟨u, rv, ?_⟩; rcases S.par y (List.mem_of_getElem? hp) with k | k
  ·exact .inl ⟨k, Np ndP hp hu k⟩
  ·obtain ⟨c, e⟩ := Mv (n := s.heap.objs.size + 1) k; refine .inr ⟨.inl k, c, e, ?_⟩; have q := x.cell y c e
   rw [Md ndP hp hu (by show scope.names.lookup y ≠ _; rw [k]; decide)] at q
   exact q
 ·exact e0.hok.fresh (Nat.le_of_lt (x.above y c (PySem.mem_of_lookup h)))
 ·unfold start; show _ = N.length
  rw [List.length_append, List.length_map, List.length_replicate]; omega
theorem D5 {CX : fB} {P : Program} {w : World} {K : PySem.W.Frag} {mg : Str → Option Value} {base : Heap} {k : Nat} {f : Addr} {name qual : Str} {params : Arguments} {body : List Stmt} {scope : Scope} {dV kV doc pm cdv ct oc : Value} {an od : Option Addr}
  {osl : Array (Option Value)} {N ps : List Str} {sp : Sp} (lk : K.lookup f = some ⟨oc, od, .func (PySem.W.fnOf name qual params body scope dV kV doc pm an cdv ct), osl⟩) (hcd : PySem.W.codeIn K cdv qual = true) (S : FnScope N ps scope)
  (len : ∀ vs H Q E, sp vs H Q E → vs.length = ps.length)
  (hbody : ∀ (A : Around) (outer : List Env) (s : Shared) (H : Hp) (vs : List V) (Q : VK) (E : XK), Room k (A.deeper (envOfC qual scope s.heap.objs.size f cdv)) → sp vs H Q E →
   ∃ t, PSs (jY CX P w K mg base N qual scope f cdv A outer s H E) body t ∧ t { nx := fun _ H' => Q .non H', rt := Q } (start N vs) H) :
  FnOk P w K mg base CX (k + 1) f (PySem.W.fnOf name qual params body scope dV kV doc pm an cdv ct) ps sp := by
 refine ⟨len, fun A outer s H args us vs Q E hr e0 hb r hsp => ?_⟩; have hl := len _ _ _ _ hsp
 have KX : K.In s.heap := e0.mod.kin.keeps fun b o e => (e0.bs b o e).1
 have lim : s.heap.NoLimit := e0.mod.nolimit.keeps fun b o e => (e0.bs b o e).1
 have hkind : ∀ y ∈ ps.zip us, scope.names.lookup y.1 = some .local ∨ (scope.names.lookup y.1 = some .cell ∧ ((cellsFrom (s.heap.objs.size + 1) scope.names []).lookup y.1).isSome = true) := fun ⟨n, v⟩ hy => by
  rcases S.par n (List.of_mem_zip hy).1 with q | q
  ·exact .inl q
  ·exact .inr ⟨q, PySem.W.cellsFrom_some _ _ _ (.inl q)⟩
 refine codeAny_call_function hr.depth (KX _ _ lk) rfl S.co S.gen rfl (PySem.W.codeRec_of KX hcd) (hb _ _ _ _ ?_); refine wpAny_newFunctionEnv_cells S.kind hkind fun env he s1 x => ?_; subst he; refine ⟨lim.keeps x.toInCall.keep, codeAny_func ?_⟩; obtain ⟨t, ht, hq⟩ := hbody A outer s H vs Q E (hr.deeper _) hsp; have I : Inv (jY CX P w K mg base N qual scope f cdv A outer s H E) [] (start N vs) H s1 := F3 S hr.hd e0 hl r x
 refine wpAny_mono (ht [] s1 (start N vs) H _ I hq) (fun fl s' hs => ?_) fun e s' hs => hs; have fin : ∀ {σ' : St} {H' : Hp} {v : V} {u : Value}, Inv (jY CX P w K mg base N qual scope f cdv A outer s H E) [] σ' H' s' → RelV v u → Q v H' → CE outer P w H s Q u s' :=
  fun {σ' H' v u} J rv q => ⟨v, H', J.os, J.bare, J.base, J.hok, rv, q⟩
 cases fl with
 | ret u =>
  obtain ⟨v, σ', H', J, rv, q⟩ := hs; exact fin J rv q
 | next =>
  obtain ⟨σ', H', J, q⟩ := hs; exact fin (v := V.non) (u := Value.none) J rfl q
 | brk =>
  obtain ⟨_, _, _, q⟩ := hs; exact False.elim q
 | cont =>
  obtain ⟨_, _, _, q⟩ := hs; exact False.elim q
end L2
namespace L2
open PySem PySem.Spec PyProof.Rows
section
variable {X : Cx} {x : Str} {p pos : Pos} {e : Expr} {es : List Expr} {t : TA} {id T : String} {r : List V → Hp → VK → Prop}
def Ie (r : List V → Hp → VK → Prop) (t : TA) : TE := fun σ H Q => t σ H fun vs H1 => r vs H1 Q
theorem Ny (hc : CallR X (.builtin id) r) (hg : Gl X x) (hm : X.mg x = none) (hv : bootBuiltins x = some (.builtin id)) (ha : PA X (e :: es) t) (hn : x ≠ "__name__" := by decide) (hdb : (x == ("__debug__" : Str)) = false := by decide)
  (he : starEach (e :: es) X.env = (false, eval e X.env) :: starEach es X.env := by rfl) (hpl : (backTo pos (starEach es X.env)).any (·.1) = false := by rfl) : PE X (.Call (.Name x p) (e :: es) [] pos) (Ie r t) := by
 intro pins s σ H Q I h; refine wpAny_Call_Name_kw (lK I hg hm hv ?_ hn hdb); exact PyProof.Rows.callWith_builtin1 (aL (ha pos pins s σ H _ I h) fun us s1 ⟨vs, H1, I1, r1, q1⟩ => hc pins s1 σ H1 vs us Q I1 r1 q1) he hpl
theorem Wd (hc : CallR X (.type T) r) (hg : Gl X x) (hm : X.mg x = none) (hv : bootBuiltins x = some (.type T)) (ha : PA X (e :: es) t) (hn : x ≠ "__name__" := by decide) (hdb : (x == ("__debug__" : Str)) = false := by decide)
  (he : starEach (e :: es) X.env = (false, eval e X.env) :: starEach es X.env := by rfl) (hpl : (backTo pos (starEach es X.env)).any (·.1) = false := by rfl) : PE X (.Call (.Name x p) (e :: es) [] pos) (Ie r t) := by
 intro pins s σ H Q I h; refine wpAny_Call_Name_kw (lK I hg hm hv ?_ hn hdb); exact PyProof.Rows.callWith_type1 (aL (ha pos pins s σ H _ I h) fun us s1 ⟨vs, H1, I1, r1, q1⟩ => hc pins s1 σ H1 vs us Q I1 r1 q1) he hpl
end
end L2
namespace HT
open PySem PyProof.Rows
section
variable {prog : Program} {w : World} {A : Around} {E : Value → Shared → Prop} {s : Shared}
theorem cat_tup {t b : Addr} {vs ws : List Value} {Q : Value → Shared → Prop} (ht : IsTup s.heap t vs.toArray) (hb : IsTup s.heap b ws.toArray) (hv : vs ≠ [])
  (h1 : ws = [] → Q (.ref t) s) (h2 : ws ≠ [] → Q (.ref s.heap.objs.size) { s with heap := s.heap.push { cls := .type "tuple", data := .seq (vs ++ ws).toArray } })
  (hsz : vs.length + ws.length ≤ sizeLine) : wpAny (model prog w) A (binaryOp .Add (.ref t) (.ref b)) Q E s := by
 obtain ⟨⟨cls, dd, data, sl⟩, ho, hc, n, hd⟩ := id ht; obtain ⟨⟨cls2, dd2, data2, sl2⟩, ho2, hc2, n2, hd2⟩ := id hb; simp only at hc hd hc2 hd2; subst hc hd hc2 hd2; have e : vs.toArray ++ ws.toArray = (vs ++ ws).toArray := by simp
 by_cases hw : ws = []
 ·exact concat_meets ⟨_, ho, rfl⟩ ⟨_, ho2, rfl⟩ noFill_tuple_add seq_tuple_add PySem.F.slot_tuple_add PySem.F.entry_tuple_add (PySem.F.args_tuple_add_2 _ _)
   (tuple_addW1 t b vs.toArray ws.toArray n n2 dd dd2 sl sl2 (by simpa using hv) (by simp [hw])) ⟨ho, ho2, h1 hw⟩
 ·refine concat_meets ⟨_, ho, rfl⟩ ⟨_, ho2, rfl⟩ noFill_tuple_add seq_tuple_add PySem.F.slot_tuple_add PySem.F.entry_tuple_add (PySem.F.args_tuple_add_2 _ _)
   (tuple_addW2 t b vs.toArray ws.toArray n n2 dd dd2 sl sl2 (by simpa using hv) (by simpa using hw) (by rw [List.size_toArray, List.size_toArray]; exact hsz)) ⟨ho, ho2, ?_⟩
  rw [e]; exact h2 hw
def sIx (n d : Nat) : Option Int → Nat
 | none => d
 | some v => if v < 0 then (v + (n : Int)).toNat else min v.toNat n
theorem Qh (n d : Nat) (hd : d ≤ n) (o : Option Int) : sIx n d o ≤ n := by
 cases o with
 | none => exact hd
 | some v =>
  show (if v < 0 then (v + (n : Int)).toNat else min v.toNat n) ≤ n
  by_cases hv : v < 0
  ·rw [if_pos hv]; omega
  ·rw [if_neg hv]; exact Nat.min_le_right _ _
theorem Ii (v : Int) (n d : Nat) : (if v < 0 then max (v + (n : Int)) 0 else min v (n : Int)) = ((sIx n d (some v) : Nat) : Int) := by
 show (if v < 0 then max (v + (n : Int)) 0 else min v (n : Int)) = (((if v < 0 then (v + (n : Int)).toNat else min v.toNat n) : Nat) : Int)
 by_cases hv : v < 0
 ·simp only [if_pos hv]; omega
 ·simp only [if_neg hv]; omega
theorem Rl (lo hi : Option Int) (n : Nat) : Builtin.Slice.sliceAdjust lo hi 1 (n : Int) = (((sIx n 0 lo : Nat) : Int), ((sIx n n hi : Nat) : Int)) := by
 have h1 : ¬ ((1 : Int) < 0) := by omega
 unfold Builtin.Slice.sliceAdjust; simp only [h1, if_false]; refine Prod.ext ?_ ?_
 ·cases lo with
  | none => rfl
  | some v => exact Ii v n 0
 ·cases hi with
  | none => rfl
  | some v => exact Ii v n n
theorem Wr (i j : Nat) : Builtin.Slice.slicePlaces (i : Int) (j : Int) 1 = j - i := by
 unfold Builtin.Slice.slicePlaces; have h1 : (1 : Int) > 0 := by omega
 simp only [h1, if_true, Int.ediv_one]
 split <;> omega
theorem Ln {v : Value} {o : Option Int} {Q : Option Int → Shared → Prop} (p : IsPart v o) (h : Q o s) : wpAny (model prog w) A (Builtin.Slice.slicePartIndex v) Q E s := by
 cases p with
 | none => exact slicePart_none h
 | int i t => exact slicePart_int h
theorem sliceApplied_gen {sl : Addr} {vl vu : Value} {lo hi : Option Int} {n : Nat} {Q : Int × Int × Nat → Shared → Prop} (hs : s.heap.IsSliceOf sl vl vu .none) (pl : IsPart vl lo) (pu : IsPart vu hi)
  (h : Q (((sIx n 0 lo : Nat) : Int), 1, sIx n n hi - sIx n 0 lo) s) : wpAny (model prog w) A (Builtin.Slice.sliceApplied (.ref sl) (pure (n : Int))) Q E s := by
 obtain ⟨os, hos, hcs, hds⟩ := id hs; unfold Builtin.Slice.sliceApplied Builtin.Slice.sliceFields; refine wpAny_bind (wpAny_bind (wpAny_field hos hds (x := vl) rfl (wpAny_bind (wpAny_field hos hds (x := vu) rfl (wpAny_bind (wpAny_field hos hds (x := .none) rfl (wpAny_pure ?_))))))); refine wpAny_bind (slicePart_none ?_); show wpAny _ _ (if ((1 : Int) == 0) = true then _ else _) _ _ s
 rw [if_neg (by decide)]
 refine wpAny_bind (Ln pl (wpAny_bind (Ln pu (wpAny_bind (wpAny_pure ?_))))); show wpAny _ _ (match Builtin.Slice.sliceAdjust lo hi 1 (n : Int) with | (lo, hi) => pure (lo, (1 : Int), Builtin.Slice.slicePlaces lo hi 1)) _ _ s
 rw [Rl lo hi n]; show wpAny _ _ (pure (((sIx n 0 lo : Nat) : Int), (1 : Int), Builtin.Slice.slicePlaces ((sIx n 0 lo : Nat) : Int) ((sIx n n hi : Nat) : Int) 1)) _ _ s
 rw [Wr]; exact wpAny_pure h
theorem O8 (xs : Array Value) (i k : Nat) : ((List.range k).filterMap fun (m : Nat) => xs[((i : Int) + (m : Int) * 1).toNat]?).toArray = ((xs.toList.drop i).take k).toArray := by
 have e : (fun (m : Nat) => xs[((i : Int) + (m : Int) * 1).toNat]?) = fun m => xs[i + m]? := by
  funext m
  have : ((i : Int) + (m : Int) * 1).toNat = i + m := by omega
  rw [this]
 rw [e]; have := pick_run xs i k
 rw [List.filterMap_map] at this; have e2 : ((fun x => xs[x]?) ∘ fun x => i + x) = fun m => xs[i + m]? := rfl
 rw [e2] at this; rw [this]
theorem getItem_tuple_cut {t sl : Addr} {items : Array Value} {vl vu : Value} {lo hi : Option Int} {Q : Value → Shared → Prop} (ht : IsTup s.heap t items) (hs : s.heap.IsSliceOf sl vl vu .none) (pl : IsPart vl lo) (pu : IsPart vu hi)
  (hw : ¬ (sIx items.size 0 lo = 0 ∧ sIx items.size items.size hi = items.size))
  (h : Q (.ref s.heap.objs.size) { s with heap := s.heap.push { cls := .type "tuple", data := .seq ((items.toList.drop (sIx items.size 0 lo)).take (sIx items.size items.size hi - sIx items.size 0 lo)).toArray } })
  (hsz : items.size ≤ sizeLine) : wpAny (model prog w) A (getItem (.ref t) (.ref sl)) Q E s := by
 have htake : sizeOk (.seq ((items.toList.drop (sIx items.size 0 lo)).take (sIx items.size items.size hi - sIx items.size 0 lo)).toArray) := by
  show ((items.toList.drop (sIx items.size 0 lo)).take (sIx items.size items.size hi - sIx items.size 0 lo)).toArray.size ≤ sizeLine
  rw [List.size_toArray, List.length_take, List.length_drop, Array.length_toList]; omega
 have hj : sIx items.size items.size hi ≤ items.size := Qh _ _ (Nat.le_refl _) hi
 obtain ⟨os, hos, hcs, hds⟩ := id hs; have hTs : s.TypeIs (.ref sl) "slice" := ⟨os, hos, hcs⟩
 unfold getItem
 try with_reducible refine wpAny_holding ?_
 first | refine wpAny_bind (wpAny_pure ?_) | skip
 refine wpAny_bind (wpAny_sequenceKey ht.typeIs (by decide) ?_)
 refine wpAny_bind (wpAny_callSpecial?_slot (name := Str.ofString "__getitem__") ht.typeIs PyProof.Rows.slot_tuple_getitem
  (wpAny_call_entry PyProof.Rows.slot_tuple_getitem ht.typeIs entry_tuple_getitem ?_ (args_tuple_getitem _ _)))
 show wpAny _ _ (Builtin.Tuple.tupleItemsOf (.ref t) >>= _) _ _ s
 refine wpAny_bind (tupleItemsOf_ ht ?_); refine wpAny_bind (wpAny_typeOf hTs ?_); rw [if_pos (by decide)]
 refine wpAny_bind (sliceApplied_gen hs pl pu ?_); have hno : ¬ ((((sIx items.size 0 lo : Nat) : Int) == 0 && (1 : Int) == 1 && (sIx items.size items.size hi - sIx items.size 0 lo) == items.size) = true) := by
  intro q; rw [Bool.and_eq_true, Bool.and_eq_true] at q; have q1 : ((sIx items.size 0 lo : Nat) : Int) = 0 := eq_of_beq q.1.1
  have q2 : sIx items.size items.size hi - sIx items.size 0 lo = items.size := eq_of_beq q.2
  exact hw ⟨by omega, by omega⟩
 show wpAny _ _ (if (((sIx items.size 0 lo : Nat) : Int) == 0 && (1 : Int) == 1 && (sIx items.size items.size hi - sIx items.size 0 lo) == items.size) = true then _ else _) _ _ s
 rw [if_neg hno, O8]
 first
  | exact wpAny_bind (m := Builtin.Tuple.tupleExact _) (wpAny_newObj_type (wpAny_pure ⟨_, rfl, wpAny_pure h⟩) htake)
  | exact wpAny_bind (m := Builtin.Tuple.tupleExact _) (wpAny_newObj_type (wpAny_bind (wpAny_pure (wpAny_pure ⟨_, rfl, wpAny_pure h⟩))) htake)
  | exact wpAny_bind (wpAny_bind (m := Builtin.Tuple.tupleExact _) (wpAny_newObj_type (wpAny_pure (wpAny_pure ⟨_, rfl, wpAny_pure h⟩)) htake))
  | exact wpAny_bind (wpAny_bind (m := Builtin.Tuple.tupleExact _) (wpAny_newObj_type (wpAny_pure ⟨_, rfl, wpAny_pure h⟩) htake))
end
end HT
namespace L2
open PySem PySem.Spec PyProof.Rows
abbrev TO := St → Hp → (Option Int → Hp → Prop) → Prop
def PO (X : Cx) (e : Option Expr) (t : TO) : Prop :=
 ∀ (pins : List (Addr × Obj)) (s : Shared) (σ : St) (H : Hp) (Q : Option Int → Hp → Prop), Inv X pins σ H s → t σ H Q →
  wpAny (model X.prog X.w) X.A (evalPart e X.env) (fun u s' => ∃ o H', Inv X pins σ H' s' ∧ IsPart u o ∧ Q o H') X.xe s
def U1 : TO := fun _ H Q => Q none H
def Sc (t : TE) : TO := fun σ H Q => t σ H fun x H1 => ∃ i, x = .int i ∧ Q (some i) H1
section
variable {X : Cx} {e : Expr} {te : TE} {lo hi : Option Expr} {tl th : TO} {pos p2 : Pos}
theorem J6 : PO X none U1 := by
 intro pins s σ H Q I h; rw [evalPart_none]; exact wpAny_pure ⟨none, H, I, .none, h⟩
theorem T3 (h : PE X e te) : PO X (some e) (Sc te) := by
 intro pins s σ H Q I hw; rw [evalPart_some]; refine aL (h pins s σ H _ I hw) fun u s1 ⟨x, H1, I1, r1, q1⟩ => ?_; obtain ⟨i, rfl, q⟩ := q1; obtain ⟨t, rfl⟩ := r1; exact ⟨some i, H1, I1, .int i t, q⟩
def SlR (X : Cx) (r : V → Option Int → Option Int → Hp → VK → Prop) : Prop :=
 ∀ (pins : List (Addr × Obj)) (s : Shared) (σ : St) (H : Hp) (x : V) (v vl vu : Value) (lo hi : Option Int) (sl : Addr) (Q : VK), Inv X pins σ H s → RelV x v → s.heap.IsSliceOf sl vl vu .none → IsPart vl lo → IsPart vu hi → r x lo hi H Q →
  ∃ T id, typeLookup (.type T) "__getitem__" = pure (some (.builtin id)) ∧ s.TypeIs v T ∧ wpAny (model X.prog X.w) X.A (getItem v (.ref sl)) (EP X pins σ Q) X.xe s
theorem SlR.or {r r' : V → Option Int → Option Int → Hp → VK → Prop} (h : SlR X r) (h' : SlR X r') : SlR X (fun x lo hi H Q => r x lo hi H Q ∨ r' x lo hi H Q) := by
 intro pins s σ H x v vl vu lo hi sl Q I rx hs pl pu q; rcases q with q | q
 ·exact h pins s σ H x v vl vu lo hi sl Q I rx hs pl pu q
 ·exact h' pins s σ H x v vl vu lo hi sl Q I rx hs pl pu q
def C5 (r : V → Option Int → Option Int → Hp → VK → Prop) (te : TE) (tl th : TO) : TE := fun σ H Q => te σ H fun x H1 => tl σ H1 fun l H2 => th σ H2 fun u H3 => r x l u H3 Q
theorem Ye {r : V → Option Int → Option Int → Hp → VK → Prop} (hr : SlR X r) (he : PE X e te) (hl : PO X lo tl) (hu : PO X hi th) : PE X (.Subscript e (.Slice lo hi none p2) pos) (C5 r te tl th) := by
 intro pins s σ H Q I h; refine Subscript_ (aL (he pins s σ H _ I h) fun v s1 ⟨x, H1, I1, r1, q1⟩ => ?_); refine wpAny_Slice (aL (hl pins s1 σ H1 _ I1 q1) fun vl s2 ⟨l, H2, I2, pl, q2⟩ => aL (hu pins s2 σ H2 _ I2 q2) fun vu s3 ⟨u, H3, I3, pu, q3⟩ => ?_); rw [evalPart_none]; refine wpAny_pure ?_; have I4 : Inv X pins σ H3 { s3 with heap := s3.heap.push { cls := .type "slice", data := .fields #[vl, vu, .none] } } := I3.kept (t' := s3.toks) fun b ob q => Heap.get?_push_of_some _ q
 obtain ⟨T, id, hT, ht, hg⟩ := hr pins { s3 with heap := s3.heap.push { cls := .type "slice", data := .fields #[vl, vu, .none] } } σ H3 x v vl vu l u s3.heap.objs.size Q I4 r1 (Heap.IsSliceOf.new ..) pl pu q3; show wpAny (model X.prog X.w) X.A (subscriptTail e (.Slice lo hi none p2) v (.ref s3.heap.objs.size)) (EP X pins σ Q) X.xe { s3 with heap := s3.heap.push { cls := .type "slice", data := .fields #[vl, vu, .none] } }
 exact tail_any (ops := [.ref s3.heap.objs.size, v]) ht hT hg (by with_unfolding_all rfl)
def fZ (xs : List V) (lo hi : Option Int) : List V := (xs.drop (HT.sIx xs.length 0 lo)).take (HT.sIx xs.length xs.length hi - HT.sIx xs.length 0 lo)
theorem Jo (xs : List V) (lo hi : Option Int) : (fZ xs lo hi).length ≤ xs.length := by
 unfold fZ; rw [List.length_take, List.length_drop]; omega
def A4 (K : PySem.W.Frag) : V → Option Int → Option Int → Hp → VK → Prop := fun x lo hi H Q => ∃ a xs, x = .ref a ∧ SqT K H a xs ∧
 ¬ (HT.sIx xs.length 0 lo = 0 ∧ HT.sIx xs.length xs.length hi = xs.length) ∧ ∀ p, H p = none → Q (.ref p) (aN H p (.tup (fZ xs lo hi)))
theorem Tp : SlR X (A4 X.K) := by
 intro pins s σ H x v vl vu lo hi sl Q I rx hs pl pu h; obtain ⟨a, xs, rfl, hx, hw, q⟩ := h
 cases rx
 obtain ⟨its, r, ht, hz⟩ := I.tuple hx; have hlen : its.toArray.size = xs.length := by rw [List.size_toArray]; exact r.length.symm
 refine ⟨"tuple", _, PyProof.Rows.slot_tuple_getitem.lookup, ht.typeIs, ?_⟩; refine HT.getItem_tuple_cut ht hs pl pu (by rw [hlen]; exact hw) ?_ (by rw [hlen]; exact hz)
 rw [hlen]; refine ⟨.ref s.heap.objs.size, _, I.laid (t' := s.toks) (o := .tup (fZ xs lo hi)) (fun b ob q => Heap.get?_push_of_some _ q) (Nat.le_refl _) ?_, rfl, q _ (I.hok.fresh (Nat.le_refl _))⟩; exact ⟨⟨Nat.le_trans (Jo xs lo hi) hz, NoD.new _ _ _⟩, _, (r.drop (HT.sIx xs.length 0 lo)).take (HT.sIx xs.length xs.length hi - HT.sIx xs.length 0 lo), IsTup.new _ _⟩
def Q7 (K : PySem.W.Frag) : R2 := fun x y H Q => ∃ a b xs ys, x = .ref a ∧ y = .ref b ∧ SqT K H a xs ∧ SqT K H b ys ∧ xs ≠ [] ∧ xs.length + ys.length ≤ sizeLine ∧
 (ys = [] → Q (.ref a) H) ∧ (ys ≠ [] → ∀ p, H p = none → Q (.ref p) (aN H p (.tup (xs ++ ys))))
theorem Vals.nil_iff {xs : List V} {us : List Value} (r : Vals xs us) : us = [] ↔ xs = [] := by
 cases r with
 | nil => simp
 | cons _ _ => simp
theorem b9 : OpR X (binaryOp .Add) (Q7 X.K) := by
 intro pins s σ H x y v u Q I rx ry h; obtain ⟨a, b, xs, ys, rfl, rfl, ha, hb, hx, hz, q1, q2⟩ := h
 cases rx
 cases ry
 obtain ⟨its, r1, p1, _⟩ := I.tuple ha; obtain ⟨its2, r2, p2, _⟩ := I.tuple hb; refine HT.cat_tup p1 p2 (fun z => hx (r1.nil_iff.mp z)) (fun z => ⟨.ref a, H, I, rfl, q1 (r2.nil_iff.mp z)⟩) (fun z => ?_) (by rw [← r1.length, ← r2.length]; exact hz)
 refine ⟨.ref s.heap.objs.size, _, I.laid (t' := s.toks) (o := .tup (xs ++ ys)) (fun b ob q => Heap.get?_push_of_some _ q) (Nat.le_refl _) ?_, rfl, q2 (fun w => z (r2.nil_iff.mpr w)) _ (I.hok.fresh (Nat.le_refl _))⟩; exact ⟨⟨by rw [List.length_append]; exact hz, NoD.new _ _ _⟩, _, r1.append r2, IsTup.new _ _⟩
end
end L2
namespace L2
open PySem PySem.Spec PyProof.Rows
def dL (n : Nat) (i : Int) : Option Nat := if 0 ≤ i then (if i < n then some i.toNat else none) else if -(n : Int) ≤ i then some (i + n).toNat else none
def bR {α : Type} (xs : List α) (i : Int) : Option α := (dL xs.length i).bind fun j => xs[j]?
theorem Nh {n : Nat} {i : Int} {j : Nat} (h : dL n i = some j) : seqIndex? i n = some j ∧ j < n ∧ -(n : Int) ≤ i ∧ i < n := by
 unfold dL at h
 by_cases h0 : 0 ≤ i
 ·rw [if_pos h0] at h
  by_cases h1 : i < n
  ·rw [if_pos h1] at h; have e : i.toNat = j := Option.some.inj h
   exact ⟨by rw [seqIndex_of h0 h1, e], by omega, by omega, h1⟩
  ·rw [if_neg h1] at h; cases h
 ·rw [if_neg h0] at h
  by_cases h1 : -(n : Int) ≤ i
  ·rw [if_pos h1] at h; have e : (i + n).toNat = j := Option.some.inj h
   exact ⟨by rw [seqIndex_neg (by omega) h1, e], by omega, h1, by omega⟩
  ·rw [if_neg h1] at h; cases h
theorem Au {α : Type} {xs : List α} {i : Int} {v : α} (h : bR xs i = some v) : ∃ j, seqIndex? i xs.length = some j ∧ xs[j]? = some v ∧ j < xs.length ∧ -(xs.length : Int) ≤ i ∧ i < xs.length := by
 unfold bR at h
 cases e : dL xs.length i with
 | none => rw [e] at h; cases h
 | some j =>
  rw [e] at h; obtain ⟨h1, h2, h3, h4⟩ := Nh e; exact ⟨j, h1, h, h2, h3, h4⟩
theorem qX {α : Type} {xs : List α} {j : Nat} {v : α} (h : xs[j]? = some v) : bR xs (j : Int) = some v := by
 have hj : j < xs.length := (List.getElem?_eq_some_iff.mp h).1
 have e : dL xs.length (j : Int) = some j := by
  unfold dL; rw [if_pos (by omega), if_pos (by omega)]; simp
 unfold bR; rw [e]; exact h
def Bp (b : Expr) : Prop := ∀ o i, subscripted b false o i = operate [o, i] (getItem o i)
def IxR (X : Cx) (r : R2) : Prop :=
 ∀ (value slice : Expr) (pins : List (Addr × Obj)) (s : Shared) (σ : St) (H : Hp) (x y : V) (v u : Value) (Q : VK), Inv X pins σ H s → RelV x v → RelV y u → r x y H Q →
  subscripted slice false v u = operate [v, u] (getItem v u) → wpAny (model X.prog X.w) X.A (subscriptTail value slice v u) (EP X pins σ Q) X.xe s
def MtR (X : Cx) (id : String) (r : V → List V → Hp → VK → Prop) : Prop :=
 ∀ (pins : List (Addr × Obj)) (s : Shared) (σ : St) (H : Hp) (x : V) (xs : List V) (v : Value) (us : List Value) (Q : VK), Inv X pins σ H s → RelV x v → Vals xs us → r x xs H Q →
  wpAny (model X.prog X.w) X.A (call (.builtin id) (v :: us)) (EP X pins σ Q) X.xe s
section
variable {X : Cx} {a b : Expr} {ta tb : TE} {pos : Pos}
theorem IxR.or {r r' : R2} (h : IxR X r) (h' : IxR X r') : IxR X (fun x y H Q => r x y H Q ∨ r' x y H Q) := by
 intro value slice pins s σ H x y v u Q I rx ry q hs; rcases q with q | q
 ·exact h value slice pins s σ H x y v u Q I rx ry q hs
 ·exact h' value slice pins s σ H x y v u Q I rx ry q hs
theorem MtR.or {id : String} {r r' : V → List V → Hp → VK → Prop} (h : MtR X id r) (h' : MtR X id r') : MtR X id (fun x xs H Q => r x xs H Q ∨ r' x xs H Q) := by
 intro pins s σ H x xs v us Q I rx rs q; rcases q with q | q
 ·exact h pins s σ H x xs v us Q I rx rs q
 ·exact h' pins s σ H x xs v us Q I rx rs q
theorem A9 {r : R2} (hr : IxR X r) (ha : PE X a ta) (hb : PE X b tb) (hs : Bp b) : PE X (.Subscript a b pos) (K6 r ta tb) := by
 intro pins s σ H Q I h; exact Subscript_ (Jh ha hb I h fun v u s2 x y H2 I2 rx ry q => hr a b pins s2 σ H2 x y v u Q I2 rx ry q (hs _ _))
def Eo (K : PySem.W.Frag) : R2 := fun x y H Q => ∃ p xs i v, x = .ref p ∧ y = .int i ∧ SqL K H p xs ∧ bR xs i = some v ∧ Q v H
def Fi (K : PySem.W.Frag) : R2 := fun x y H Q => ∃ p xs i v, x = .ref p ∧ y = .int i ∧ SqT K H p xs ∧ bR xs i = some v ∧ Q v H
def Na : R2 := fun x y H Q => ∃ z i c, x = .str z ∧ y = .int i ∧ z.length ≤ sizeLine ∧ bR z.cps.toList i = some c ∧ Q (.str ⟨#[c]⟩) H
theorem Rt : IxR X (Eo X.K) := by
 intro value slice pins s σ H x y v u Q I rx ry h hs; obtain ⟨p, xs, i, z, rfl, rfl, hq, he, q⟩ := h
 cases rx
 obtain ⟨t, rfl⟩ := ry; obtain ⟨its, r, pl, hz⟩ := I.list hq; obtain ⟨j, h1, h2, h3, h4, h5⟩ := Au he; obtain ⟨w, ew, rw'⟩ := r.get h2; have hl := r.length
 have hn := iU
 have fin : EP X pins σ Q w s := ⟨z, H, I, rw', q⟩
 by_cases h0 : 0 ≤ i
 ·have hj : i.toNat = j := by
   rw [seqIndex_of h0 h5] at h1; exact Option.some.inj h1
  exact item_listR pl.isList h0 (by omega) (by rw [hj]; simpa using ew) fin hs
 ·have hj : (i + (its.toArray.size : Int)).toNat = j := by
   rw [seqIndex_neg (by omega) h4] at h1
   rw [List.size_toArray, ← hl]; exact Option.some.inj h1
  exact subscriptTail_builtinR (x := w) pl.isList.typeIs slot_list_getitem.lookup
   (wpAny_getItem_list_neg (Q := fun r s' => r = w ∧ EP X pins σ Q r s') pl.isList (by omega) (by rw [List.size_toArray] <;> omega) (by omega) (by rw [hj]; simpa using ew) ⟨rfl, fin⟩) hs
theorem Xe : IxR X (Fi X.K) := by
 intro value slice pins s σ H x y v u Q I rx ry h hs; obtain ⟨p, xs, i, z, rfl, rfl, hq, he, q⟩ := h
 cases rx
 obtain ⟨t, rfl⟩ := ry; obtain ⟨its, r, pl, hz⟩ := I.tuple hq; obtain ⟨j, h1, h2, h3, h4, h5⟩ := Au he; obtain ⟨w, ew, rw'⟩ := r.get h2; have hl := r.length
 have hn := iU
 have fin : EP X pins σ Q w s := ⟨z, H, I, rw', q⟩
 exact subscriptTail_builtinR (x := w) pl.typeIs slot_tuple_getitem.lookup
  (getItem_tuple (j := j) (Q := fun r s' => r = w ∧ EP X pins σ Q r s') pl (by omega) (by omega) (by rw [List.size_toArray, ← hl]; exact h1) (by simpa using ew) ⟨rfl, fin⟩) hs
theorem p8 : IxR X Na := by
 intro value slice pins s σ H x y v u Q I rx ry h hs; obtain ⟨z, i, c, rfl, rfl, hz, he, q⟩ := h; obtain ⟨t, rfl⟩ := rx; obtain ⟨t', rfl⟩ := ry; obtain ⟨j, h1, h2, h3, h4, h5⟩ := Au he; have hl : z.cps.toList.length = z.length := by simp [Str.length]
 rw [hl] at h1 h4 h5; have hn := iU
 exact tail_any (typeIs_str s z t) slot_str_getitem.lookup (getItem_str (c := c) (by
  have e1 : decide (i < -(2 ^ 63 : Int)) = false := decide_eq_false (by omega)
  have e2 : decide (i ≥ 2 ^ 63) = false := decide_eq_false (by omega)
  rw [e1, e2, Bool.or_false]) (by rw [h1]; simpa using h2) ⟨.str ⟨#[c]⟩, H, I.tok _, ⟨_, rfl⟩, q⟩) hs
def Rp (K : PySem.W.Frag) : R2 := fun x y H Q => Eo K x y H Q ∨ Fi K x y H Q ∨ Na x y H Q
theorem Qg : IxR X (Rp X.K) := Rt.or (Xe.or p8)
theorem Re (its : List Value) (n j : Nat) (u : Value) : Obj.mapSeq (·.setIfInBounds j u) { cls := .type "list", data := .seq its.toArray n } = { cls := .type "list", data := .seq (its.set j u).toArray n } := by
 simp [Obj.mapSeq]
theorem Inv.lst {pins : List (Addr × Obj)} {σ : St} {H : Hp} {s : Shared} {p : Addr} {xs : List V} (I : Inv X pins σ H s) (h : H p = some (.lst xs)) :
  ∃ (its : List Value) (n : Nat), Vals xs its ∧ s.heap.get? p = some { cls := .type "list", data := .seq its.toArray n } ∧ xs.length ≤ sizeLine := by
 obtain ⟨z, its, n, r, e⟩ := I.hok p _ h; exact ⟨its, n, r, e, z⟩
theorem Inv.lstUpd {pins : List (Addr × Obj)} {σ : St} {H : Hp} {s : Shared} {p : Addr} {xs ys : List V} {its its' : List Value} {n n' : Nat} {f : Obj → Obj} (I : Inv X pins σ H s) (h : H p = some (.lst xs))
  (ho : s.heap.get? p = some { cls := .type "list", data := .seq its.toArray n }) (hf : f { cls := .type "list", data := .seq its.toArray n } = { cls := .type "list", data := .seq its'.toArray n' }) (r : Vals ys its') (hz : ys.length ≤ sizeLine) (t : Nat) :
  Inv X pins σ (aN H p (.lst ys)) { s with heap := s.heap.update p f, toks := t } := by
 have e : (s.heap.update p f).get? p = some { cls := .type "list", data := .seq its'.toArray n' } := by
  rw [Heap.get?_update_self f ho (by rw [hf] <;> rfl), hf]
 refine I.write (x := p) (e := p) (by rw [h]; trivial) (.inl rfl) (fun b u hb q => (Heap.get?_update_other _ _ (Ne.symm hb)).trans q) ⟨_, e⟩ ?_
 exact ⟨hz, its', n', r, e⟩
def E3 : V → V → V → Hp → (Hp → Prop) → Prop := fun o i v H Q => ∃ p xs k j, o = .ref p ∧ i = .int k ∧ H p = some (.lst xs) ∧ dL xs.length k = some j ∧ Q (aN H p (.lst (xs.set j v)))
theorem B8 : Ib X E3 := by
 intro pins s σ H o i v ov iv u Q I ro ri rv h; obtain ⟨p, xs, k, j, rfl, rfl, hp, hj, q⟩ := h
 cases ro
 obtain ⟨t, rfl⟩ := ri; obtain ⟨its, n, r, ho, hz⟩ := I.lst hp; obtain ⟨h1, h2, h3, h4⟩ := Nh hj; have hl := r.length
 have hn := iU
 have I' : Inv X pins σ (aN H p (.lst (xs.set j v))) { s with heap := s.heap.update p (Obj.mapSeq (·.setIfInBounds j u)) } :=
  I.lstUpd hp ho (Re its n j u) (r.set rv j) (by rw [List.length_set]; exact hz) s.toks
 by_cases h0 : 0 ≤ k
 ·have hk : k.toNat = j := by
   rw [seqIndex_of h0 h4] at h1; exact Option.some.inj h1
  exact PySem.W.ki_setAt ho h0 (by omega) (by rw [List.size_toArray, ← hl]; exact h4) (by rw [hk]; exact ⟨_, I', q⟩)
 ·have hk : (k + (its.toArray.size : Int)).toNat = j := by
   rw [seqIndex_neg (by omega) h3] at h1
   rw [List.size_toArray, ← hl]; exact Option.some.inj h1
  exact PySem.W.ki_setBack ho (by omega) (by rw [List.size_toArray, ← hl]; exact h3) (by omega) (by rw [hk]; exact ⟨_, I', q⟩)
theorem Zu (lo hi : Option Int) (n : Nat) : (sliceBounds lo hi none n).1 = ((HT.sIx n 0 lo : Nat) : Int) ∧ (sliceBounds lo hi none n).2.1 = ((HT.sIx n n hi : Nat) : Int) ∧ (sliceBounds lo hi none n).2.2 = 1 := by
 refine ⟨?_, ?_, rfl⟩
 ·cases lo with
  | none => simp [sliceBounds, HT.sIx]
  | some i =>
   simp only [sliceBounds, HT.sIx, Option.getD_none, show (1 : Int) > 0 by decide, if_true]
   by_cases h : i < 0
   ·simp only [h, if_true] <;> omega
   ·simp only [h, if_false] <;> omega
 ·cases hi with
  | none => simp [sliceBounds, HT.sIx]
  | some i =>
   simp only [sliceBounds, HT.sIx, Option.getD_none, show (1 : Int) > 0 by decide, if_true]
   by_cases h : i < 0
   ·simp only [h, if_true] <;> omega
   ·simp only [h, if_false] <;> omega
theorem L8 (its : List Value) (lo hi : Option Int) : slicePick its.toArray lo hi none = ((its.drop (HT.sIx its.length 0 lo)).take (HT.sIx its.length its.length hi - HT.sIx its.length 0 lo)).toArray := by
 obtain ⟨h1, h2, h3⟩ := Zu lo hi its.toArray.size; unfold slicePick; rw [h1, h2, h3]; simp only [sliceRange_one, pick_run, List.size_toArray] <;> rfl
def Yi (K : PySem.W.Frag) : V → Option Int → Option Int → Hp → VK → Prop := fun x lo hi H Q => ∃ a xs, x = .ref a ∧ SqL K H a xs ∧ ∀ p, H p = none → Q (.ref p) (aN H p (.lst (fZ xs lo hi)))
theorem Vn : SlR X (Yi X.K) := by
 intro pins s σ H x v vl vu lo hi sl Q I rx hs pl pu h; obtain ⟨a, xs, rfl, hx, q⟩ := h
 cases rx
 obtain ⟨its, r, ht, hz⟩ := I.list hx; have hlen := r.length
 refine ⟨"list", _, slot_list_getitem.lookup, ht.isList.typeIs, ?_⟩; refine wpAny_getItem_list_slice ht.isList hs pl pu .none (by simp) ?_ (by rw [List.size_toArray] <;> omega)
 rw [L8, ← hlen]; refine ⟨.ref s.heap.objs.size, _, I.laid (t' := s.toks) (o := .lst (fZ xs lo hi)) (fun b ob q => Heap.get?_push_of_some _ q) (Nat.le_refl _) ?_, rfl, q _ (I.hok.fresh (Nat.le_refl _))⟩; exact ⟨Nat.le_trans (Jo xs lo hi) hz, _, 0, (r.drop (HT.sIx xs.length 0 lo)).take (HT.sIx xs.length xs.length hi - HT.sIx xs.length 0 lo), Heap.get?_push_size _ rfl⟩
def fA : V → Bool
 | .non => true
 | .bl _ => true
 | .int _ => true
 | .str _ => true
 | _ => false
def jG : V → V → Bool
 | .non, .non => true
 | .bl a, .bl b => a == b
 | .bl a, .int b => (if a then 1 else 0) == b
 | .int a, .bl b => a == (if b then 1 else 0)
 | .int a, .int b => a == b
 | .str a, .str b => a == b
 | _, _ => false
theorem Za {A : Around} {s : Shared} {y x : V} {u v : Value} (ry : RelV y u) (rx : RelV x v) (fy : fA y = true) (fx : fA x = true) : SeqAt.EqAt A s u v (jG y x) := by
 cases y with
 | non =>
  cases ry
  cases x with
  | non => cases rx; exact SeqAt.EqAt.same _
  | bl b => cases rx; exact SeqAt.EqAt.none_bool b
  | int b => obtain ⟨t, rfl⟩ := rx; exact SeqAt.EqAt.none_int b t
  | str b => obtain ⟨t, rfl⟩ := rx; exact SeqAt.EqAt.none_str b t
  | _ => exact absurd (show false = true from fx) Bool.false_ne_true
 | bl a =>
  cases ry
  cases x with
  | non => cases rx; exact SeqAt.EqAt.bool_none a
  | bl b => cases rx; exact SeqAt.EqAt.bool_bool a b
  | int b => obtain ⟨t, rfl⟩ := rx; exact SeqAt.EqAt.bool_int a b t
  | str b => obtain ⟨t, rfl⟩ := rx; exact SeqAt.EqAt.bool_str a b t
  | _ => exact absurd (show false = true from fx) Bool.false_ne_true
 | int a =>
  obtain ⟨t', rfl⟩ := ry
  cases x with
  | non => cases rx; exact SeqAt.EqAt.int_none a t'
  | bl b => cases rx; exact SeqAt.EqAt.int_bool a t' b
  | int b => obtain ⟨t, rfl⟩ := rx; exact SeqAt.EqAt.int_int a t' b t
  | str b => obtain ⟨t, rfl⟩ := rx; exact SeqAt.EqAt.int_str a t' b t
  | _ => exact absurd (show false = true from fx) Bool.false_ne_true
 | str a =>
  obtain ⟨t', rfl⟩ := ry
  cases x with
  | non => cases rx; exact SeqAt.EqAt.str_none a t'
  | bl b => cases rx; exact SeqAt.EqAt.str_bool a t' b
  | int b => obtain ⟨t, rfl⟩ := rx; exact SeqAt.EqAt.str_int a t' b t
  | str b => obtain ⟨t, rfl⟩ := rx; exact SeqAt.EqAt.str_str a t' b t
  | _ => exact absurd (show false = true from fx) Bool.false_ne_true
 | _ => exact absurd (show false = true from fy) Bool.false_ne_true
def dZ (x : V) (u : Value) : Bool := match u with
 | .none => jG .non x
 | .bool b => jG (.bl b) x
 | .int i _ => jG (.int i) x
 | .str z _ => jG (.str z) x
 | _ => false
theorem Iz {x y : V} {u : Value} (r : RelV y u) (f : fA y = true) : dZ x u = jG y x := by
 cases y with
 | non => cases r; rfl
 | bl b => cases r; rfl
 | int i => obtain ⟨t, rfl⟩ := r; rfl
 | str z => obtain ⟨t, rfl⟩ := r; rfl
 | _ => exact absurd (show false = true from f) Bool.false_ne_true
theorem rD {x : V} : ∀ {xs : List V} {us : List Value}, Vals xs us → xs.all fA = true → us.any (dZ x) = xs.any fun y => jG y x
 | _, _, .nil, _ => rfl
 | y :: xs, u :: us, .cons r t, f => by
  rw [List.all_cons, Bool.and_eq_true] at f; rw [List.any_cons, List.any_cons, Iz r f.1, rD t f.2]
theorem oN {A : Around} {s : Shared} {x : V} {v : Value} (rx : RelV x v) (fx : fA x = true) : ∀ {xs : List V} {us : List Value}, Vals xs us → xs.all fA = true → ∀ u ∈ us, SeqAt.EqAt A s u v (dZ x u)
 | _, _, .nil, _ => fun u hu => by cases hu
 | y :: xs, u :: us, .cons r t, f => fun u' hu => by
  rw [List.all_cons, Bool.and_eq_true] at f; rcases List.mem_cons.mp hu with rfl | hu
  ·rw [Iz r f.1]; exact Za r rx f.1 fx
  ·exact oN rx fx t f.2 u' hu
def jF (x : V) (xs : List V) : Bool := xs.any fun y => jG y x
def Ia (K : PySem.W.Frag) (neg : Bool) : R2 := fun x y H Q => ∃ p xs, y = .ref p ∧ (SqL K H p xs ∨ SqT K H p xs) ∧ fA x = true ∧ xs.all fA = true ∧ Q (.bl (if neg then !jF x xs else jF x xs)) H
theorem lM : OpR X (compareOp .In) (Ia X.K false) := by
 intro pins s σ H x y v u Q I rx ry h; obtain ⟨p, xs, rfl, hq, fx, fs, q⟩ := h
 cases ry
 rcases hq with hq | hq
 ·obtain ⟨its, r, pl, hz⟩ := I.list hq; refine SeqAt.in_listAt (dZ x) pl.isList (fun w hw => oN rx fx r fs w (by simpa using hw)) ⟨.bl _, H, I, rfl, ?_⟩
  rw [show its.toArray.any (dZ x) = its.any (dZ x) by simp, rD r fs]
  exact q
 ·obtain ⟨its, r, pl, hz⟩ := I.tuple hq; refine SeqAt.in_tupleAt (dZ x) pl (fun w hw => oN rx fx r fs w (by simpa using hw)) ⟨.bl _, H, I, rfl, ?_⟩
  rw [show its.toArray.any (dZ x) = its.any (dZ x) by simp, rD r fs]
  exact q
theorem oF : OpR X (compareOp .NotIn) (Ia X.K true) := by
 intro pins s σ H x y v u Q I rx ry h; obtain ⟨p, xs, rfl, hq, fx, fs, q⟩ := h
 cases ry
 rcases hq with hq | hq
 ·obtain ⟨its, r, pl, hz⟩ := I.list hq; refine SeqAt.notIn_listAt (dZ x) pl.isList (fun w hw => oN rx fx r fs w (by simpa using hw)) ⟨.bl _, H, I, rfl, ?_⟩
  rw [show its.toArray.any (dZ x) = its.any (dZ x) by simp, rD r fs]
  exact q
 ·obtain ⟨its, r, pl, hz⟩ := I.tuple hq; refine SeqAt.notIn_tupleAt (dZ x) pl (fun w hw => oN rx fx r fs w (by simpa using hw)) ⟨.bl _, H, I, rfl, ?_⟩
  rw [show its.toArray.any (dZ x) = its.any (dZ x) by simp, rD r fs]
  exact q
theorem Bb : CallR X (.builtin "len") (fun xs H Q => ∃ p ys, xs = [.ref p] ∧ (SqL X.K H p ys ∨ SqT X.K H p ys) ∧ Q (.int ys.length) H) := by
 intro pins s σ H xs us Q I r h; obtain ⟨p, ys, rfl, hq, q⟩ := h; obtain ⟨u, rfl, rx⟩ := iL r
 cases rx
 have hn := iU
 rcases hq with hq | hq
 ·obtain ⟨its, r', pl, hz⟩ := I.list hq; have hlen := r'.length
  exact Calls.call_len_list pl.isList (by simp only [List.size_toArray] <;> omega) ⟨.int ys.length, H, I.tok _, ⟨s.toks + 1, by rw [List.size_toArray, hlen]⟩, q⟩
 ·obtain ⟨its, r', pl, hz⟩ := I.tuple hq; have hlen := r'.length
  exact len_tuple pl (by simp only [List.size_toArray] <;> omega) ⟨.int ys.length, H, I.tok _, ⟨s.toks + 1, by rw [List.size_toArray, hlen]⟩, q⟩
theorem Rr : CallR X (.builtin "len") (fun xs H Q => ∃ z, xs = [.str z] ∧ z.length ≤ sizeLine ∧ Q (.int z.length) H) := by
 intro pins s σ H xs us Q I r h; obtain ⟨z, rfl, hz, q⟩ := h; obtain ⟨u, rfl, t, rfl⟩ := iL r; have hn := iU
 exact len_str (by omega) ⟨.int z.length, H, I.tok _, ⟨_, rfl⟩, q⟩
theorem CallR.or {f : Value} {r r' : List V → Hp → VK → Prop} (h : CallR X f r) (h' : CallR X f r') : CallR X f (fun xs H Q => r xs H Q ∨ r' xs H Q) := by
 intro pins s σ H xs us Q I rs q; rcases q with q | q
 ·exact h pins s σ H xs us Q I rs q
 ·exact h' pins s σ H xs us Q I rs q
theorem Br : CallR X (.type "tuple") (fun xs H Q => ∃ p ys, xs = [.ref p] ∧ ((SqL X.K H p ys ∧ ∀ l, H l = none → Q (.ref l) (aN H l (.tup ys))) ∨ (SqT X.K H p ys ∧ Q (.ref p) H))) := by
 intro pins s σ H xs us Q I r h; obtain ⟨p, ys, rfl, h⟩ := h; obtain ⟨u, rfl, rx⟩ := iL r
 cases rx
 rcases h with ⟨hq, q⟩ | ⟨hq, q⟩
 ·obtain ⟨its, r', pl, hz⟩ := I.list hq; have hlen := r'.length
  refine call_tuple_list pl.isList (fun h' kp => ?_) (by simp only [List.size_toArray] <;> omega)
  have I1 : Inv X pins σ H { s with heap := h' } := I.kept (t' := s.toks) kp
  have I2 : Inv X pins σ (aN H h'.objs.size (.tup ys)) { s with heap := h'.push { cls := .type "tuple", data := .seq its.toArray } } :=
   I1.laid (t' := s.toks) (fun b o e => Heap.get?_push_of_some _ e) (Nat.le_refl _) (show ObjOk X.prog X.w _ _ _ (.tup ys) from ⟨⟨hz, NoD.new _ _ _⟩, its, r', IsTup.new _ _⟩)
  exact ⟨.ref h'.objs.size, _, I2, rfl, q _ (I1.hok.fresh (Nat.le_refl _))⟩
 ·obtain ⟨its, r', pl, hz⟩ := I.tuple hq; exact call_tuple_same pl ⟨.ref p, H, I, rfl, q⟩
def Kc (K : PySem.W.Frag) (T : String) (x : V) (H : Hp) : Prop := match x with
 | .str _ => T = "str"
 | .int _ => T = "int"
 | .ref p => (T = "list" ∧ ∃ xs, SqL K H p xs) ∨ (T = "tuple" ∧ ∃ o, K.lookup p = some o ∧ o.cls = .type "tuple" ∧ o.dict = none) ∨
   (T = "dict" ∧ ((∃ kvs, H p = some (.dK kvs)) ∨ ∃ kvs, H p = some (.dT kvs))) ∨ (T = "set" ∧ ∃ S n, H p = some (.set S n))
 | _ => False
theorem Wp {pins : List (Addr × Obj)} {σ : St} {H : Hp} {s : Shared} {T : String} {x : V} {v : Value} (I : Inv X pins σ H s) (r : RelV x v) (ty : Kc X.K T x H) :
  s.TypeIs v T ∧ ∀ a, v = .ref a → ∃ ob, s.heap.get? a = some ob ∧ ob.dict = none := by
 cases x with
 | str z =>
  obtain ⟨t, rfl⟩ := r
  cases (show T = "str" from ty)
  exact ⟨typeIs_str s z t, fun _ e => nomatch e⟩
 | int i =>
  obtain ⟨t, rfl⟩ := r
  cases (show T = "int" from ty)
  exact ⟨typeIs_int s i t, fun _ e => nomatch e⟩
 | ref p =>
  cases r
  rcases ty with ⟨rfl, xs, hq⟩ | ⟨rfl, o, hk, hc, hd⟩ | ⟨rfl, hk⟩ | ⟨rfl, S, n, hk⟩
  ·obtain ⟨its, _, pl, _⟩ := I.list hq; refine ⟨pl.isList.typeIs, fun a e => ?_⟩
   cases e
   obtain ⟨o, n, e, c, hd, _⟩ := pl; exact ⟨o, e, hd⟩
  ·refine ⟨⟨o, I.kIn p o hk, hc⟩, fun a e => ?_⟩
   cases e
   exact ⟨o, I.kIn _ o hk, hd⟩
  ·have z : ∃ o, s.heap.get? p = some o ∧ o.ExactDict := by
    rcases hk with ⟨kvs, hk⟩ | ⟨kvs, hk⟩
    ·obtain ⟨_, _, _, _, o, _, _, e, ex, _⟩ := I.hok p _ hk; exact ⟨o, e, ex⟩
    ·obtain ⟨_, _, _, _, o, _, _, e, ex, _⟩ := I.hok p _ hk; exact ⟨o, e, ex⟩
   obtain ⟨o, e, ex⟩ := z; refine ⟨⟨o, e, ex.1⟩, fun a e2 => ?_⟩
   cases e2
   exact ⟨o, e, ex.2.1⟩
  ·obtain ⟨o, _, _, _, e, ex, _⟩ := I.hok p _ hk; refine ⟨⟨o, e, ex.1⟩, fun a e2 => ?_⟩
   cases e2
   exact ⟨o, e, ex.2.1⟩
 | _ => exact False.elim ty
def Rc (K : PySem.W.Frag) (T : String) (r : V → List V → Hp → VK → Prop) (to : TE) (t : TA) : TE := fun σ H Q => to σ H fun x H1 => Kc K T x H1 ∧ t σ H1 fun xs H2 => r x xs H2 Q
variable {o e : Expr} {es : List Expr} {to : TE} {t : TA} {name : Str} {apos cpos : Pos} {T id : String} {r : V → List V → Hp → VK → Prop}
theorem Ky (pa : PlainAttrs T) (slot : Slot T name id) (hty : typeOf (.builtin id) = pure (.type "method_descriptor")) (hm : MtR X id r) (ho : PE X o to) (ha : PA X (e :: es) t)
  (hbase : attributeBase o name X.env (eval o X.env) = eval o X.env := by rfl)
  (hfew : ((backTo cpos (starEach (e :: es) X.env)).all (fun x => !x.1) && (backToKw cpos (keywordEach [] X.env)).all (fun x => x.1.isSome)
   && decide ((e :: es).length + ([] : List Keyword).length + (if ([] : List Keyword).isEmpty then 0 else 1) < 30)) = true := by rfl)
  (hline : (apos.endLine == cpos.line) = true := by rfl) (hs : starEach (e :: es) X.env = (false, eval e X.env) :: starEach es X.env := by rfl) (hplain : (backTo cpos (starEach es X.env)).any (·.1) = false := by rfl) :
  PE X (.Call (.Attribute o name apos) (e :: es) [] cpos) (Rc X.K T r to t) := by
 intro pins s σ H Q I h; refine wpAny_Call_method_late hbase hfew hline rfl (aL (ho pins s σ H _ I h) fun v s1 ⟨x, H1, I1, r1, ty, q1⟩ => ?_); obtain ⟨h1, h2⟩ := Wp I1 r1 ty; refine ⟨T, id, pa, slot, hty, h1, h2, ?_⟩; have hA := ha cpos pins s1 σ H1 _ I1 q1
 rw [hs] at hA ⊢; refine Calls.callWith_builtin (by show (false || (backTo cpos (starEach es X.env)).any (·.1)) = false; rw [hplain] <;> rfl) (Calls.evalArgs_plain ?_)
 exact aL hA fun us s2 ⟨vs, H2, I2, r2, q2⟩ => hm pins s2 σ H2 x vs v us Q I2 r1 r2 q2
end
end L2
namespace L2
open PySem PySem.Spec PyProof.Rows
def Oa (X : Cx) (id : String) (r : V → List V → Hp → VK → Prop) : Prop :=
 ∀ (pins : List (Addr × Obj)) (s : Shared) (σ : St) (H : Hp) (x : V) (xs : List V) (v : Value) (us : List Value) (Q : VK), Inv X pins σ H s → RelV x v → Vals xs us → r x xs H Q →
  wpAny (model X.prog X.w) X.A (call (.builtin id) (v :: us)) (EP X pins σ Q) X.xe s
theorem Vals.one : ∀ {x : V} {us : List Value}, Vals [x] us → ∃ u, us = [u] ∧ RelV x u
 | _, _, .cons r .nil => ⟨_, rfl, r⟩
theorem Vals.two : ∀ {x y : V} {us : List Value}, Vals [x, y] us → ∃ u v, us = [u, v] ∧ RelV x u ∧ RelV y v
 | _, _, _, .cons r (.cons q .nil) => ⟨_, _, rfl, r, q⟩
theorem Vals.zero : ∀ {us : List Value}, Vals [] us → us = []
 | _, .nil => rfl
theorem Vals.reverse {xs : List V} {us : List Value} (h : Vals xs us) : Vals xs.reverse us.reverse := by
 induction h with
 | nil => exact .nil
 | cons r t ih => rw [List.reverse_cons, List.reverse_cons]; exact Vals.append ih (.cons r .nil)
theorem Vals.rep {xs : List V} {us : List Value} (h : Vals xs us) : ∀ k : Nat, Vals (List.replicate k xs).flatten (List.replicate k us).flatten
 | 0 => .nil
 | k + 1 => by
  rw [List.replicate_succ, List.replicate_succ, List.flatten_cons, List.flatten_cons]; exact Vals.append h (Vals.rep h k)
section
variable {X : Cx} {pins : List (Addr × Obj)} {σ : St} {H : Hp} {s : Shared} {l b : Addr} {xs ys zs : List V}
theorem Inv.lset {its its' : List Value} {n : Nat} {f : Array Value → Array Value} {t' : Nat} (I : Inv X pins σ H s) (hH : H l = some (.lst xs))
  (e : s.heap.get? l = some { cls := .type "list", data := .seq its.toArray n }) (hf : f its.toArray = its'.toArray) (hv : Vals ys its') (hz : ys.length ≤ sizeLine) :
  Inv X pins σ (aN H l (.lst ys)) { s with heap := s.heap.update l (Obj.mapSeq f), toks := t' } := by
 have q := PySem.IsL.update e f
 rw [hf] at q; refine I.write (x := l) (e := l) (by rw [hH]; exact trivial) (.inl rfl) (fun b' u hb hu => (Heap.get?_update_other s.heap (Obj.mapSeq f) (Ne.symm hb)).trans hu) ⟨_, q⟩ ?_
 exact ⟨hz, its', _, hv, q⟩
theorem Inv.fresh (I : Inv X pins σ H s) : H s.heap.objs.size = none := I.hok.fresh (Nat.le_refl _)
theorem Inv.lstM (I : Inv X pins σ H s) (hH : H l = some (.lst xs)) : xs.length ≤ sizeLine ∧ ∃ (its : List Value) (n : Nat), Vals xs its ∧ xs.length = its.length ∧ s.heap.get? l = some { cls := .type "list", data := .seq its.toArray n } := by
 obtain ⟨z, its, n, r, e⟩ := I.hok l _ hH; exact ⟨z, its, n, r, r.length, e⟩
theorem Qv {n : Nat} (h : n ≤ sizeLine) : Builtin.List.listTooLong n = false := by
 unfold Builtin.List.listTooLong; exact decide_eq_false (by omega)
end
section
variable {X : Cx}
def Sa : V → List V → Hp → VK → Prop := fun x vs H Q => ∃ l xs y, x = .ref l ∧ vs = [y] ∧ H l = some (.lst xs) ∧ xs.length < sizeLine ∧ Q .non (aN H l (.lst (xs ++ [y])))
theorem Jv : Oa X "list.append" Sa := by
 intro pins s σ H x vs v us Q I rx rv h; obtain ⟨l, xs, y, rfl, rfl, hH, hz, q⟩ := h
 cases rx
 obtain ⟨u, rfl, ru⟩ := rv.one; obtain ⟨z, its, n, r, hl, e⟩ := I.lstM hH; refine call_meets F.slot_list_append ⟨_, e, rfl⟩ F.entry_list_append (F.args_list_append_2 _ _) (PySem.list_append l its.toArray n u (by rw [List.size_toArray]; omega)) ⟨e, ?_⟩
 refine ⟨.non, _, I.lset (its' := its ++ [u]) hH e (by simp) (r.append (.cons ru .nil)) ?_, rfl, q⟩
 rw [List.length_append, List.length_singleton]; omega
end
end L2
namespace Att
open PySem PySem.W PySem.Calls PyProof.Rows
theorem O5 {P : Params} {h : Heap} : ∀ (ns : List Int) (vs : List Value), WellAll P h vs (ns.map WData.int) → IntsAre vs ns := by
 intro ns
 induction ns with
 | nil =>
  intro vs w; rw [List.map_nil] at w
  cases w
  exact .nil
 | cons n ns ih =>
  intro vs w; rw [List.map_cons] at w
  cases w with
  | cons a b =>
   cases a
   exact .cons _ _ (ih _ b)
theorem Pu {l : OpenLaw} {n : Nat} (hn : l.most = some n) {P : Params} {h : Heap} {args : List WData} {vals : List Value}
  (hpre : l.row.toRowW.claim.pre args = true) (hwl : WellAll P h vals args) :
  ∃ a vs ns, vals = [Value.ref a] ∧ args = [WData.list (ns.map WData.int)] ∧ h.get? a = some { cls := .type "list", data := .seq vs.toArray } ∧ IntsAre vs ns ∧ ns.length ≤ n := by
 have hsh : WShape.hasAll [] args [.list .int] = true := (pre_splitW hpre).1
 have hc : l.pre.holds [] { args := args } = true := (pre_splitW hpre).2
 obtain ⟨d, r, rfl, h1, h2⟩ := hasAllW_cons hsh; obtain rfl := hasAllW_nil h2; obtain ⟨xs, rfl, h3⟩ := hasW_list h1; obtain ⟨ns, rfl⟩ := items_int h3; have hlen : ns.length ≤ n := by
  unfold OpenLaw.pre at hc; have h4 : (WTm.not (.lt (.lit (.int (n : Int))) (.len (.arg 0)))).holds [] { args := [.list (ns.map .int)] } = true := by
   have h4 := (holds_andW hc).1
   rw [hn] at h4; exact h4
  have h5 := condW_of h4 (w_not (w_lt w_lit (w_len_list (w_arg rfl))))
  rw [List.length_map] at h5; refine Nat.le_of_not_lt fun q => ?_; have q' : (n : Int) < ((ns.length : Nat) : Int) := by omega
  first
   | (rw [decide_eq_true q'] at h5; exact absurd h5 (by decide))
   | (simp at h5; omega)
 cases hwl with
 | cons w1 w2 =>
  cases w2
  cases w1 with
  | list ho hall => exact ⟨_, _, ns, rfl, rfl, ho, O5 ns _ hall, hlen⟩
theorem Rv (l : OpenLaw) (args : List WData) : l.row.toRowW.claim.post args (.bool true) args = true :=
 postW_of (r := l.row.toRowW) (X := (true == true))
  (show WShape.has [] (.bool true) .bool = true by first | rfl | decide | simp [WShape.has, WShape.arms, WShape.armsAll])
  (show (WTm.eq .res (.lit (.bool true))).value [] { args := args, res := some (.bool true), after := args } = some (.bool (true == true)) from w_eq_bool (w_res rfl) w_lit) rfl
theorem attach_call {l : OpenLaw} {n : Nat} {q : Program} {loose : List Str} {XP : (Str → Option Value) → Heap → Prop} {YP : World → Heap → Prop} {d : DefRec}
  (hn : l.most = some n) (hdf : d.params.defaults = [])
  (call : ∀ (w : World) (s₀ s₁ : Shared) (mg mb : Str → Option Value) (fa : Addr) (o : Obj) (pm cd doc : Value) (a : Addr) (vs : List Value) (ns : List Int),
   Ground q loose [] XP w s₀ mg mb s₁.heap → YP w s₁.heap →
   s₁.heap.get? fa = some o → o.data = .func (docDef d.name d.params d.body d.scope pm cd doc) → s₁.heap.CodeRec cd d.name → mg d.name = some (.ref fa) →
   s₁.heap.get? a = some { cls := .type "list", data := .seq vs.toArray } → IntsAre vs ns → ns.length ≤ n → s₁.gens = #[] →
   codeAny (model l.prog w) callerA (.call (.ref fa) ⟨[.ref a], []⟩) (fun r s' => r = .ok (.ret (.bool true)) ∧ OldK s₁.heap s'.heap ∧ s'.os = s₁.os ∧ AllBare s'.gens) s₁) :
  WalkO q loose XP YP l.row.toRowW d [] (fun f vs => PySem.call f vs) := by
 intro w s₀ s₁ mg mb G Y fa o pm cd doc dV kV ho hd hcd hD hmg hg args vals as hpre hlay hrd hwl hlo; obtain rfl : dV = .none := Dflts.none hD hdf; obtain rfl : kV = .none := Dflts.noKw hD; obtain ⟨a, vs, ns, rfl, rfl, hobj, hints, hlen⟩ := Pu hn hpre hwl; refine enter_call (codeAny_mono (call w s₀ s₁ mg mb fa o pm cd doc a vs ns G Y ho (fd_plain hd) hcd hmg hobj hints hlen hg) fun r s' hq => ?_); obtain ⟨rfl, h2, h3, h4⟩ := hq; exact ⟨.inl ⟨.bool true, .bool true, [], rfl, fun _ => rfl, .bool true, Rv l _, fun _ => ⟨List.Pairwise.nil, fun _ hm => (nomatch hm)⟩⟩, h2, h3, h4⟩
end Att
namespace L2
open PySem PySem.Spec PyProof.Rows
theorem Eu : ∀ {vs : List Value} {ns : List Int}, IntsAre vs ns → Vals (ns.map V.int) vs
 | _, _, .nil => .nil
 | _, _, .cons n t h => .cons ⟨t, rfl⟩ (Eu h)
def Cy (H : Hp) : Prop := ∀ b, H b = none ∨ ∃ o xs, H b = some (.frz o (.lst xs))
theorem Th {P : Program} {w : World} {K : PySem.W.Frag} {mg mb : Str → Option Value} {CX : fB} {k : Nat} {fa a : Addr} {fd : FuncData} {x : Str} {sp : Sp} {s₁ : Shared} {vs : List Value} {ns : List Int}
  (KX : K.In s₁.heap) (hns : s₁.heap.Ns mainGlobals mg) (hb : s₁.heap.Ns builtinsNs mb) (hbb : ∀ x : Str, x ≠ "__name__" → mb x = bootBuiltins x) (hlim : s₁.heap.NoLimit) (hg : s₁.gens = #[])
  (ha : s₁.heap.get? a = some { cls := .type "list", data := .seq vs.toArray }) (hi : IntsAre vs ns) (hl : ns.length ≤ sizeLine) (hr : Room k callerA)
  (F : ∀ base : Heap, K.In base → base.Ns mainGlobals mg → FnOk P w K mg base CX k fa fd [x] sp) (hbind : ∀ (s : Shared) (u : Value), BindsTo s fd ⟨[u], []⟩ [(x, u)])
  (hsp : ∀ H : Hp, Cy H → SqL K H a (ns.map V.int) → sp [.ref a] H (fun v _ => v = .bl true) fun _ _ _ => False)
  (hCX : ∀ H e s', CX [] H s₁ (fun _ _ _ => False) e s' → False) :
  codeAny (model P w) callerA (.call (.ref fa) ⟨[.ref a], []⟩) (fun r s' => r = .ok (.ret (.bool true)) ∧ OldK s₁.heap s'.heap ∧ s'.os = s₁.os ∧ AllBare s'.gens) s₁ := by
 have rv := Eu hi
 have lenV := hi.length
 -- from an abstract heap in which nothing but the script may be tracked
 have core : ∀ H : Hp, Cy H → SqL K H a (ns.map V.int) → HOk P w H s₁.heap → (∀ b, H b ≠ none → b = a) → (H a ≠ none → K.lookup a = none) →
   codeAny (model P w) callerA (.call (.ref fa) ⟨[.ref a], []⟩) (fun r s' => r = .ok (.ret (.bool true)) ∧ OldK s₁.heap s'.heap ∧ s'.os = s₁.os ∧ AllBare s'.gens) s₁ := by
  intro H hO hS hok hA hK; have base_of : ∀ {b : Addr} {o : Obj}, s₁.heap.get? b = some o → H b = none → (iM s₁.heap H).get? b = some o := fun e n => L1 e n
  have noA : ∀ {b : Addr} {o : Obj} {es : Array DictEntry} {ep : Nat}, s₁.heap.get? b = some o → o.data = .dict es ep → H b = none := fun {b o es ep} e d => by
   cases q : H b with
   | none => rfl
   | some u =>
    have e' : b = a := hA b (by rw [q]; simp)
    subst e'; rw [ha] at e; cases e; have d' : Data.seq vs.toArray _ = Data.dict es ep := d
    cases d'
  have nsK : ∀ {b : Addr} {m : Str → Option Value}, s₁.heap.Ns b m → (iM s₁.heap H).Ns b m := fun {b m} ⟨o, es, ep, e, d, r⟩ => ⟨o, es, ep, base_of e (noA e d), d, r⟩
  have hKb : K.In (iM s₁.heap H) := fun b o e => base_of (KX b o e) (by
   cases q : H b with
   | none => rfl
   | some u =>
    have e' : b = a := hA b (by rw [q]; simp)
    subst e'; rw [hK (by rw [q]; simp)] at e; cases e)
  have hM : Mod K mg (iM s₁.heap H) := ⟨hKb, nsK hns, ⟨mb, nsK hb, hbb⟩, let ⟨mc, h1, h2⟩ := hlim; ⟨mc, nsK h1, h2⟩⟩
  have e0 : Env0 P w K mg (iM s₁.heap H) callerA [] s₁ H := ⟨rfl, hM, fun b o e => i5 e, Nat.le_of_eq (Pe _ _), trivial, fun b hb => absurd (show b ∈ ([] : List Addr) from hb) (by simp), hok, .of_eq hg⟩
  refine codeAny_mono ((F _ hKb (nsK hns)).run callerA [] s₁ H ⟨[.ref a], []⟩ [.ref a] [.ref a] _ _ hr e0 (hbind s₁ (.ref a)) (.cons rfl .nil) (hsp H hO hS)) fun r s' h => ?_
  cases r with
  | error e => exact (hCX H e s' h).elim
  | ok fl =>
   cases fl with
   | next => exact False.elim h
   | brk => exact False.elim h
   | cont => exact False.elim h
   | ret u =>
    obtain ⟨v, H', os, bare, un, hok', r', q⟩ := h; have q' : v = .bl true := q
    subst q'; obtain rfl : u = Value.bool true := r'; refine ⟨rfl, OldK.of_keep fun b o e => ?_, os, bare⟩
    cases q : H b with
    | none => exact un.keep b o e q (by intro z; exact absurd (show b ∈ ([] : List Addr) from z) (by simp)) (by simp)
    | some u =>
     rcases hO b with z | ⟨ob, xs, z⟩
     ·rw [q] at z; cases z
     ·have z2 := un.frzs b ob _ z
      obtain ⟨e1, _⟩ := hok b _ z; obtain ⟨e2, _⟩ := hok' b _ z2; rw [e] at e1; cases e1; exact e2
 cases hk : K.lookup a with
 | some o =>
  -- the script is one of the module's own objects
  have e := KX a o hk
  rw [ha] at e
  cases e
  refine core (fun _ => none) (fun _ => .inl rfl) (.inr ⟨_, vs.toArray, _, hk, rfl, rfl, rfl, by rw [List.size_toArray, lenV]; exact hl, by simpa using rv⟩) (fun b u z => by have z' : (none : Option HO) = some u := z; cases z') (fun b z => absurd rfl z) fun z => absurd rfl z
 | none =>
  refine core (fun b => if b = a then some (.frz { cls := .type "list", data := .seq vs.toArray } (.lst (ns.map V.int))) else none) (fun b => ?_) (.inl (.inr ⟨{ cls := .type "list", data := .seq vs.toArray }, if_pos rfl⟩)) (fun b u z => ?_) (fun b z => ?_) fun _ => hk
  ·by_cases hb : b = a
   ·exact .inr ⟨_, _, if_pos hb⟩
   ·exact .inl (if_neg hb)
  ·by_cases hb : b = a
   ·have z' := (if_pos hb).symm.trans z
    cases z'
    subst hb; exact ⟨ha, by rw [List.length_map]; exact hl, vs, _, rv, ha⟩
   ·have z' := (if_neg hb).symm.trans z
    cases z'
  ·by_cases hb : b = a
   ·exact hb
   ·exact absurd (if_neg hb) z
end L2
namespace L2
open PySem PySem.Spec PyProof.Rows
theorem walk_of {l : PySem.W.OpenLaw} {n k : Nat} {q : Program} {loose : List Str} {XP : (Str → Option Value) → Heap → Prop} {YP : World → Heap → Prop} {d : DefRec} {K : Params → PySem.W.Frag} {CX : World → fB} {sp : World → Sp} {x : Str}
  (hn : l.most = some n) (hn2 : n ≤ sizeLine) (hdf : d.params.defaults = []) (hr : Room k callerA)
  (hY : ∀ (w : World) (h : Heap), YP w h → (K w.params).In h)
  (F : ∀ (w : World) (mg : Str → Option Value) (fa : Addr) (h : Heap), (K w.params).In h → h.Ns mainGlobals mg → mg d.name = some (.ref fa) →
   ∃ fd : FuncData, (∀ (s : Shared) (u : Value), BindsTo s fd ⟨[u], []⟩ [(x, u)]) ∧
    ∀ base : Heap, (K w.params).In base → base.Ns mainGlobals mg → FnOk l.prog w (K w.params) mg base (CX w) k fa fd [x] (sp w))
  (hsp : ∀ (w : World) (H : Hp) (a : Addr) (ns : List Int), ns.length ≤ n → Cy H → SqL (K w.params) H a (ns.map V.int) → sp w [.ref a] H (fun v _ => v = .bl true) fun _ _ _ => False)
  (hCX : ∀ (w : World) (H : Hp) (s : Shared) (e : Value) (s' : Shared), CX w [] H s (fun _ _ _ => False) e s' → False) :
  PySem.W.WalkO q loose XP YP l.row.toRowW d [] (fun f vs => PySem.call f vs) := by
 refine Att.attach_call hn hdf fun w s₀ s₁ mg mb fa o pm cd doc a vs ns G Y ho hd hcd hmg hobj hints hlen hg => ?_; have KX := hY w _ Y
 obtain ⟨fd, hb, hF⟩ := F w mg fa _ KX G.T.g hmg; exact Th KX G.T.g G.T.b G.T.builtins G.T.nolimit hg hobj hints (Nat.le_trans hlen hn2) hr hF hb (fun H hO hS => hsp w H a ns hlen hO hS) fun H e s' => hCX w H s₁ e s'
end L2
namespace L2
open PySem PySem.Spec PyProof.Rows
def zF (s : Stmt) (j : Nat) : Stmt := match s with
 | .ClassDef _ _ _ body _ _ _ _ _ _ _ => body.getD j (.Pass ⟨0, 0, 0, 0⟩)
 | _ => .Pass ⟨0, 0, 0, 0⟩
def bC (s : Stmt) : Arguments := match s with
 | .FunctionDef _ a _ _ _ _ _ _ _ _ => a
 | _ => { posonlyargs := [], args := [], vararg := none, kwonlyargs := [], kw_defaults := [], kwarg := none, defaults := [] }
def aZ (s : Stmt) : List Stmt := match s with
 | .FunctionDef _ _ b _ _ _ _ _ _ _ => b
 | _ => []
def aO (s : Stmt) : Scope := match s with
 | .FunctionDef _ _ _ _ _ _ sc _ _ _ => sc
 | _ => { kind := .function, names := [], isGenerator := false, isCoroutine := false }
abbrev aT : fB := fun _ _ _ _ _ _ => False
abbrev E0 : XK := fun _ _ _ => False
theorem Gv {X : Cx} : tE aT X E0 := fun _ _ _ _ _ _ _ h => h.elim
structure Fun (K : PySem.W.Frag) (x qual : Str) (st : Stmt) (f : Addr) (fd : FuncData) : Prop where
 ex : ∃ (oc : Value) (od : Option Addr) (kV doc pm : Value) (an : Option Addr) (cdv ct : Value) (osl : Array (Option Value)),
  fd = PySem.W.fnOf x qual (bC st) (aZ st) (aO st) .none kV doc pm an cdv ct ∧ K.lookup f = some ⟨oc, od, .func fd, osl⟩ ∧ PySem.W.codeIn K cdv qual = true
 kp : PySem.W.keepIn K (.ref f) = true
section
variable {P : Program} {w : World} {K : PySem.W.Frag} {mg : Str → Option Value} {base : Heap}
theorem Fun.ok {x qual : Str} {st : Stmt} {f : Addr} {fd : FuncData} {N ps : List Str} {k : Nat} {sp : Sp} (F : Fun K x qual st f fd) (S : FnScope N ps (aO st)) (len : ∀ vs H Q E, sp vs H Q E → vs.length = ps.length)
  (hbody : ∀ (cdv : Value) (A : Around) (outer : List Env) (s : Shared) (H : Hp) (vs : List V) (Q : VK) (E : XK), Room k (A.deeper (envOfC qual (aO st) s.heap.objs.size f cdv)) → sp vs H Q E →
   ∃ t, PSs (jY aT P w K mg base N qual (aO st) f cdv A outer s H E).nox (aZ st) t ∧ t { nx := fun _ H' => Q .non H', rt := Q } (start N vs) H) : FnOk P w K mg base aT (k + 1) f fd ps sp := by
 obtain ⟨oc, od, kV, doc, pm, an, cdv, ct, osl, rfl, lk, hcd⟩ := F.ex; refine D5 lk hcd S len fun A outer s H vs Q E hr hsp => ?_; obtain ⟨t, h, q⟩ := hbody cdv A outer s H vs Q E hr hsp; exact ⟨t, h.nox, q⟩
theorem Fun.binds {x qual : Str} {st : Stmt} {f : Addr} {fd : FuncData} {ps : List Str} (F : Fun K x qual st f fd)
  (h : ∀ (kV doc pm : Value) (an : Option Addr) (cdv ct : Value) (us : List Value), us.length = ps.length → bindArgs (PySem.W.fnOf x qual (bC st) (aZ st) (aO st) .none kV doc pm an cdv ct) ⟨us, []⟩ = pure (ps.zip us)) : Binds K fd ps [] := by
 obtain ⟨oc, od, kV, doc, pm, an, cdv, ct, osl, rfl, lk, hcd⟩ := F.ex; exact .all (h kV doc pm an cdv ct)
theorem cN {x qual : Str} {st : Stmt} {f : Addr} {oc : Value} {od an : Option Addr} {osl : Array (Option Value)} {kV doc pm cdv ct : Value} (l : K.lookup f = some ⟨oc, od, .func (PySem.W.fnOf x qual (bC st) (aZ st) (aO st) .none kV doc pm an cdv ct), osl⟩)
  (c : PySem.W.codeIn K cdv qual = true) (k : PySem.W.keepIn K (.ref f) = true) : Fun K x qual st f (PySem.W.fnOf x qual (bC st) (aZ st) (aO st) .none kV doc pm an cdv ct) := ⟨⟨oc, od, kV, doc, pm, an, cdv, ct, osl, rfl, l, c⟩, k⟩
end
theorem Xb {A B : Prop} (h : B) : if false = true then A else B := by
 rw [if_neg Bool.false_ne_true]; exact h
theorem W2 {A B : Prop} (h : A) : if true = true then A else B := by
 rw [if_pos rfl]; exact h
def Same (H H' : Hp) : Prop := ∀ b o, H b = some o → H' b = some o
theorem Same.refl (H : Hp) : Same H H := fun _ _ h => h
theorem Same.trans {H H1 H2 : Hp} (a : Same H H1) (b : Same H1 H2) : Same H H2 := fun c o h => b c o (a c o h)
theorem Same.free {H H' : Hp} (e : Same H H') {l : Addr} (h : H' l = Option.none) : H l = Option.none := by
 cases q : H l with
 | none => rfl
 | some o =>
  rw [e l o q] at h
  cases h
theorem Same.seq {K : PySem.W.Frag} {H H' : Hp} {a : Addr} {xs : List V} (e : Same H H') (h : SqL K H a xs) : SqL K H' a xs := by
 rcases h with (h | ⟨o, h⟩) | h
 ·exact .inl (.inl (e _ _ h))
 ·exact .inl (.inr ⟨o, e _ _ h⟩)
 ·exact .inr h
end L2
namespace L2
open PySem PySem.Spec PyProof.Rows
section
variable {κ : Type} [DecidableEq κ]
def bW (kvs : List (κ × V)) (k : κ) : Option V := (kvs.find? fun kv => decide (kv.1 = k)).map (·.2)
def cT (kvs : List (κ × V)) (k : κ) (v : V) : List (κ × V) :=
 if (kvs.any fun kv => decide (kv.1 = k)) = true then kvs.map (fun kv => if kv.1 = k then (kv.1, v) else kv) else kvs ++ [(k, v)]
def Fn (kvs : List (κ × V)) (k : κ) : List (κ × V) := kvs.filter fun kv => decide (kv.1 ≠ k)
theorem rW {p : κ × V} {r : List (κ × V)} {k : κ} (e : p.1 = k) : bW (p :: r) k = some p.2 := by simp [bW, List.find?_cons, e]
theorem rM {p : κ × V} {r : List (κ × V)} {k : κ} (e : ¬ p.1 = k) : bW (p :: r) k = bW r k := by simp [bW, List.find?_cons, e]
theorem xI (k : κ) : ∀ kvs : List (κ × V), (kvs.any fun kv => decide (kv.1 = k)) = (bW kvs k).isSome
 | [] => rfl
 | p :: r => by
  rw [List.any_cons]
  by_cases e : p.1 = k
  ·simp only [rW e, decide_eq_true e, Bool.true_or, Option.isSome_some]
  ·rw [rM e, decide_eq_false e, Bool.false_or]; exact xI k r
theorem Co (kvs : List (κ × V)) (k : κ) (v : V) : (cT kvs k v).length ≤ kvs.length + 1 := by
 unfold cT
 split
 ·rw [List.length_map]; omega
 ·rw [List.length_append, List.length_cons, List.length_nil]; omega
theorem RelO.isSome_eq {o : Option V} {u : Option Value} (r : RelO o u) : o.isSome = u.isSome := by
 cases o with
 | none => cases u with
  | none => rfl
  | some _ => exact (show False from r).elim
 | some _ => cases u with
  | none => exact (show False from r).elim
  | some _ => rfl
theorem RelO.getD {o : Option V} {u : Option Value} {d : V} {d' : Value} (r : RelO o u) (rd : RelV d d') : RelV (o.getD d) (u.getD d') := by
 cases o with
 | none => cases u with
  | none => exact rd
  | some _ => exact (show False from r).elim
 | some _ => cases u with
  | none => exact (show False from r).elim
  | some _ => exact r
theorem KV.val {kvs : List (κ × V)} {vs : List (κ × Value)} (r : KV kvs vs) (k : κ) : RelO (bW kvs k) (valueAt vs k) := by
 unfold KV at r
 induction r with
 | nil => exact True.intro
 | @cons p q ps qs h t ih =>
  obtain ⟨h1, h2⟩ := h
  by_cases e : p.1 = k
  ·have e' : q.1 = k := h1.symm.trans e
   have b : valueAt (q :: qs) k = some q.2 := by simp [valueAt, List.find?_cons, e']
   rw [rW e, b]; exact h2
  ·have e' : ¬ q.1 = k := fun z => e (h1.trans z)
   have b : valueAt (q :: qs) k = valueAt qs k := by simp [valueAt, List.find?_cons, e']
   rw [rM e, b]; exact ih
theorem KV.any {kvs : List (κ × V)} {vs : List (κ × Value)} (r : KV kvs vs) (k : κ) : (kvs.any fun kv => decide (kv.1 = k)) = vs.any fun kv => decide (kv.1 = k) := by
 unfold KV at r
 induction r with
 | nil => rfl
 | cons h t ih => rw [List.any_cons, List.any_cons, ih, h.1]
theorem KV.repl {kvs : List (κ × V)} {vs : List (κ × Value)} (r : KV kvs vs) (k : κ) {y : V} {u : Value} (ry : RelV y u) :
  KV (kvs.map fun kv => if kv.1 = k then (kv.1, y) else kv) (vs.map fun kv => if kv.1 = k then (kv.1, u) else kv) := by
 unfold KV at r ⊢
 induction r with
 | nil => exact .nil
 | @cons p q ps qs h t ih =>
  rw [List.map_cons, List.map_cons]; refine .cons ?_ ih; obtain ⟨h1, h2⟩ := h
  by_cases e : p.1 = k
  ·rw [if_pos e, if_pos (h1.symm.trans e)]; exact ⟨h1, ry⟩
  ·rw [if_neg e, if_neg (fun z => e (h1.trans z))]; exact ⟨h1, h2⟩
theorem KV.put {kvs : List (κ × V)} {vs : List (κ × Value)} (r : KV kvs vs) (k : κ) {y : V} {u : Value} (ry : RelV y u) : KV (cT kvs k y) (stored vs k u) := by
 unfold cT stored; rw [r.any k]
 by_cases e : (vs.any fun kv => decide (kv.1 = k)) = true
 ·rw [if_pos e, if_pos e]; exact r.repl k ry
 ·rw [if_neg e, if_neg e]; exact Paired.snoc r ⟨rfl, ry⟩
theorem KV.drop {kvs : List (κ × V)} {vs : List (κ × Value)} (r : KV kvs vs) (k : κ) : KV (Fn kvs k) (without vs k) := by
 unfold KV at r ⊢; unfold Fn without
 induction r with
 | nil => exact .nil
 | @cons p q ps qs h t ih =>
  obtain ⟨h1, h2⟩ := h; rw [List.filter_cons, List.filter_cons]
  by_cases e : p.1 = k
  ·have a : ¬ decide (p.1 ≠ k) = true := by simp [e]
   have b : ¬ decide (q.1 ≠ k) = true := by simp [h1.symm.trans e]
   rw [if_neg a, if_neg b]; exact ih
  ·have e' : ¬ q.1 = k := fun z => e (h1.trans z)
   have a : decide (p.1 ≠ k) = true := by simp [e]
   have b : decide (q.1 ≠ k) = true := by simp [e']
   rw [if_pos a, if_pos b]; exact .cons ⟨h1, h2⟩ ih
theorem KV.keys {kvs : List (κ × V)} {vs : List (κ × Value)} (r : KV kvs vs) : kvs.map (·.1) = vs.map (·.1) := by
 unfold KV at r
 induction r with
 | nil => rfl
 | cons h t ih => rw [List.map_cons, List.map_cons, ih, h.1]
theorem KV.length {kvs : List (κ × V)} {vs : List (κ × Value)} (r : KV kvs vs) : kvs.length = vs.length := Paired.length r
end
theorem uY {P : Program} {w : World} {k : aS} {u : Value} (r : RelV (kV k) u) : (cR P w).is k u = true := by
 cases k with
 | inl i => obtain ⟨t, e⟩ := (show ∃ t, u = Value.int i t from r); subst e; exact Xn P w i t
 | inr x => obtain ⟨t, e⟩ := (show ∃ t, u = Value.str x t from r); subst e; exact Wt P w x t
theorem Dl {P : Program} {w : World} : ∀ {ks : List aS} {us : List Value}, Vals (ks.map kV) us → ItemsAre (cR P w) ks us
 | [], _, r => by rw [List.map_nil] at r; cases r; exact .nil
 | k :: ks, _, r => by
  rw [List.map_cons] at r
  cases r with
  | cons h t => exact .cons (uY h) (Dl t)
abbrev KT (H : Hp) : List (List aS × V) → List (List aS × Addr × Value) → Prop := Paired fun p q => p.1 = q.1 ∧ H q.2.1 = some (.tup (p.1.map kV)) ∧ RelV p.2 q.2.2
theorem KT.val {H : Hp} {kvs : List (List aS × V)} {xs : List (List aS × Addr × Value)} (r : KT H kvs xs) (k : List aS) : RelO (bW kvs k) ((atKey xs k).map (·.2)) := by
 induction r with
 | nil => exact True.intro
 | @cons p q ps qs h t ih =>
  obtain ⟨h1, _, h2⟩ := h
  by_cases e : p.1 = k
  ·have e' : q.1 = k := h1.symm.trans e
   have b : atKey (q :: qs) k = some q.2 := by simp [atKey, List.find?_cons, e']
   rw [rW e, b]; exact h2
  ·have e' : ¬ q.1 = k := fun z => e (h1.trans z)
   have b : atKey (q :: qs) k = atKey qs k := by simp [atKey, List.find?_cons, e']
   rw [rM e, b]; exact ih
theorem KT.repl {H : Hp} {kvs : List (List aS × V)} {xs : List (List aS × Addr × Value)} (r : KT H kvs xs) (k : List aS) {y : V} {u : Value} (ry : RelV y u) :
  KT H (kvs.map fun kv => if kv.1 = k then (kv.1, y) else kv) (xs.map (putAt k u)) := by
 induction r with
 | nil => exact .nil
 | @cons p q ps qs h t ih =>
  rw [List.map_cons, List.map_cons]; refine .cons ?_ ih; obtain ⟨h1, h2, h3⟩ := h; unfold putAt
  by_cases e : p.1 = k
  ·rw [if_pos e, if_pos (h1.symm.trans e)]; exact ⟨h1, h2, ry⟩
  ·rw [if_neg e, if_neg (fun z => e (h1.trans z))]; exact ⟨h1, h2, h3⟩
theorem KT.put {H : Hp} {kvs : List (List aS × V)} {xs : List (List aS × Addr × Value)} (r : KT H kvs xs) (k : List aS) {b : Addr} {y : V} {u : Value} (hb : H b = some (.tup (k.map kV))) (ry : RelV y u) :
  KT H (cT kvs k y) (storedH xs k b u) := by
 have e : (kvs.any fun kv => decide (kv.1 = k)) = (atKey xs k).isSome := by
  rw [xI, (r.val k).isSome_eq, Option.isSome_map]
 unfold cT storedH; rw [e]
 by_cases q : (atKey xs k).isSome = true
 ·rw [if_pos q, if_pos q]; exact r.repl k ry
 ·rw [if_neg q, if_neg q]; exact Paired.snoc r ⟨rfl, hb, ry⟩
theorem KT.keeps {H H' : Hp} {kvs : List (List aS × V)} {xs : List (List aS × Addr × Value)} (r : KT H kvs xs) (ht : ∀ b ys, H b = some (.tup ys) → H' b = some (.tup ys)) : KT H' kvs xs :=
 Paired.mapP r fun _ _ z => ⟨z.1, ht _ _ z.2.1, z.2.2⟩
section
variable {P : Program} {w : World} {H : Hp} {h : Heap} {a : Addr}
theorem Gi {u : HO} (ok : HOk P w H h) (e : Rd H a u) : ObjOk P w H h a u := e.ok ok
theorem Bi {kvs : List (aS × V)} (ok : HOk P w H h) (e : Rd H a (.dK kvs)) : kvs.length ≤ sizeLine ∧ (a == sysModules) = false ∧ ∃ vs, KV kvs vs ∧ h.DictOf (cR P w) a vs :=
 show ObjOk P w H h a (.dK kvs) from Gi ok e
theorem Xv {kvs : List (aS × V)} (ok : HOk P w H h) (e : H a = some (.dK kvs)) : kvs.length ≤ sizeLine ∧ (a == sysModules) = false ∧ ∃ vs, KV kvs vs ∧ h.DictOf (cR P w) a vs := Bi ok (.inl e)
theorem Bz {ks : List aS} (ok : HOk P w H h) (e : H a = some (.tup (ks.map kV))) : (tupleKind (cR P w)).is h ks a := by
 obtain ⟨_, its, r, o, h1, h2, n, h3⟩ := (show ObjOk P w H h a (.tup (ks.map kV)) from ok a _ e)
 exact ⟨o, its.toArray, n, h1, h2, h3, by simpa using Dl r⟩
theorem Ig {kvs : List (List aS × V)} (ok : HOk P w H h) (e : Rd H a (.dT kvs)) : kvs.length ≤ sizeLine ∧ (a == sysModules) = false ∧
  ∃ xs, KT H kvs xs ∧ h.DictOfH (tupleKind (cR P w)) a xs := by
 obtain ⟨z, y, xs, r, o, es, ep, h1, h2, h3, h4, h5⟩ := (show ObjOk P w H h a (.dT kvs) from Gi ok e)
 refine ⟨z, y, xs, r, o, es, ep, h1, h2, h3, h4, fun x hx => ?_, h5⟩; have all : ∀ {l : List (List aS × V)} {m : List (List aS × Addr × Value)}, KT H l m → ∀ x ∈ m, (tupleKind (cR P w)).is h x.1 x.2.1 := by
  intro l m q
  induction q with
  | nil => intro x hx; exact nomatch hx
  | @cons p q ps qs hq t ih =>
   intro x hx; rcases List.mem_cons.mp hx with e | hx
   ·subst e; exact Bz ok (by rw [← hq.1]; exact hq.2.1)
   ·exact ih x hx
 exact all r x hx
theorem Zs {kvs : List (List aS × V)} (ok : HOk P w H h) (e : H a = some (.dT kvs)) : kvs.length ≤ sizeLine ∧ (a == sysModules) = false ∧
  ∃ xs, KT H kvs xs ∧ h.DictOfH (tupleKind (cR P w)) a xs := Ig ok (.inl e)
end
def DGet (H : Hp) (a : Addr) (y : V) (r : Option V) : Prop :=
 (∃ kvs k, Rd H a (.dK kvs) ∧ y = kV k ∧ r = bW kvs k) ∨ ∃ kvs k b, Rd H a (.dT kvs) ∧ y = .ref b ∧ H b = some (.tup (k.map kV)) ∧ r = bW kvs k
def DPut (H : Hp) (a : Addr) (y v : V) (H' : Hp) : Prop :=
 (∃ kvs k, H a = some (.dK kvs) ∧ y = kV k ∧ kvs.length < sizeLine ∧ H' = aN H a (.dK (cT kvs k v))) ∨
 ∃ kvs k b, H a = some (.dT kvs) ∧ y = .ref b ∧ H b = some (.tup (k.map kV)) ∧ kvs.length < sizeLine ∧ H' = aN H a (.dT (cT kvs k v))
theorem DGet.k {H : Hp} {a : Addr} {kvs : List (aS × V)} {k : aS} (e : H a = some (.dK kvs)) : DGet H a (kV k) (bW kvs k) := .inl ⟨kvs, k, .inl e, rfl, rfl⟩
theorem DGet.t {H : Hp} {a b : Addr} {kvs : List (List aS × V)} {k : List aS} (e : H a = some (.dT kvs)) (eb : H b = some (.tup (k.map kV))) : DGet H a (.ref b) (bW kvs k) := .inr ⟨kvs, k, b, .inl e, rfl, eb, rfl⟩
theorem DPut.k {H : Hp} {a : Addr} {kvs : List (aS × V)} {k : aS} {v : V} (e : H a = some (.dK kvs)) (hl : kvs.length < sizeLine) : DPut H a (kV k) v (aN H a (.dK (cT kvs k v))) := .inl ⟨kvs, k, e, rfl, hl, rfl⟩
theorem DPut.t {H : Hp} {a b : Addr} {kvs : List (List aS × V)} {k : List aS} {v : V} (e : H a = some (.dT kvs)) (eb : H b = some (.tup (k.map kV))) (hl : kvs.length < sizeLine) :
  DPut H a (.ref b) v (aN H a (.dT (cT kvs k v))) := .inr ⟨kvs, k, b, e, rfl, eb, hl, rfl⟩
section
variable {X : Cx} {pins : List (Addr × Obj)} {σ : St} {H : Hp} {s : Shared} {a : Addr} {y v : V} {u r : Value} {o : Option V} {A : Around} {E : Value → Shared → Prop}
theorem Inv.big (I : Inv X pins σ H s) : sysModules < s.heap.objs.size := by
 have h : mainGlobals < s.heap.objs.size := (I.mod.glob.keeps I.bk).lt
 exact Nat.lt_trans (by decide) h
theorem M5 {Q : Value → Shared → Prop} (hu : A.units + 1 < cLine) (I : Inv X pins σ H s) (g : DGet H a y o) (ry : RelV y u) (h : ∀ s', Inv X pins σ H s' → Q (.bool o.isSome) s') :
  wpAny (model X.prog X.w) A (compareOp .In u (.ref a)) Q E s := by
 rcases g with ⟨kvs, k, e, ey, l⟩ | ⟨kvs, k, b, e, ey, eb, l⟩
 ·subst ey; obtain ⟨z, hd, vs, rel, dd⟩ := Bi I.hok e; refine wpAny_in_of (uY ry) hd dd.mapOf ?_; rw [← (rel.val k).isSome_eq, ← l]; exact h _ (I.tok _)
 ·subst ey
  cases (show u = Value.ref b from ry)
  obtain ⟨z, hd, xs, rel, dd⟩ := Ig I.hok e; refine wpAny_in_heap (tupleKind_room_in1 hu) (Bz I.hok eb) hd dd ?_; have q := (rel.val k).isSome_eq
  rw [Option.isSome_map] at q; rw [← q, ← l]; exact h _ (I.tok _)
theorem Ag {h' : Heap} {t' : Nat} {ob : HO} (I : Inv X pins σ H s) (mu : qT (H a)) (hs : Heap.SameBut a s.heap h') (he : ∃ q, h'.get? a = some q) (new : ObjOk X.prog X.w (aN H a ob) h' a ob) :
  Inv X pins σ (aN H a ob) { s with heap := h', toks := t' } :=
 I.write (x := a) (e := a) mu (.inl rfl) (fun b q hb z => (hs.2 b hb).trans z) he new
theorem Og {P : Program} {w : World} {H' : Hp} {h' : Heap} {kvs : List (aS × V)} {vs : List (aS × Value)} (z : kvs.length ≤ sizeLine) (hd : (a == sysModules) = false) (rel : KV kvs vs) (dd : h'.DictOf (cR P w) a vs) :
  ObjOk P w H' h' a (.dK kvs) := ⟨z, hd, vs, rel, dd⟩
theorem Z1 {H' : Hp} {Q : Unit → Shared → Prop} (hu : A.units + 1 < cLine) (I : Inv X pins σ H s) (g : DPut H a y v H') (ry : RelV y u) (rv : RelV v r) (h : ∀ s', Inv X pins σ H' s' → Q () s') :
  wpAny (model X.prog X.w) A (setItem (.ref a) u r) Q E s := by
 rcases g with ⟨kvs, k, e, ey, l, eH⟩ | ⟨kvs, k, b, e, ey, eb, l, eH⟩
 ·subst ey eH; obtain ⟨z, hd, vs, rel, dd⟩ := Xv I.hok e; have hz : vs.length ≤ sizeLine := by rw [← rel.length]; exact z
  have hl : (cT kvs k v).length ≤ sizeLine := by have := Co kvs k v; omega
  refine wpAny_setItem_pairs (hsz := hz) (uY ry) dd fun h' dd' hs => h _ ?_; have he : ∃ q, h'.get? a = some q := let ⟨q, _, _, hq, _⟩ := dd'; ⟨q, hq⟩
  exact Ag I (by rw [e]; exact True.intro) hs he (Og hl hd (rel.put k rv) dd')
 ·subst ey eH
  cases (show u = Value.ref b from ry)
  obtain ⟨z, hd, xs, rel, dd⟩ := Zs I.hok e; have hz : xs.length ≤ sizeLine := by rw [← Paired.length rel]; exact z
  have hl : (cT kvs k v).length ≤ sizeLine := by have := Co kvs k v; omega
  refine wpAny_setItem_heap (hsz := hz) (tupleKind_room_in1 hu) (Bz I.hok eb) dd fun h' dd' hs => h _ ?_; obtain ⟨q, es, ep, hq, h2, h3, h4, _, h5⟩ := dd'; refine Ag I (by rw [e]; exact True.intro) hs ⟨q, hq⟩ ⟨hl, hd, _, (rel.put k eb rv).keeps fun c ys ec => ?_, q, es, ep, hq, h2, h3, h4, h5⟩
  rw [bG (yV ec e (fun z => nomatch z))]; exact ec
end
section
variable {X : Cx} {pins : List (Addr × Obj)} {σ : St} {H : Hp} {s : Shared} {a : Addr} {kvs : List (aS × V)} {k : aS} {u : Value} {A : Around} {E : Value → Shared → Prop}
theorem Wn {Q : Value → Shared → Prop} (I : Inv X pins σ H s) (e : Rd H a (.dK kvs)) (h : ∀ t s', Inv X pins σ H s' → Q (.int kvs.length t) s') : wpAny (model X.prog X.w) A (call (.builtin "len") [.ref a]) Q E s := by
 obtain ⟨z, hd, vs, rel, dd⟩ := Bi I.hok e; refine call_len_dict hd dd (by rw [← rel.length]; rw [sizeLine_eq] at z; omega) ?_
 rw [← rel.length]; exact h _ _ (I.tok _)
end
def rC (i : Expr) : Prop := ∀ ov iv, subscripted i false ov iv = operate [ov, iv] (getItem ov iv)
theorem Nu {prog : Program} {w : World} {A : Around} {E : Value → Shared → Prop} {s : Shared} {env : Env} {value slice : Expr} {pos : Pos} {T id : String} {Q : Value → Shared → Prop}
  (hl : typeLookup (.type T) "__getitem__" = pure (some (.builtin id))) (hs : rC slice)
  (h : wpAny (model prog w) A (eval value env) (fun o s₁ => wpAny (model prog w) A (eval slice env) (fun i s₂ => s₂.TypeIs o T ∧ wpAny (model prog w) A (getItem o i) Q E s₂) E s₁) E s) :
  wpAny (model prog w) A (eval (.Subscript value slice pos) env) Q E s := by
 refine Subscript_ (wpAny_mono h (fun o s₁ h₁ => wpAny_mono h₁ (fun i s₂ h₂ => ?_) fun _ _ x => x) fun _ _ x => x); obtain ⟨hT, h₂⟩ := h₂; unfold subscriptTail; refine wpAny_bind ?_; rw [getitemInPython_of_ne hT.not_modules]; refine wpAny_bind (wpAny_specialOf hT hl ?_); have fin : wpAny (model prog w) A (subscripted slice false o i) (fun r s₃ => wpAny (model prog w) A (letTemporaryGo value o r >>= fun _ => pure r) Q E s₃) E s₂ := by
  rw [hs o i]; exact wpAny_operating (wpAny_mono h₂ (fun r s₃ h₃ => wpAny_bind (wpAny_letTemporaryGo (wpAny_pure h₃))) fun _ _ x => x)
 first
  | exact wpAny_pure (wpAny_bind fin)
  | exact wpAny_bind (wpAny_pure (wpAny_bind fin))
  | exact wpAny_bind fin
def Xr (td ty tv : TE) : TS := fun D σ H => tv σ H fun v H1 => td σ H1 fun x H2 => ty σ H2 fun y H3 => ∃ a H4, x = .ref a ∧ DPut H3 a y v H4 ∧ D.nx σ H4
section
variable {X : Cx} {o i e value : Expr} {pos pos' tpos : Pos} {td ty tv : TE}
theorem P6 (hu : X.A.units + 1 < cLine) (ho : PE X o td) (hi : PE X i ty) (hv : PE X value tv) (hs : swapsWith value (some (.Subscript o i pos')) pos.line X.env = pure false) :
  PS X (.Assign [.Subscript o i pos'] value pos) (Xr td ty tv) := by
 intro pins s σ H D I h; refine wpAny_Assign_Subscript (aL (hv pins s σ H _ I h) fun r s1 ⟨v, H1, I1, rv, q1⟩ => aL (ho pins s1 σ H1 _ I1 q1) fun u s2 ⟨x, H2, I2, rx, q2⟩ => aL (hi pins s2 σ H2 _ I2 q2) fun iv s3 ⟨y, H3, I3, ry, a, H4, ex, g, q3⟩ => ?_) hs; subst ex; obtain rfl : u = Value.ref a := rx; exact Z1 hu I3 g ry rv fun s4 I4 => ⟨σ, H4, I4, q3⟩
end
theorem S6 {P : Program} {w : World} {H : Hp} (h : Heap) (hb : sysModules < h.objs.size) : ObjOk P w H (h.push { cls := .type "dict", data := .dict #[] }) h.objs.size (.dK []) :=
 ⟨Nat.zero_le _, beq_eq_false_iff_ne.mpr (Ne.symm (Nat.ne_of_lt hb)), [], .nil, Heap.DictOf.new h⟩
end L2
namespace DL
open PySem PySem.Spec PyProof.Rows L2
inductive D where
 | dat (p : PyData)
 | cel (a : Addr)
inductive Cel where
 | l (xs : List PyData)
 | d (kvs : List (aS × PyData))
 | t (kvs : List (List aS × PyData))
 | dl (kas : List (aS × Addr))
 | fd (kvs : List (aS × PyData))
 | ft (kvs : List (List aS × PyData))
 | n (kvs : List (List PyData × D))
 | g (kvs : List (aS × D))
 | o (N : Str) (fs : List (Str × D))
@[simp] def rK : Option Cel → Bool
 | some (.fd _) => true
 | some (.ft _) => true
 | _ => false
abbrev Mu := Addr → Option Cel
abbrev aY := List (Option D)
mutual
def RP (K : PySem.W.Frag) (Z : Addr → Prop) (m : Mu) (H : Hp) : PyData → V → Prop
 | .none, v => v = .non
 | .bool b, v => v = .bl b
 | .int i, v => v = .int i
 | .str x, v => v = .str x
 | .tuple xs, v => ∃ a vs, v = .ref a ∧ SqT K H a vs ∧ RPs K Z m H xs vs
 | .list xs, v => ∃ a vs, v = .ref a ∧ (m a = none ∧ ¬ Z a) ∧ SqL K H a vs ∧ RPs K Z m H xs vs
 | .dict _, _ => False
def RPs (K : PySem.W.Frag) (Z : Addr → Prop) (m : Mu) (H : Hp) : List PyData → List V → Prop
 | [], vs => vs = []
 | x :: xs, vs => ∃ v r, vs = v :: r ∧ RP K Z m H x v ∧ RPs K Z m H xs r
end
def RD (K : PySem.W.Frag) (Z : Addr → Prop) (m : Mu) (H : Hp) : D → V → Prop
 | .dat p, v => RP K Z m H p v
 | .cel a, v => v = .ref a ∧ (m a).isSome = true
def RDs (K : PySem.W.Frag) (Z : Addr → Prop) (m : Mu) (H : Hp) : List D → List V → Prop
 | [], vs => vs = []
 | x :: xs, vs => ∃ v r, vs = v :: r ∧ RD K Z m H x v ∧ RDs K Z m H xs r
def RKV {κ : Type} (K : PySem.W.Frag) (Z : Addr → Prop) (m : Mu) (H : Hp) : List (κ × PyData) → List (κ × V) → Prop
 | [], vs => vs = []
 | (k, p) :: xs, vs => ∃ v r, vs = (k, v) :: r ∧ RP K Z m H p v ∧ RKV K Z m H xs r
def RW (K : PySem.W.Frag) (Z : Addr → Prop) (m : Mu) (H : Hp) : D → V → Prop
 | .dat p, v => RP K Z m H p v
 | .cel a, v => v = .ref a
def RKW {κ : Type} (K : PySem.W.Frag) (Z : Addr → Prop) (m : Mu) (H : Hp) : List (κ × D) → List (κ × V) → Prop
 | [], vs => vs = []
 | (k, p) :: xs, vs => ∃ v r, vs = (k, v) :: r ∧ RW K Z m H p v ∧ RKW K Z m H xs r
def RC (K : PySem.W.Frag) (Z : Addr → Prop) (m : Mu) (H : Hp) : Cel → HO → Prop
 | .l xs, .lst vs => RPs K Z m H xs vs
 | .d kvs, .dK vs => RKV K Z m H kvs vs
 | .t kvs, .dT vs => RKV K Z m H kvs vs
 | .dl kas, .dK vs => vs = kas.map fun x => (x.1, V.ref x.2)
 | .fd kvs, .frz _ (.dK vs) => RKV K Z m H kvs vs
 | .ft kvs, .frz _ (.dT vs) => RKV K Z m H kvs vs
 | .n kvs, .dN K' vs => K' = K ∧ RKW K Z m H kvs vs
 | .g kvs, .dK vs => RKW K Z m H kvs vs
 | .o N fs, .ins C _ vs => PySem.W.nsIn K mainGlobals N = some (some (.ref C)) ∧ RKW K Z m H fs vs
 | _, _ => False
structure Ok (K : PySem.W.Frag) (Z : Addr → Prop) (m : Mu) (H : Hp) : Prop where
 g : ∀ a c, m a = some c → ∃ o, H a = some o ∧ RC K Z m H c o
 z : ∀ a, Z a → m a = none ∧ H a ≠ none
structure Ext (K : PySem.W.Frag) (Z : Addr → Prop) (m : Mu) (H : Hp) (m' : Mu) (H' : Hp) : Prop where
 t : ∀ a vs, SqT K H a vs → SqT K H' a vs
 l : ∀ a vs, (m a = none ∧ ¬ Z a) → SqL K H a vs → m' a = none ∧ SqL K H' a vs
 z : ∀ a, Z a → H' a = H a
 c : ∀ a, (m a).isSome = true → (m' a).isSome = true
 fz : ∀ a o u, H a = some (.frz o u) → H' a = some (.frz o u)
 fm : ∀ a, rK (m a) = true → m' a = m a
section
variable {K : PySem.W.Frag} {Z : Addr → Prop} {m m' m2 : Mu} {H H' H2 : Hp}
theorem Ext.refl : Ext K Z m H m H := ⟨fun _ _ h => h, fun _ _ h1 h2 => ⟨h1.1, h2⟩, fun _ _ => rfl, fun _ h => h, fun _ _ _ h => h, fun _ _ => rfl⟩
theorem Ext.trans (a : Ext K Z m H m' H') (b : Ext K Z m' H' m2 H2) : Ext K Z m H m2 H2 :=
 ⟨fun x vs h => b.t x vs (a.t x vs h), fun x vs h1 h2 => let ⟨q1, q2⟩ := a.l x vs h1 h2; b.l x vs ⟨q1, h1.2⟩ q2, fun x h => (b.z x h).trans (a.z x h), fun x h => b.c x (a.c x h), fun x o u h => b.fz x o u (a.fz x o u h), fun x h => by
  have q := a.fm x h
  rw [b.fm x (by rw [q]; exact h), q]⟩
mutual
theorem RP.ext (e : Ext K Z m H m' H') : ∀ (p : PyData) (v : V), RP K Z m H p v → RP K Z m' H' p v
 | .none, v, h => by simpa only [RP] using h
 | .bool _, v, h => by simpa only [RP] using h
 | .int _, v, h => by simpa only [RP] using h
 | .str _, v, h => by simpa only [RP] using h
 | .tuple xs, v, h => by
  simp only [RP] at h ⊢; obtain ⟨a, vs, h1, h2, h3⟩ := h; exact ⟨a, vs, h1, e.t a vs h2, RPs.ext e xs vs h3⟩
 | .list xs, v, h => by
  simp only [RP] at h ⊢; obtain ⟨a, vs, h1, h2, h3, h4⟩ := h; obtain ⟨q1, q2⟩ := e.l a vs h2 h3; exact ⟨a, vs, h1, ⟨q1, h2.2⟩, q2, RPs.ext e xs vs h4⟩
 | .dict _, v, h => by simp only [RP] at h
theorem RPs.ext (e : Ext K Z m H m' H') : ∀ (xs : List PyData) (vs : List V), RPs K Z m H xs vs → RPs K Z m' H' xs vs
 | [], vs, h => by simpa only [RPs] using h
 | x :: xs, vs, h => by
  simp only [RPs] at h ⊢; obtain ⟨v, r, h1, h2, h3⟩ := h; exact ⟨v, r, h1, RP.ext e x v h2, RPs.ext e xs r h3⟩
end
theorem RD.ext (e : Ext K Z m H m' H') {d : D} {v : V} (h : RD K Z m H d v) : RD K Z m' H' d v := by
 cases d with
 | dat p => exact RP.ext e p v h
 | cel a => exact ⟨h.1, e.c a h.2⟩
theorem RDs.ext (e : Ext K Z m H m' H') : ∀ {xs : List D} {vs : List V}, RDs K Z m H xs vs → RDs K Z m' H' xs vs
 | [], _, h => h
 | _ :: _, _, ⟨v, r, h1, h2, h3⟩ => ⟨v, r, h1, h2.ext e, RDs.ext e h3⟩
theorem RKV.lift {κ : Type} {Z' : Addr → Prop} (tr : ∀ p v, RP K Z m H p v → RP K Z' m' H' p v) : ∀ {xs : List (κ × PyData)} {vs : List (κ × V)}, RKV K Z m H xs vs → RKV K Z' m' H' xs vs
 | [], _, h => h
 | _ :: _, _, ⟨v, r, h1, h2, h3⟩ => ⟨v, r, h1, tr _ _ h2, RKV.lift tr h3⟩
theorem RKW.lift {κ : Type} {Z' : Addr → Prop} (tr : ∀ p v, RP K Z m H p v → RP K Z' m' H' p v) : ∀ {xs : List (κ × D)} {vs : List (κ × V)}, RKW K Z m H xs vs → RKW K Z' m' H' xs vs
 | [], _, h => h
 | (_, .dat _) :: _, _, ⟨v, r, h1, h2, h3⟩ => ⟨v, r, h1, tr _ _ h2, RKW.lift tr h3⟩
 | (_, .cel _) :: _, _, ⟨v, r, h1, h2, h3⟩ => ⟨v, r, h1, h2, RKW.lift tr h3⟩
theorem RPs.lift {Z' : Addr → Prop} (tr : ∀ p v, RP K Z m H p v → RP K Z' m' H' p v) : ∀ {ps : List PyData} {vs : List V}, RPs K Z m H ps vs → RPs K Z' m' H' ps vs
 | [], _, h => by simpa only [RPs] using h
 | _ :: _, _, h => by
  simp only [RPs] at h ⊢; obtain ⟨v, r, h1, h2, h3⟩ := h; exact ⟨v, r, h1, tr _ _ h2, RPs.lift tr h3⟩
theorem RC.lift {Z' : Addr → Prop} {c : Cel} {o : HO} (tr : ∀ p v, RP K Z m H p v → RP K Z' m' H' p v) (h : RC K Z m H c o) : RC K Z' m' H' c o := by
 cases c <;> cases o <;> first | exact RPs.lift tr h | exact RKV.lift tr h | exact RKW.lift tr h | exact ⟨h.1, RKW.lift tr h.2⟩ | exact h | (rename_i ob u; cases u <;> first | exact RKV.lift tr h | exact h)
theorem RC.ext {c : Cel} {o : HO} (e : Ext K Z m H m' H') (h : RC K Z m H c o) : RC K Z m' H' c o := h.lift fun p v q => RP.ext e p v q
theorem RC.mut {c : Cel} {o : HO} (h : RC K Z m H c o) (nf : rK (some c) = false) : (∀ xs, o ≠ .tup xs) ∧ (∀ a b, o ≠ .frz a b) := by
 cases c with
 | fd _ => cases nf
 | ft _ => cases nf
 | dl _ => cases o <;> first | exact h.elim | exact ⟨fun _ e => (nomatch e), fun _ _ e => (nomatch e)⟩
 | l _ => cases o <;> first | exact h.elim | exact ⟨fun _ e => (nomatch e), fun _ _ e => (nomatch e)⟩
 | d _ => cases o <;> first | exact h.elim | exact ⟨fun _ e => (nomatch e), fun _ _ e => (nomatch e)⟩
 | n _ => cases o <;> first | exact h.elim | exact ⟨fun _ e => (nomatch e), fun _ _ e => (nomatch e)⟩
 | g _ => cases o <;> first | exact h.elim | exact ⟨fun _ e => (nomatch e), fun _ _ e => (nomatch e)⟩
 | o _ _ => cases o <;> first | exact h.elim | exact ⟨fun _ e => (nomatch e), fun _ _ e => (nomatch e)⟩
 | t _ => cases o <;> first | exact h.elim | exact ⟨fun _ e => (nomatch e), fun _ _ e => (nomatch e)⟩
theorem Ok.l {a : Addr} {xs : List PyData} (ok : Ok K Z m H) (h : m a = some (.l xs)) : ∃ vs, H a = some (.lst vs) ∧ RPs K Z m H xs vs := by
 obtain ⟨o, h1, h2⟩ := ok.g a _ h
 cases o <;> first | exact ⟨_, h1, h2⟩ | exact h2.elim
theorem Ok.d {a : Addr} {xs : List (aS × PyData)} (ok : Ok K Z m H) (h : m a = some (.d xs)) : ∃ vs, H a = some (.dK vs) ∧ RKV K Z m H xs vs := by
 obtain ⟨o, h1, h2⟩ := ok.g a _ h
 cases o <;> first | exact ⟨_, h1, h2⟩ | exact h2.elim
theorem Ok.t {a : Addr} {xs : List (List aS × PyData)} (ok : Ok K Z m H) (h : m a = some (.t xs)) : ∃ vs, H a = some (.dT vs) ∧ RKV K Z m H xs vs := by
 obtain ⟨o, h1, h2⟩ := ok.g a _ h
 cases o <;> first | exact ⟨_, h1, h2⟩ | exact h2.elim
theorem RPs.length : ∀ {xs : List PyData} {vs : List V}, RPs K Z m H xs vs → vs.length = xs.length
 | [], _, h => by simp only [RPs] at h; subst h; rfl
 | _ :: xs, _, h => by
  simp only [RPs] at h; obtain ⟨v, r, h1, _, h3⟩ := h; subst h1; rw [List.length_cons, List.length_cons, RPs.length h3]
theorem RDs.length : ∀ {xs : List D} {vs : List V}, RDs K Z m H xs vs → vs.length = xs.length
 | [], _, h => by cases (show _ = [] from h); rfl
 | _ :: xs, _, ⟨v, r, h1, _, h3⟩ => by
  subst h1; rw [List.length_cons, List.length_cons, RDs.length h3]
theorem RPs.get : ∀ {xs : List PyData} {vs : List V} {i : Nat} {p : PyData}, RPs K Z m H xs vs → xs[i]? = some p → ∃ v, vs[i]? = some v ∧ RP K Z m H p v
 | [], _, _, _, _, e => by simp at e
 | x :: xs, _, 0, p, h, e => by
  simp only [RPs] at h; obtain ⟨v, r, h1, h2, _⟩ := h; simp at e; subst h1 e; exact ⟨v, rfl, h2⟩
 | x :: xs, _, i + 1, p, h, e => by
  simp only [RPs] at h; obtain ⟨v, r, h1, _, h3⟩ := h; obtain ⟨u, q1, q2⟩ := RPs.get (i := i) (p := p) h3 (by simpa using e)
  subst h1; exact ⟨u, by simpa using q1, q2⟩
theorem RPs.set : ∀ {xs : List PyData} {vs : List V} {i : Nat} {p : PyData} {v : V}, RPs K Z m H xs vs → RP K Z m H p v → RPs K Z m H (xs.set i p) (vs.set i v)
 | [], _, _, _, _, h, _ => by simp only [RPs] at h; subst h; simp [RPs]
 | x :: xs, _, 0, p, v, h, q => by
  simp only [RPs] at h; obtain ⟨w, r, h1, _, h3⟩ := h; subst h1; simp only [List.set_cons_zero, RPs]; exact ⟨v, r, rfl, q, h3⟩
 | x :: xs, _, i + 1, p, v, h, q => by
  simp only [RPs] at h; obtain ⟨w, r, h1, h2, h3⟩ := h; subst h1; simp only [List.set_cons_succ, RPs]; exact ⟨w, _, rfl, h2, RPs.set h3 q⟩
theorem RPs.append : ∀ {xs ys : List PyData} {vs ws : List V}, RPs K Z m H xs vs → RPs K Z m H ys ws → RPs K Z m H (xs ++ ys) (vs ++ ws)
 | [], _, _, _, h, q => by simp only [RPs] at h; subst h; simpa using q
 | x :: xs, _, _, _, h, q => by
  simp only [RPs] at h; obtain ⟨w, r, h1, h2, h3⟩ := h; subst h1; simp only [List.cons_append, RPs]; exact ⟨w, _, rfl, h2, RPs.append h3 q⟩
theorem RPs.drop : ∀ {xs : List PyData} {vs : List V} (n : Nat), RPs K Z m H xs vs → RPs K Z m H (xs.drop n) (vs.drop n)
 | _, _, 0, h => by simpa using h
 | [], _, n + 1, h => by simp only [RPs] at h; subst h; simp [RPs]
 | x :: xs, _, n + 1, h => by
  simp only [RPs] at h; obtain ⟨w, r, h1, h2, h3⟩ := h; subst h1; simpa using RPs.drop n h3
theorem RPs.take : ∀ {xs : List PyData} {vs : List V} (n : Nat), RPs K Z m H xs vs → RPs K Z m H (xs.take n) (vs.take n)
 | _, _, 0, h => by simp [RPs]
 | [], _, n + 1, h => by simp only [RPs] at h; subst h; simp [RPs]
 | x :: xs, _, n + 1, h => by
  simp only [RPs] at h; obtain ⟨w, r, h1, h2, h3⟩ := h; subst h1; simp only [List.take_succ_cons, RPs]; exact ⟨w, _, rfl, h2, RPs.take n h3⟩
theorem RPs.reverse : ∀ {xs : List PyData} {vs : List V}, RPs K Z m H xs vs → RPs K Z m H xs.reverse vs.reverse
 | [], _, h => by simp only [RPs] at h; subst h; simp [RPs]
 | x :: xs, _, h => by
  simp only [RPs] at h; obtain ⟨w, r, h1, h2, h3⟩ := h; subst h1; rw [List.reverse_cons, List.reverse_cons]; exact (RPs.reverse h3).append (by simp only [RPs]; exact ⟨w, [], rfl, h2, rfl⟩)
@[simp] def pds : List D → Option (List PyData)
 | [] => some []
 | .dat p :: r => (pds r).map (p :: ·)
 | .cel _ :: _ => none
theorem RDs.pds : ∀ {xs : List D} {vs : List V} {ps : List PyData}, RDs K Z m H xs vs → DL.pds xs = some ps → RPs K Z m H ps vs
 | [], vs, ps, h, e => by
  cases (show vs = [] from h)
  cases (show some [] = some ps from e)
  simp [RPs]
 | .dat p :: r, vs, ps, ⟨v, w, h1, h2, h3⟩, e => by
  simp only [DL.pds] at e
  cases q : DL.pds r with
  | none => rw [q] at e; cases e
  | some qs =>
   rw [q] at e
   cases e
   simp only [RPs]; exact ⟨v, w, h1, h2, RDs.pds h3 q⟩
 | .cel a :: r, _, _, _, e => by simp only [DL.pds] at e; cases e
theorem SqT.same {a : Addr} {xs : List V} (e : Same H H') (h : SqT K H a xs) : SqT K H' a xs := by
 rcases h with (h | ⟨o, h⟩) | h
 ·exact .inl (.inl (e _ _ h))
 ·exact .inl (.inr ⟨o, e _ _ h⟩)
 ·exact .inr h
theorem Ext.grow (s : Same H H') (hz : ∀ a, Z a → H a ≠ none) : Ext K Z m H m H' := ⟨fun _ _ h => SqT.same s h, fun _ _ h1 h2 => ⟨h1.1, s.seq h2⟩, fun a h => by
 cases q : H a with
 | none => exact absurd q (hz a h)
 | some o => exact s a o q, fun _ h => h, fun a o u h => s _ _ h, fun _ _ => rfl⟩
theorem Ok.grow (s : Same H H') (ok : Ok K Z m H) : Ok K Z m H' := by
 have e : Ext K Z m H m H' := Ext.grow s fun a h => (ok.z a h).2
 refine ⟨fun a c h => ?_, fun a h => ⟨(ok.z a h).1, by rw [e.z a h]; exact (ok.z a h).2⟩⟩
 obtain ⟨o, h1, h2⟩ := ok.g a c h; exact ⟨o, s _ _ h1, h2.ext e⟩
theorem Ok.ext (s : Same H H') (ok : Ok K Z m H) : Ext K Z m H m H' := Ext.grow s fun a h => (ok.z a h).2
theorem cW {p : Addr} {o : HO} (h : H p = none) : Same H (aN H p o) := fun b u q => by rw [bG (lP q h)]; exact q
def bN (m : Mu) (a : Addr) (c : Cel) : Mu := fun b => if b = a then some c else m b
theorem cX {a : Addr} {c : Cel} : bN m a c a = some c := by unfold bN; rw [if_pos rfl]
theorem bP {a b : Addr} {c : Cel} (h : b ≠ a) : bN m a c b = m b := by unfold bN; rw [if_neg h]
theorem SqL.ne {p a : Addr} {xs : List V} (hp : H p = none) (hk : K.lookup p = none) (h : SqL K H a xs) : a ≠ p := by
 rintro rfl; rcases h with (h | ⟨o, h⟩) | ⟨o, _, _, h, _⟩
 ·rw [hp] at h; cases h
 ·rw [hp] at h; cases h
 ·rw [hk] at h; cases h
theorem Ext.cell {p : Addr} {o : HO} {c : Cel} (ok : Ok K Z m H) (hp : H p = none) (hk : K.lookup p = none) : Ext K Z m H (bN m p c) (aN H p o) := by
 refine ⟨fun _ _ h => SqT.same (cW hp) h, fun a xs h1 h2 => ?_, fun a h => ?_, fun a h => ?_, fun a o u h => cW hp _ _ h, fun a h => ?_⟩
 ·have ne := SqL.ne hp hk h2
  exact ⟨by rw [bP ne]; exact h1.1, (cW hp).seq h2⟩
 ·have ne : a ≠ p := fun e => (ok.z a h).2 (by rw [e]; exact hp)
  exact bG ne
 ·by_cases e : a = p
  ·subst e; rw [cX]; rfl
  ·rw [bP e]; exact h
 ·have ne : a ≠ p := by
   rintro rfl
   cases q : m a with
   | none => rw [q] at h; cases h
   | some x =>
    obtain ⟨w, h1, _⟩ := ok.g a x q; rw [hp] at h1
    cases h1
  exact bP ne
theorem Ok.updC {p : Addr} {o : HO} {c : Cel} (ok : Ok K Z m H) (hz : ¬ Z p) (e : Ext K Z m H (bN m p c) (aN H p o)) (r : RC K Z m H c o) : Ok K Z (bN m p c) (aN H p o) := by
 refine ⟨fun a x h => ?_, fun a h => ?_⟩
 ·by_cases q : a = p
  ·subst q; rw [cX] at h
   cases h
   exact ⟨o, cZ, r.ext e⟩
  ·rw [bP q] at h; obtain ⟨w, h1, h2⟩ := ok.g a x h; exact ⟨w, by rw [bG q]; exact h1, h2.ext e⟩
 ·have ne : a ≠ p := fun e => hz (e ▸ h)
  exact ⟨by rw [bP ne]; exact (ok.z a h).1, by rw [bG ne]; exact (ok.z a h).2⟩
theorem Ok.cell {p : Addr} {o : HO} {c : Cel} (ok : Ok K Z m H) (hp : H p = none) (hk : K.lookup p = none) (r : RC K Z m H c o) : Ok K Z (bN m p c) (aN H p o) :=
 ok.updC (fun h => (ok.z p h).2 hp) (Ext.cell ok hp hk) r
theorem Ext.put {a : Addr} {o o0 : HO} {c c0 : Cel} (ok : Ok K Z m H) (hm : m a = some c0) (hH : H a = some o0) (nf : rK (some c0) = false := by rfl) : Ext K Z m H (bN m a c) (aN H a o) := by
 have mu : (∀ xs, o0 ≠ .tup xs) ∧ (∀ a b, o0 ≠ .frz a b) := by
  obtain ⟨w, h1, h2⟩ := ok.g a c0 hm; rw [hH] at h1
  cases h1
  exact h2.mut nf
 refine ⟨fun b xs h => ?_, fun b xs h1 h2 => ?_, fun b h => ?_, fun b h => ?_, fun b w u h => ?_, fun b h => ?_⟩
 ·rcases h with (h | ⟨w, h⟩) | h
  ·have ne : b ≠ a := by rintro rfl; rw [hH] at h; cases h; exact absurd rfl (mu.1 _)
   exact .inl (.inl (by rw [bG ne]; exact h))
  ·have ne : b ≠ a := by rintro rfl; rw [hH] at h; cases h; exact absurd rfl (mu.2 _ _)
   exact .inl (.inr ⟨w, by rw [bG ne]; exact h⟩)
  ·exact .inr h
 ·have ne : b ≠ a := by rintro rfl; rw [hm] at h1; cases h1.1
  refine ⟨by rw [bP ne]; exact h1.1, ?_⟩
  rcases h2 with (h | ⟨w, h⟩) | h
  ·exact .inl (.inl (by rw [bG ne]; exact h))
  ·exact .inl (.inr ⟨w, by rw [bG ne]; exact h⟩)
  ·exact .inr h
 ·have ne : b ≠ a := by rintro rfl; have := (ok.z b h).1; rw [hm] at this; cases this
  exact bG ne
 ·by_cases e : b = a
  ·subst e; rw [cX]; rfl
  ·rw [bP e]; exact h
 ·have ne : b ≠ a := by rintro rfl; rw [hH] at h; cases h; exact absurd rfl (mu.2 _ _)
  rw [bG ne]; exact h
 ·have ne : b ≠ a := by rintro rfl; rw [hm, nf] at h; cases h
  exact bP ne
theorem Ok.put {a : Addr} {o o0 : HO} {c c0 : Cel} (ok : Ok K Z m H) (hm : m a = some c0) (hH : H a = some o0) (r : RC K Z m H c o) (nf : rK (some c0) = false := by rfl) : Ok K Z (bN m a c) (aN H a o) :=
 ok.updC (fun h => by have := (ok.z a h).1; rw [hm] at this; cases this) (Ext.put ok hm hH nf) r
def RS (K : PySem.W.Frag) (Z : Addr → Prop) (m : Mu) (H : Hp) (d : aY) (s : L2.St) : Prop := d.length = s.length ∧ ∀ (i : Nat) (x : D), d[i]? = some (some x) → ∃ v, s[i]? = some (some v) ∧ RD K Z m H x v
theorem RS.ext {d : aY} {s : L2.St} (r : RS K Z m H d s) (e : Ext K Z m H m' H') : RS K Z m' H' d s := ⟨r.1, fun i x h => let ⟨v, h1, h2⟩ := r.2 i x h; ⟨v, h1, h2.ext e⟩⟩
theorem RS.set {d : aY} {s : L2.St} {i : Nat} {x : D} {v : V} (r : RS K Z m H d s) (h : RD K Z m H x v) : RS K Z m H (d.set i (some x)) (s.set i (some v)) := by
 refine ⟨by rw [List.length_set, List.length_set]; exact r.1, fun j y q => ?_⟩
 by_cases e : j = i
 ·subst e; rw [List.getElem?_set] at q; simp only [if_true] at q
  split at q
  ·rename_i hl
   cases q
   refine ⟨v, ?_, h⟩; rw [List.getElem?_set]; simp only [if_true]; rw [if_pos (by rw [← r.1]; exact hl)]
  ·cases q
 ·rw [List.getElem?_set_ne (Ne.symm e)] at q; obtain ⟨w, h1, h2⟩ := r.2 j y q; exact ⟨w, by rw [List.getElem?_set_ne (Ne.symm e)]; exact h1, h2⟩
end
abbrev DK := D → Mu → Prop
abbrev DE := aY → Mu → DK → Prop
abbrev DT := aY → Mu → (Bool → Mu → Prop) → Prop
abbrev DA := aY → Mu → (List D → Mu → Prop) → Prop
structure Ends2 where
 nx : aY → Mu → Prop
 rt : DK
 bk : aY → Mu → Prop := fun _ _ => False
 ct : aY → Mu → Prop := fun _ _ => False
abbrev DS := Ends2 → aY → Mu → Prop
def LE (K : PySem.W.Frag) (f : DE) : TE := fun s H Q => ∃ (Z : Addr → Prop) (d : aY) (m : Mu) (R : DK), Ok K Z m H ∧ RS K Z m H d s ∧ f d m R ∧
 ∀ x m' v H', R x m' → Ext K Z m H m' H' → Ok K Z m' H' → RD K Z m' H' x v → Q v H'
def LT (K : PySem.W.Frag) (f : DT) : TT := fun s H Q => ∃ (Z : Addr → Prop) (d : aY) (m : Mu) (R : Bool → Mu → Prop), Ok K Z m H ∧ RS K Z m H d s ∧ f d m R ∧
 ∀ b m' H', R b m' → Ext K Z m H m' H' → Ok K Z m' H' → Q b H'
def LA (K : PySem.W.Frag) (f : DA) : TA := fun s H Q => ∃ (Z : Addr → Prop) (d : aY) (m : Mu) (R : List D → Mu → Prop), Ok K Z m H ∧ RS K Z m H d s ∧ f d m R ∧
 ∀ xs m' vs H', R xs m' → Ext K Z m H m' H' → Ok K Z m' H' → RDs K Z m' H' xs vs → Q vs H'
def LS (K : PySem.W.Frag) (f : DS) : TS := fun E s H => ∃ (Z : Addr → Prop) (d : aY) (m : Mu) (R : Ends2), Ok K Z m H ∧ RS K Z m H d s ∧ f R d m ∧
 (∀ d' m' s' H', R.nx d' m' → Ext K Z m H m' H' → Ok K Z m' H' → RS K Z m' H' d' s' → E.nx s' H') ∧
 (∀ x m' v H', R.rt x m' → Ext K Z m H m' H' → Ok K Z m' H' → RD K Z m' H' x v → E.rt v H') ∧
 (∀ d' m' s' H', R.bk d' m' → Ext K Z m H m' H' → Ok K Z m' H' → RS K Z m' H' d' s' → E.bk s' H') ∧
 (∀ d' m' s' H', R.ct d' m' → Ext K Z m H m' H' → Ok K Z m' H' → RS K Z m' H' d' s' → E.ct s' H')
theorem PE.imp {X : Cx} {e : Expr} {t t' : TE} (h : PE X e t) (q : ∀ s H Q, t' s H Q → t s H Q) : PE X e t' := fun pins s d H Q I w => h pins s d H Q I (q _ _ _ w)
theorem PT.imp {X : Cx} {e : Expr} {t t' : TT} (h : PT X e t) (q : ∀ s H Q, t' s H Q → t s H Q) : PT X e t' := fun pins s d H Q I w => h pins s d H Q I (q _ _ _ w)
theorem PA.imp {X : Cx} {e : List Expr} {t t' : TA} (h : PA X e t) (q : ∀ s H Q, t' s H Q → t s H Q) : PA X e t' := fun pos pins s d H Q I w => h pos pins s d H Q I (q _ _ _ w)
theorem PS.imp {X : Cx} {e : Stmt} {t t' : TS} (h : PS X e t) (q : ∀ E s H, t' E s H → t E s H) : PS X e t' := fun pins s d H E I w => h pins s d H E I (q _ _ _ w)
theorem PSs.imp {X : Cx} {e : List Stmt} {t t' : TS} (h : PSs X e t) (q : ∀ E s H, t' E s H → t E s H) : PSs X e t' := fun pins s d H E I w => h pins s d H E I (q _ _ _ w)
section
variable {X : Cx} {pos : Pos}
@[simp] def aA (i : Nat) : DE := fun d m Q => ∃ x, d[i]? = some (some x) ∧ Q x m
theorem Zi (i : Nat) {x : Str} (hN : X.N[i]? = some x := by rfl) (hv : jX X.env.scope x := by first | exact Or.inl rfl | exact Or.inr (Or.inl rfl) | exact Or.inr (Or.inr rfl)) (hd : (x == ("__debug__" : Str)) = false := by decide)
  (hcd : (x == ("__classdict__" : Str)) = false := by decide) : PE X (.Name x pos) (LE X.K (aA i)) :=
 PE.imp (t8 hN hv hd hcd) fun s H Q h => by
  obtain ⟨Z, d, m, R, ok, rs, ⟨x, h1, h2⟩, k⟩ := h; obtain ⟨v, q1, q2⟩ := rs.2 i x h1; exact ⟨v, q1, k x m v H h2 Ext.refl ok q2⟩
@[simp] def aE (p : PyData) : DE := fun _ m Q => Q (.dat p) m
theorem uK {e : Expr} {p : PyData} {v : V} (h : PE X e (tC v)) (r : ∀ Z m H, RP X.K Z m H p v) : PE X e (LE X.K (aE p)) :=
 PE.imp h fun s H Q ⟨Z, d, m, R, ok, rs, h2, k⟩ => k _ m v H h2 Ext.refl ok (r Z m H)
theorem Y8 {i : Int} {j : Nat} : PE X (.Constant (.int i) j pos) (LE X.K (aE (.int i))) := uK E9 fun Z m H => by simp only [RP]
theorem t9 {b : Bool} {j : Nat} : PE X (.Constant (.bool b) j pos) (LE X.K (aE (.bool b))) := uK E4 fun Z m H => by simp only [RP]
theorem R0 {j : Nat} : PE X (.Constant .none j pos) (LE X.K (aE .none)) := uK M3 fun Z m H => by simp only [RP]
theorem Ts {x : Str} {j : Nat} : PE X (.Constant (.str x) j pos) (LE X.K (aE (.str x))) := uK K0 fun Z m H => by simp only [RP]
end
end DL
namespace DL
open PySem PySem.Spec PyProof.Rows L2
section
variable {X : Cx} {pins : List (Addr × Obj)} {σ : L2.St} {H : Hp} {s : Shared} {Z : Addr → Prop} {m : Mu}
mutual
theorem RP.reads (I : Inv X pins σ H s) : ∀ (p : PyData) (v : V) (u : Value), RP X.K Z m H p v → RelV v u → ∃ as, Reads s.heap u p as
 | .none, v, u, h, r => by simp only [RP] at h; subst h; cases r; exact ⟨_, .none⟩
 | .bool b, v, u, h, r => by simp only [RP] at h; subst h; cases r; exact ⟨_, .bool b⟩
 | .int i, v, u, h, r => by simp only [RP] at h; subst h; obtain ⟨t, rfl⟩ := r; exact ⟨_, .int i t⟩
 | .str x, v, u, h, r => by simp only [RP] at h; subst h; obtain ⟨t, rfl⟩ := r; exact ⟨_, .str x t⟩
 | .tuple xs, v, u, h, r => by
  simp only [RP] at h; obtain ⟨a, vs, rfl, h2, h3⟩ := h
  cases r
  obtain ⟨its, rv, ⟨o, e, c, n, d⟩, _⟩ := I.tuple h2; obtain ⟨as, q⟩ := RPs.reads I xs vs its h3 rv; exact ⟨_, .tuple e c d (by simpa using q)⟩
 | .list xs, v, u, h, r => by
  simp only [RP] at h; obtain ⟨a, vs, rfl, _, h2, h3⟩ := h
  cases r
  obtain ⟨its, rv, ⟨o, n, e, c, _, d⟩, _⟩ := I.list h2; obtain ⟨as, q⟩ := RPs.reads I xs vs its h3 rv; exact ⟨_, .list e c d (by simpa using q)⟩
 | .dict _, v, u, h, r => by simp only [RP] at h
theorem RPs.reads (I : Inv X pins σ H s) : ∀ (xs : List PyData) (vs : List V) (us : List Value), RPs X.K Z m H xs vs → Vals vs us → ∃ as, ReadsAll s.heap us xs as
 | [], vs, us, h, r => by simp only [RPs] at h; subst h; cases r; exact ⟨_, .nil⟩
 | x :: xs, vs, us, h, r => by
  simp only [RPs] at h; obtain ⟨v, w, rfl, h1, h2⟩ := h
  cases r with
  | cons r1 r2 =>
   obtain ⟨as, q1⟩ := RP.reads I x v _ h1 r1; obtain ⟨bs, q2⟩ := RPs.reads I xs w _ h2 r2; exact ⟨_, .cons q1 q2⟩
end
theorem RP.noDict (K : PySem.W.Frag) : ∀ (p : PyData) (v : V), RP K Z m H p v → p.hasDict = false
 | .none, _, _ => rfl
 | .bool _, _, _ => rfl
 | .int _, _, _ => rfl
 | .str _, _, _ => rfl
 | .tuple xs, v, h => by
  simp only [RP] at h; obtain ⟨_, vs, _, _, h⟩ := h; simp only [PyData.hasDict]; exact go xs vs h
 | .list xs, v, h => by
  simp only [RP] at h; obtain ⟨_, vs, _, _, _, h⟩ := h; simp only [PyData.hasDict]; exact go xs vs h
 | .dict _, v, h => by simp only [RP] at h
where go : ∀ (xs : List PyData) (vs : List V), RPs K Z m H xs vs → PyData.hasDictAll xs = false
 | [], _, _ => rfl
 | x :: xs, vs, h => by
  simp only [RPs] at h; obtain ⟨v, w, rfl, h1, h2⟩ := h; simp only [PyData.hasDictAll, RP.noDict K x v h1, go xs w h2, Bool.or_self]
end
abbrev D2 := D → D → Mu → DK → Prop
def cI (X : Cx) (op : Value → Value → Sem Value) (r : D2) : Prop :=
 ∀ (pins : List (Addr × Obj)) (s : Shared) (σ : L2.St) (H : Hp) (Z : Addr → Prop) (m : Mu) (x y : V) (dx dy : D) (v u : Value) (R : DK) (Q : VK), Inv X pins σ H s → Ok X.K Z m H → RelV x v → RelV y u → RD X.K Z m H dx x → RD X.K Z m H dy y → r dx dy m R →
  (∀ d m' v' H', R d m' → Ext X.K Z m H m' H' → Ok X.K Z m' H' → RD X.K Z m' H' d v' → Q v' H') → wpAny (model X.prog X.w) X.A (op v u) (EP X pins σ Q) X.xe s
@[simp] def aG (r : D2) (f g : DE) : DE := fun d m Q => f d m fun x m1 => g d m1 fun y m2 => r x y m2 Q
section
variable {X : Cx} {a b c : Expr} {f g : DE} {pos : Pos}
theorem Ed {op : Value → Value → Sem Value} {r : D2} (ho : cI X op r) (ha : PE X a (LE X.K f)) (hb : PE X b (LE X.K g)) {pins : List (Addr × Obj)} {s : Shared} {σ : L2.St} {H : Hp} {Q : VK} (I : Inv X pins σ H s)
  (h : LE X.K (aG r f g) σ H Q) :
  wpAny (model X.prog X.w) X.A (eval a X.env) (fun v s₁ => wpAny (model X.prog X.w) X.A (eval b X.env) (fun u s₂ => wpAny (model X.prog X.w) X.A (op v u) (EP X pins σ Q) X.xe s₂) X.xe s₁) X.xe s := by
 obtain ⟨Z, d, m, R, ok, rs, hf, k⟩ := h; refine Jh ha hb I (R := fun x y H2 => ∃ m2 dx dy, Ok X.K Z m2 H2 ∧ Ext X.K Z m H m2 H2 ∧ RD X.K Z m2 H2 dx x ∧ RD X.K Z m2 H2 dy y ∧ r dx dy m2 R) ?_ fun v u s2 x y H2 I2 rx ry ⟨m2, dx, dy, ok2, e2, r1, r2, q⟩ => ?_
 ·exact ⟨Z, d, m, _, ok, rs, hf, fun x m1 v H1 q e1 ok1 r1 => ⟨Z, d, m1, _, ok1, rs.ext e1, q, fun y m2 v2 H2 q2 e2 ok2 r2 => ⟨m2, x, y, ok2, e1.trans e2, r1.ext e2, r2, q2⟩⟩⟩
 ·exact ho pins s2 σ H2 Z m2 x y dx dy v u R Q I2 ok2 rx ry r1 r2 q fun d' m' v' H' h1 h2 h3 h4 => k d' m' v' H' h1 (e2.trans h2) h3 h4
theorem Z2 {op : Operator} {r : D2} (ho : cI X (binaryOp op) r) (ha : PE X a (LE X.K f)) (hb : PE X b (LE X.K g)) : PE X (.BinOp a op b pos) (LE X.K (aG r f g)) :=
 fun _ _ _ _ _ I h => wpAny_BinOp (Ed ho ha hb I h)
theorem G7 {op : CmpOp} {r : D2} (ho : cI X (compareOp op) r) (ha : PE X a (LE X.K f)) (hb : PE X b (LE X.K g)) (hm : behindInMarks op b = false := by exact uL _) : PE X (.Compare a [op] [b] pos) (LE X.K (aG r f g)) :=
 fun _ _ _ _ _ I h => wpAny_Compare1 (Ed ho ha hb I h) hm
@[simp] def bH (f : DE) : DT := fun d m Q => f d m fun x m1 => ∃ b, x = .dat (.bool b) ∧ Q b m1
theorem LT.le {K : PySem.W.Frag} {σ : L2.St} {H : Hp} {Q : Bool → Hp → Prop} (h : LT K (bH f) σ H Q) : LE K f σ H (fun x H' => ∃ k, x = .bl k ∧ Q k H') := by
 obtain ⟨Z, d, m, R, ok, rs, hf, k⟩ := h; refine ⟨Z, d, m, _, ok, rs, hf, fun x m' v H' ⟨b, e, q⟩ e1 ok1 rd => ⟨b, ?_, k b m' H' q e1 ok1⟩⟩; subst e; simpa only [RD, RP] using rd
theorem C7 {op : CmpOp} {r : D2} (ho : cI X (compareOp op) r) (ha : PE X a (LE X.K f)) (hb : PE X b (LE X.K g)) (hm : behindInMarks op b = false := by exact uL _) : PT X (.Compare a [op] [b] pos) (LT X.K (bH (aG r f g))) := by
 intro pins s σ H Q I h; refine wpAny_isTrue_Compare1 (aL (Ed ho ha hb I h.le) fun v s1 h1 => aL h1 fun u s2 h2 => aL h2 fun c s3 ⟨z, H3, I3, r3, k, e, q3⟩ => ?_) hm; subst e
 cases r3
 exact wpAny_truthy_bool ⟨H3, I3, q3⟩
theorem X9 (h : PE X a (LE X.K f)) (he : ∀ whole, isTrue a X.env whole = (do let v ← whole; standAt a.pos; holding [v] (truthy v)) := by intro _; rfl) : PT X a (LT X.K (bH f)) :=
 PT.imp (A8 h he) fun _ _ _ q => q.le
end
section
variable {X : Cx} {a b c : Expr} {rest : List Expr} {f g : DE} {t u : DT} {pos : Pos}
@[simp] def sA (t u : DT) : DT := fun d m Q => t d m fun k m1 => if k = true then u d m1 Q else Q false m1
@[simp] def qV (t u : DT) : DT := fun d m Q => t d m fun k m1 => if k = true then Q true m1 else u d m1 Q
theorem PW.imp {e : Expr} {t t' : TT} (h : PW X e t) (q : ∀ s H Q, t' s H Q → t s H Q) : PW X e t' := fun wh pins s d H Q I w => h wh pins s d H Q I (q _ _ _ w)
theorem E5 (ha : PT X a (LT X.K t)) : PW X (.BoolOp .And [a] pos) (LT X.K t) := Pi ha
theorem H0 (ha : PT X a (LT X.K t)) : PW X (.BoolOp .Or [a] pos) (LT X.K t) := V0 ha
theorem T9 (ha : PT X a (LT X.K t)) (hb : PW X (.BoolOp .And (b :: rest) pos) (LT X.K u)) : PW X (.BoolOp .And (a :: b :: rest) pos) (LT X.K (sA t u)) :=
 PW.imp (G2 ha hb) fun s H Q ⟨Z, d, m, R, ok, rs, h, k⟩ => ⟨Z, d, m, _, ok, rs, h, fun b m1 H1 q e1 ok1 => by
  cases b with
  | true => rw [if_pos rfl] at q ⊢; exact ⟨Z, d, m1, R, ok1, rs.ext e1, q, fun b' m2 H2 q2 e2 ok2 => k b' m2 H2 q2 (e1.trans e2) ok2⟩
  | false => rw [if_neg Bool.false_ne_true] at q ⊢; exact k false m1 H1 q e1 ok1⟩
theorem Ty (ha : PT X a (LT X.K t)) (hb : PW X (.BoolOp .Or (b :: rest) pos) (LT X.K u)) : PW X (.BoolOp .Or (a :: b :: rest) pos) (LT X.K (qV t u)) :=
 PW.imp (Sx ha hb) fun s H Q ⟨Z, d, m, R, ok, rs, h, k⟩ => ⟨Z, d, m, _, ok, rs, h, fun b m1 H1 q e1 ok1 => by
  cases b with
  | false => rw [if_neg Bool.false_ne_true] at q ⊢; exact ⟨Z, d, m1, R, ok1, rs.ext e1, q, fun b' m2 H2 q2 e2 ok2 => k b' m2 H2 q2 (e1.trans e2) ok2⟩
  | true => rw [if_pos rfl] at q ⊢; exact k true m1 H1 q e1 ok1⟩
@[simp] def Cr (f g : DE) : DE := fun d m Q => f d m fun x m1 => ∃ b, x = .dat (.bool b) ∧ if b = true then g d m1 Q else Q (.dat (.bool false)) m1
theorem RD.bl {K : PySem.W.Frag} {Z : Addr → Prop} {m : Mu} {H : Hp} {b : Bool} {v : V} (h : RD K Z m H (.dat (.bool b)) v) : v = .bl b := by simpa only [RD, RP] using h
theorem RD.ofBl {K : PySem.W.Frag} {Z : Addr → Prop} {m : Mu} {H : Hp} {b : Bool} : RD K Z m H (.dat (.bool b)) (.bl b) := by simp only [RD, RP]
theorem g9 {op : BoolOp} (h : PE X a (LE X.K f)) : PE X (.BoolOp op [a] pos) (LE X.K f) := Sz h
theorem Tx (ha : PE X a (LE X.K f)) (hb : PE X (.BoolOp .And (b :: rest) pos) (LE X.K g)) : PE X (.BoolOp .And (a :: b :: rest) pos) (LE X.K (Cr f g)) :=
 PE.imp (Sy ha hb) fun s H Q ⟨Z, d, m, R, ok, rs, h, k⟩ => ⟨Z, d, m, _, ok, rs, h, fun x m1 v H1 ⟨b, e, q⟩ e1 ok1 rd => by
  subst e; refine ⟨b, rd.bl, ?_⟩
  cases b with
  | true => rw [if_pos rfl] at q ⊢; exact ⟨Z, d, m1, R, ok1, rs.ext e1, q, fun x2 m2 v2 H2 q2 e2 ok2 r2 => k x2 m2 v2 H2 q2 (e1.trans e2) ok2 r2⟩
  | false => rw [if_neg Bool.false_ne_true] at q ⊢; exact k _ m1 _ H1 q e1 ok1 .ofBl⟩
@[simp] def vQ (t : DT) (f g : DE) : DE := fun d m Q => t d m fun k m1 => if k = true then f d m1 Q else g d m1 Q
theorem Q9 (hc : PT X c (LT X.K t)) (ha : PE X a (LE X.K f)) (hb : PE X b (LE X.K g)) : PE X (.IfExp c a b pos) (LE X.K (vQ t f g)) :=
 PE.imp (Pa hc ha hb) fun s H Q ⟨Z, d, m, R, ok, rs, h, k⟩ => ⟨Z, d, m, _, ok, rs, h, fun b m1 H1 q e1 ok1 => by
  cases b with
  | true => rw [if_pos rfl] at q ⊢; exact ⟨Z, d, m1, R, ok1, rs.ext e1, q, fun x2 m2 v2 H2 q2 e2 ok2 r2 => k x2 m2 v2 H2 q2 (e1.trans e2) ok2 r2⟩
  | false => rw [if_neg Bool.false_ne_true] at q ⊢; exact ⟨Z, d, m1, R, ok1, rs.ext e1, q, fun x2 m2 v2 H2 q2 e2 ok2 r2 => k x2 m2 v2 H2 q2 (e1.trans e2) ok2 r2⟩⟩
end
section
variable {X : Cx} {e : Expr} {es : List Expr} {f : DE} {g : DA} {pos : Pos}
@[simp] def aH : DA := fun _ m Q => Q [] m
@[simp] def aB (f : DE) (g : DA) : DA := fun d m Q => f d m fun x m1 => g d m1 fun xs m2 => Q (x :: xs) m2
theorem Cz : PA X [] (LA X.K aH) := PA.imp pR fun s H Q ⟨Z, d, m, R, ok, rs, h, k⟩ => k [] m [] H h Ext.refl ok rfl
theorem rG (ha : PE X e (LE X.K f)) (hr : PA X es (LA X.K g)) (hs : starEach (e :: es) X.env = (false, eval e X.env) :: starEach es X.env := by rfl) : PA X (e :: es) (LA X.K (aB f g)) :=
 PA.imp (kU ha hr hs) fun s H Q ⟨Z, d, m, R, ok, rs, h, k⟩ => ⟨Z, d, m, _, ok, rs, h, fun x m1 v H1 q e1 ok1 r1 => ⟨Z, d, m1, _, ok1, rs.ext e1, q, fun xs m2 vs H2 q2 e2 ok2 r2 =>
  k (x :: xs) m2 (v :: vs) H2 q2 (e1.trans e2) ok2 ⟨v, vs, rfl, r1.ext e2, r2⟩⟩⟩
@[simp] def cA (g : DA) : DE := fun d m Q => g d m fun xs m1 => ∃ ps, pds xs = some ps ∧ ps.length ≤ sizeLine ∧ Q (.dat (.tuple ps)) m1
theorem C9 {j : Nat} (h : PA X es (LA X.K g)) : PE X (.Tuple es j pos) (LE X.K (cA g)) :=
 PE.imp (Yt h) fun s H Q ⟨Z, d, m, R, ok, rs, h, k⟩ => ⟨Z, d, m, _, ok, rs, h, fun xs m1 vs H1 ⟨ps, e, hz, q⟩ e1 ok1 r1 => by
  have rp := r1.pds e
  refine ⟨by rw [rp.length]; exact hz, fun p hp => ?_⟩
  have sm : Same H1 (aN H1 p (.tup vs)) := cW hp
  refine k _ m1 _ _ q (e1.trans (ok1.ext sm)) (ok1.grow sm) ?_; simp only [RD, RP]; exact ⟨p, vs, rfl, .inl (.inl cZ), RPs.ext (ok1.ext sm) _ _ rp⟩⟩
@[simp] def eY (g : DA) : DE := fun d m Q => g d m fun xs m1 => ∃ ps, pds xs = some ps ∧ ps.length ≤ sizeLine ∧ Q (.dat (.list ps)) m1
@[simp] def qN (g : DA) : DE := fun d m Q => g d m fun xs m1 => ∃ ps, pds xs = some ps ∧ ps.length ≤ sizeLine ∧ ∀ a, m1 a = none → Q (.cel a) (bN m1 a (.l ps))
theorem Hs {t : TA} (h : PA X es t) : PE X (.List es pos) (fun s H Q => t s H fun xs H1 => xs.length ≤ sizeLine ∧ ∀ p, H1 p = none → X.K.lookup p = none → Q (.ref p) (aN H1 p (.lst xs))) := by
 intro pins s σ H Q I hq; refine wpAny_List_spliced (aL (h pos pins s σ H _ I hq) fun us s1 ⟨xs, H1, I1, r, z, q⟩ => ⟨by rw [← r.length]; exact z, ?_⟩)
 have hf : H1 s1.heap.objs.size = none := I1.hok.fresh (Nat.le_refl _)
 have hk : X.K.lookup s1.heap.objs.size = none := by
  cases e : X.K.lookup s1.heap.objs.size with
  | none => rfl
  | some o => exact absurd (Heap.lt_size (I1.kIn _ o e)) (Nat.lt_irrefl _)
 refine ⟨.ref s1.heap.objs.size, aN H1 s1.heap.objs.size (.lst xs), I1.laid (t' := s1.toks) (fun b u e => Heap.get?_push_of_some _ e) (Nat.le_refl _) ?_, rfl, q _ hf hk⟩; exact ⟨z, us, 0, r, Heap.get?_push_size _ rfl⟩
theorem jA {K : PySem.W.Frag} {Z : Addr → Prop} {m : Mu} {H : Hp} {p : Addr} (ok : Ok K Z m H) (hp : H p = none) : m p = none ∧ ¬ Z p := by
 refine ⟨?_, fun h => (ok.z p h).2 hp⟩
 cases e : m p with
 | none => rfl
 | some ds =>
  obtain ⟨vs, h1, _⟩ := ok.g p ds e; rw [hp] at h1
  cases h1
theorem W8 (h : PA X es (LA X.K g)) : PE X (.List es pos) (LE X.K (eY g)) :=
 PE.imp (Hs h) fun s H Q ⟨Z, d, m, R, ok, rs, h, k⟩ => ⟨Z, d, m, _, ok, rs, h, fun xs m1 vs H1 ⟨ps, e, hz, q⟩ e1 ok1 r1 => by
  have rp := r1.pds e
  refine ⟨by rw [rp.length]; exact hz, fun p hp hk => ?_⟩
  have sm : Same H1 (aN H1 p (.lst vs)) := cW hp
  refine k _ m1 _ _ q (e1.trans (ok1.ext sm)) (ok1.grow sm) ?_; simp only [RD, RP]; exact ⟨p, vs, rfl, jA ok1 hp, .inl (.inl cZ), RPs.ext (ok1.ext sm) _ _ rp⟩⟩
theorem Td (h : PA X es (LA X.K g)) : PE X (.List es pos) (LE X.K (qN g)) :=
 PE.imp (Hs h) fun s H Q ⟨Z, d, m, R, ok, rs, h, k⟩ => ⟨Z, d, m, _, ok, rs, h, fun xs m1 vs H1 ⟨ps, e, hz, q⟩ e1 ok1 r1 => by
  have rp := r1.pds e
  refine ⟨by rw [rp.length]; exact hz, fun p hp hk => ?_⟩
  refine k _ _ _ _ (q p (jA ok1 hp).1) (e1.trans (Ext.cell ok1 hp hk)) (ok1.cell hp hk rp) ⟨rfl, ?_⟩; rw [cX]
  rfl⟩
end
end DL
namespace DL
open PySem PySem.Spec PyProof.Rows L2
theorem Sj : fillsNumberSlot (.type "tuple") "mul" = pure false := PySem.fillsNumberSlot_seq (id := "tuple.__mul__") (r := some (.builtin "tuple.__rmul__")) PySem.F.slot_tuple_mul.lookup (by decide +kernel) PySem.F.slot_tuple_rmul.lookup (by decide +kernel)
theorem Zm : seqRepeat? (.type "tuple") = pure (some (.builtin "tuple.__mul__")) := by
 unfold seqRepeat?; rw [PySem.seqSlot_of (T := "tuple") (name := "__mul__") (id := "tuple.__mul__") PySem.F.slot_tuple_mul.lookup (by decide +kernel), PySem.seqSlot_of (T := "tuple") (name := "__rmul__") (id := "tuple.__rmul__") PySem.F.slot_tuple_rmul.lookup (by decide +kernel)]
 rfl
theorem F5 (a : Int) (t : Tok) (l : Addr) (its : Array Value) (n : Nat) (dd : Option Addr) (sl : Array (Option Value)) : Meets (Builtin.«int.__rmul__» ⟨[.int a t, .ref l], []⟩) (fun _ R s => s.heap.get? l = some { cls := .type "tuple", dict := dd, data := .seq its n, slots := sl } ∧ R (.ok (.ret Value.notImplemented)) s) :=
 .of_wp fun prog w A R s hs => by
  obtain ⟨hp, g, d, tk, os⟩ := s; obtain ⟨hl, h⟩ := hs
  wp_walk
  exact ⟨_, rfl, h⟩
theorem xL (vs : List Value) : ∀ (n : Nat) (acc : List Value), (List.replicate n vs.toArray).foldl (· ++ ·) acc.toArray = (acc ++ (List.replicate n vs).flatten).toArray
 | 0, acc => by simp
 | n + 1, acc => by
  rw [List.replicate_succ, List.foldl_cons, List.replicate_succ, List.flatten_cons]; have := xL vs n (acc ++ vs)
  rw [← List.append_assoc, ← this]; simp
theorem yH {α : Type} (xs : List α) : ∀ n : Nat, (List.replicate n xs).flatten.length = xs.length * n
 | 0 => by simp
 | n + 1 => by rw [List.replicate_succ, List.flatten_cons, List.length_append, yH xs n, Nat.mul_succ, Nat.add_comm]
theorem R1 (t : Addr) (its : Array Value) (k : Int) (tok : Tok) (h1 : its.size ≠ 0) (h2 : 2 ≤ k) (h3 : k ≤ 100) (h4 : its.size * k.toNat ≤ sizeLine) : Meets (Builtin.«tuple.__mul__» ⟨[.ref t, .int k tok], []⟩)
  (fun _ R s => IsTup s.heap t its ∧ R (.ok (.ret (.ref s.heap.objs.size))) { s with heap := s.heap.push { cls := .type "tuple", data := .seq ((List.replicate k.toNat its).foldl (· ++ ·) #[]) } }) :=
 .of_wp fun prog w A R s hs => by
  obtain ⟨ht, h⟩ := hs; show wpAny _ _ (asIndex (.int k tok) >>= _) _ _ _
  refine wpAny_bind (wpAny_pure ?_); show wpAny _ _ (if (decide (k < -(2 ^ 63)) || decide (k ≥ 2 ^ 63)) = true then _ else _) _ _ _
  rw [if_neg (by simp; omega)]
  show wpAny _ _ (Builtin.Tuple.tupleItemsOf (.ref t) >>= _) _ _ _
  refine wpAny_bind (tupleItemsOf_ ht ?_); have e1 : its.isEmpty = false := by
   rw [Array.isEmpty_eq_false_iff]; rintro rfl; exact h1 rfl
  have e2 : (k == 1) = false := by
   rw [beq_eq_false_iff_ne]; omega
  show wpAny _ _ (if (its.isEmpty || k == 1) = true then _ else _) _ _ _
  rw [e1, e2, if_neg (by simp)]
  show wpAny _ _ (if (decide (k ≤ 0) || false) = true then _ else _) _ _ _
  rw [if_neg (by simp; omega)]
  have hk : ((its.size : Nat) : Int) * k = ((its.size * k.toNat : Nat) : Int) := by
   push_cast
   rw [Int.toNat_of_nonneg (by omega)]
  have hs := iU
  show wpAny _ _ (if ((its.size : Nat) : Int) * k > (2 ^ 63 - 1) / 8 then _ else _) _ _ _
  rw [if_neg ?c1]
  case c1 =>
   rw [hk]; have : (sizeLine : Nat) ≤ (2 ^ 63 - 1) / 8 := by decide
   omega
  show wpAny _ _ (if (decide (((its.size : Nat) : Int) * k > (sizeLine : Int))) = true then _ else _) _ _ _
  rw [if_neg ?c2]
  case c2 =>
   rw [hk]; intro q; have q' := of_decide_eq_true q
   omega
  show wpAny _ _ (Builtin.Tuple.tupleExact ((List.replicate k.toNat its).foldl (· ++ ·) #[]) >>= _) _ _ _
  refine wpAny_bind (m := Builtin.Tuple.tupleExact _) (wpAny_newObj_type (wpAny_pure ⟨_, rfl, h⟩) ?_); show ((List.replicate k.toNat its).foldl (· ++ ·) #[]).size ≤ sizeLine
  have e := xL its.toList k.toNat []
  rw [List.nil_append] at e; have e' : (List.replicate k.toNat its).foldl (· ++ ·) #[] = (List.replicate k.toNat its.toList).flatten.toArray := e
  rw [e', List.size_toArray, yH, Array.length_toList]; exact h4
theorem Vals.rep {xs : List V} {us : List Value} (h : Vals xs us) : ∀ n : Nat, Vals (List.replicate n xs).flatten (List.replicate n us).flatten
 | 0 => .nil
 | n + 1 => by
  rw [List.replicate_succ, List.replicate_succ, List.flatten_cons, List.flatten_cons]; exact h.append (Vals.rep h n)
theorem RPs.rep {K : PySem.W.Frag} {Z : Addr → Prop} {m : Mu} {H : Hp} {xs : List PyData} {vs : List V} (h : RPs K Z m H xs vs) : ∀ n : Nat, RPs K Z m H (List.replicate n xs).flatten (List.replicate n vs).flatten
 | 0 => by simp [RPs]
 | n + 1 => by
  rw [List.replicate_succ, List.replicate_succ, List.flatten_cons, List.flatten_cons]; exact h.append (RPs.rep h n)
section
variable {X : Cx}
theorem Z9 {pins : List (Addr × Obj)} {s : Shared} {σ : L2.St} {H : Hp} {Q : VK} {a : Addr} {xs : List V} {k : Int} {t : Tok} (I : Inv X pins σ H s) (ha : SqT X.K H a xs) (h1 : xs ≠ []) (h2 : 2 ≤ k) (h3 : k ≤ 100) (h4 : xs.length * k.toNat ≤ sizeLine)
  (q : ∀ p, H p = none → Q (.ref p) (aN H p (.tup (List.replicate k.toNat xs).flatten))) : wpAny (model X.prog X.w) X.A (binaryOp .Mult (.ref a) (.int k t)) (EP X pins σ Q) X.xe s := by
 obtain ⟨its, r, p, hz⟩ := I.tuple ha; have hl := r.length
 obtain ⟨⟨cls, dd, data, sl⟩, ho, hc, n, hd⟩ := id p; simp only at hc hd; subst hc hd; refine wpAny_binaryOp_repeat_ref (T := "tuple") (U := "int") (by decide) ⟨_, ho, rfl⟩ (fun s' => typeIs_int s' k t) Sj PySem.F.fills_int_mul PySem.F.slot_int_rmul Zm PySem.F.slot_int_index.lookup
  (call_meets PySem.F.slot_int_rmul (typeIs_int s k t) PySem.F.entry_int_rmul (PySem.F.args_int_rmul_2 _ _) (F5 k t a its.toArray n dd sl) ⟨ho, rfl, ⟨_, ho, rfl⟩, call_meets PySem.F.slot_tuple_mul ⟨_, ho, rfl⟩ PySem.F.entry_tuple_mul (PySem.F.args_tuple_mul_2 _ _) (R1 a its.toArray k t ?_ h2 h3 ?_) ⟨p, ?_⟩⟩)
 ·rw [List.size_toArray, ← hl]; intro e; exact h1 (List.length_eq_zero_iff.mp e)
 ·rw [List.size_toArray, ← hl]; exact h4
 ·have e := xL its k.toNat []
  rw [List.nil_append] at e; rw [e]; exact ⟨.ref s.heap.objs.size, _, I.laid (t' := s.toks) (o := .tup (List.replicate k.toNat xs).flatten) (fun b ob q => Heap.get?_push_of_some _ q) (Nat.le_refl _) ⟨⟨by rw [yH]; exact h4, NoD.new _ _ _⟩, _, Vals.rep r k.toNat, IsTup.new _ _⟩, rfl, q _ (I.hok.fresh (Nat.le_refl _))⟩
end
end DL
namespace DL
open PySem PySem.Spec PyProof.Rows L2
@[simp] def dB : D2
 | .dat (.int i), .dat (.int j), m, Q => Q (.dat (.int (i + j))) m
 | .dat (.str a), .dat (.str b), m, Q => a.length + b.length ≤ sizeLine ∧ Q (.dat (.str (a ++ b))) m
 | .dat (.tuple a), .dat (.tuple b), m, Q => a.length + b.length ≤ sizeLine ∧ Q (.dat (.tuple (a ++ b))) m
 | .dat (.list a), .dat (.list b), m, Q => a.length + b.length ≤ sizeLine ∧ Q (.dat (.list (a ++ b))) m
 | .cel c, .dat (.list b), m, Q => ∃ a, m c = some (.l a) ∧ a.length + b.length ≤ sizeLine ∧ Q (.dat (.list (a ++ b))) m
 | _, _, _, _ => False
@[simp] def fN : D2
 | .dat (.int i), .dat (.int j), m, Q => Q (.dat (.int (i - j))) m
 | _, _, _, _ => False
@[simp] def eJ : D2
 | .dat (.int i), .dat (.int j), m, Q => IntMulOk i j ∧ Q (.dat (.int (i * j))) m
 | .dat (.tuple a), .dat (.int k), m, Q => a ≠ [] ∧ 2 ≤ k ∧ k ≤ 100 ∧ a.length * k.toNat ≤ sizeLine ∧ Q (.dat (.tuple (List.replicate k.toNat a).flatten)) m
 | _, _, _, _ => False
@[simp] def qK : D2
 | .dat (.int i), .dat (.int j), m, Q => j ≠ 0 ∧ j.natAbs.log2 < 9000 ∧ Q (.dat (.int (i.fdiv j))) m
 | _, _, _, _ => False
@[simp] def jB : D2
 | .dat (.int i), .dat (.int j), m, Q => j ≠ 0 ∧ Q (.dat (.int (i.fmod j))) m
 | _, _, _, _ => False
@[simp] def Ds : D2
 | .dat (.int i), .dat (.int j), m, Q => (0 ≤ j ∧ j ≤ 1000000 ∧ i.natAbs < 2 ^ 64) ∧ Q (.dat (.int (i ^ j.toNat))) m
 | _, _, _, _ => False
@[simp] def uR : D2
 | .dat (.int i), .dat (.int j), m, Q => Q (.dat (.bool (decide (i < j)))) m
 | _, _, _, _ => False
@[simp] def oR : D2
 | .dat (.int i), .dat (.int j), m, Q => Q (.dat (.bool (decide (j < i)))) m
 | _, _, _, _ => False
@[simp] def dJ : D2
 | .dat (.str a), .dat (.str b), m, Q => Q (.dat (.bool (decide (a = b)))) m
 | .dat p, .dat q, m, Q => p.canLay0 = true ∧ q.canLay0 = true ∧ p.depth ≤ 100 ∧ Q (.dat (.bool (PyData.eqv p q))) m
 | _, _, _, _ => False
@[simp] def pV : D2
 | .dat (.str a), .dat (.str b), m, Q => Q (.dat (.bool (!decide (a = b)))) m
 | .dat p, .dat q, m, Q => p.canLay0 = true ∧ q.canLay0 = true ∧ p.depth ≤ 100 ∧ Q (.dat (.bool (!PyData.eqv p q))) m
 | _, _, _, _ => False
section
variable {X : Cx}
theorem RD.int {K : PySem.W.Frag} {Z : Addr → Prop} {m : Mu} {H : Hp} {i : Int} {v : V} (h : RD K Z m H (.dat (.int i)) v) : v = .int i := by simpa only [RD, RP] using h
theorem RD.ofInt {K : PySem.W.Frag} {Z : Addr → Prop} {m : Mu} {H : Hp} {i : Int} : RD K Z m H (.dat (.int i)) (.int i) := by simp only [RD, RP]
theorem RD.str {K : PySem.W.Frag} {Z : Addr → Prop} {m : Mu} {H : Hp} {i : Str} {v : V} (h : RD K Z m H (.dat (.str i)) v) : v = .str i := by simpa only [RD, RP] using h
theorem RD.ofStr {K : PySem.W.Frag} {Z : Addr → Prop} {m : Mu} {H : Hp} {i : Str} : RD K Z m H (.dat (.str i)) (.str i) := by simp only [RD, RP]
theorem jM : cI X (binaryOp .Sub) fN := by
 intro pins s σ H Z m x y dx dy v u R Q I ok rx ry r1 r2 h k; unfold fN at h
 split at h
 ·cases r1.int; cases r2.int
  exact N9 pins s σ H _ _ v u Q I rx ry ⟨_, _, rfl, rfl, k _ m _ H h Ext.refl ok .ofInt⟩
 ·exact h.elim
theorem gC : cI X (binaryOp .Mult) eJ := by
 intro pins s σ H Z m x y dx dy v u R Q I ok rx ry r1 r2 h k; unfold eJ at h
 split at h
 ·cases r1.int; cases r2.int
  obtain ⟨t, rfl⟩ := rx; obtain ⟨t', rfl⟩ := ry; exact mul_int ⟨.int _, H, I.tok _, ⟨_, rfl⟩, k _ m _ H h.2 Ext.refl ok .ofInt⟩ h.1
 ·rename_i a j; obtain ⟨h1, h2, h3, h4, h5⟩ := h
  cases r2.int
  simp only [RD, RP] at r1; obtain ⟨p, vs, rfl, g1, g2⟩ := r1
  cases rx
  obtain ⟨t', rfl⟩ := ry; have hl := g2.length
  refine Z9 I g1 (fun e => h1 ?_) h2 h3 (by rw [hl]; exact h4) fun t ht => ?_
  ·subst e
   cases a with
   | nil => rfl
   | cons _ _ => simp at hl
  ·have sm : Same H (aN H t (.tup (List.replicate j.toNat vs).flatten)) := cW ht
   refine k _ m _ _ h5 (ok.ext sm) (ok.grow sm) ?_; simp only [RD, RP]; exact ⟨t, _, rfl, .inl (.inl cZ), RPs.ext (ok.ext sm) _ _ (g2.rep _)⟩
 ·exact h.elim
theorem xG : cI X (binaryOp .FloorDiv) qK := by
 intro pins s σ H Z m x y dx dy v u R Q I ok rx ry r1 r2 h k; unfold qK at h
 split at h
 ·cases r1.int; cases r2.int
  obtain ⟨t, rfl⟩ := rx; obtain ⟨t', rfl⟩ := ry; exact floordiv_int h.1 ⟨.int _, H, I.tok _, ⟨_, rfl⟩, k _ m _ H h.2.2 Ext.refl ok .ofInt⟩ (.inl (PyProof.noPylong_of_log2 h.2.1))
 ·exact h.elim
theorem mG : cI X (binaryOp .Mod) jB := by
 intro pins s σ H Z m x y dx dy v u R Q I ok rx ry r1 r2 h k; unfold jB at h
 split at h
 ·cases r1.int; cases r2.int
  exact Xc pins s σ H _ _ v u Q I rx ry ⟨_, _, rfl, rfl, h.1, k _ m _ H h.2 Ext.refl ok .ofInt⟩
 ·exact h.elim
theorem Zz : cI X (binaryOp .Pow) Ds := by
 intro pins s σ H Z m x y dx dy v u R Q I ok rx ry r1 r2 h k; unfold Ds at h
 split at h
 ·cases r1.int; cases r2.int
  exact Uc pins s σ H _ _ v u Q I rx ry ⟨_, _, rfl, rfl, h.1, k _ m _ H h.2 Ext.refl ok .ofInt⟩
 ·exact h.elim
theorem Lc : cI X (compareOp .Lt) uR := by
 intro pins s σ H Z m x y dx dy v u R Q I ok rx ry r1 r2 h k; unfold uR at h
 split at h
 ·cases r1.int; cases r2.int
  exact Pq pins s σ H _ _ v u Q I rx ry ⟨_, _, rfl, rfl, k _ m _ H h Ext.refl ok .ofBl⟩
 ·exact h.elim
theorem sV : cI X (compareOp .Gt) oR := by
 intro pins s σ H Z m x y dx dy v u R Q I ok rx ry r1 r2 h k; unfold oR at h
 split at h
 ·cases r1.int; cases r2.int
  exact G8 pins s σ H _ _ v u Q I rx ry ⟨_, _, rfl, rfl, k _ m _ H h Ext.refl ok .ofBl⟩
 ·exact h.elim
theorem dX (hu : X.A.units + 100 < cLine) : cI X (compareOp .Eq) dJ := by
 intro pins s σ H Z m x y dx dy v u R Q I ok rx ry r1 r2 h k; unfold dJ at h
 split at h
 ·cases r1.str; cases r2.str
  refine B9 pins s σ H _ _ v u Q I rx ry ⟨rfl, ?_⟩; have e : ∀ a b : Str, decide (V.str a = V.str b) = decide (a = b) := fun a b => by
   rw [Bool.eq_iff_iff]; simp
  rw [e]; exact k _ m _ H h Ext.refl ok .ofBl
 ·rename_i p q hne; obtain ⟨h1, h2, h3, h4⟩ := h; obtain ⟨as, ra⟩ := RP.reads I p x v r1 rx; obtain ⟨bs, rb⟩ := RP.reads I q y u r2 ry; exact SeqAt.compareEq_reads ra rb h1 h2 (by omega) ⟨.bl _, H, I, rfl, k _ m _ H h4 Ext.refl ok .ofBl⟩
 ·exact h.elim
theorem uU (hu : X.A.units + 100 < cLine) : cI X (compareOp .NotEq) pV := by
 intro pins s σ H Z m x y dx dy v u R Q I ok rx ry r1 r2 h k; unfold pV at h
 split at h
 ·cases r1.str; cases r2.str
  refine Oj pins s σ H _ _ v u Q I rx ry ⟨rfl, ?_⟩; have e : ∀ a b : Str, decide (V.str a = V.str b) = decide (a = b) := fun a b => by
   rw [Bool.eq_iff_iff]; simp
  rw [e]; exact k _ m _ H h Ext.refl ok .ofBl
 ·rename_i p q hne; obtain ⟨h1, h2, h3, h4⟩ := h; obtain ⟨as, ra⟩ := RP.reads I p x v r1 rx; obtain ⟨bs, rb⟩ := RP.reads I q y u r2 ry; exact SeqAt.compareNe_reads ra rb h1 h2 (by omega) ⟨.bl _, H, I, rfl, k _ m _ H h4 Ext.refl ok .ofBl⟩
 ·exact h.elim
theorem C3 {pins : List (Addr × Obj)} {s : Shared} {σ : L2.St} {H : Hp} {Q : VK} {a b : Addr} {ys : List V} (I : Inv X pins σ H s) (ha : SqT X.K H a []) (hb : SqT X.K H b ys) (q : Q (.ref b) H) :
  wpAny (model X.prog X.w) X.A (binaryOp .Add (.ref a) (.ref b)) (EP X pins σ Q) X.xe s := by
 obtain ⟨its, r1, p1, _⟩ := I.tuple ha; obtain ⟨its2, r2, p2, _⟩ := I.tuple hb
 cases r1
 obtain ⟨⟨cls, dd, data, sl⟩, ho, hc, n, hd⟩ := id p1; obtain ⟨⟨cls2, dd2, data2, sl2⟩, ho2, hc2, n2, hd2⟩ := id p2; simp only at hc hd hc2 hd2; subst hc hd hc2 hd2; exact concat_meets ⟨_, ho, rfl⟩ ⟨_, ho2, rfl⟩ noFill_tuple_add seq_tuple_add PySem.F.slot_tuple_add PySem.F.entry_tuple_add (PySem.F.args_tuple_add_2 _ _)
   (tuple_addW0 a b _ _ n n2 dd dd2 sl sl2 (by simp)) ⟨ho, ho2, ⟨.ref b, H, I, rfl, q⟩⟩
theorem Ip : OpR X (binaryOp .Add) (fun x y H Q => ∃ a b xs ys, x = .ref a ∧ y = .ref b ∧ SqL X.K H a xs ∧ SqL X.K H b ys ∧ xs.length + ys.length ≤ sizeLine ∧ ∀ p, H p = none → Q (.ref p) (aN H p (.lst (xs ++ ys)))) := by
 intro pins s σ H x y v u Q I rx ry h; obtain ⟨a, b, xs, ys, rfl, rfl, ha, hb, hz, q⟩ := h
 cases rx
 cases ry
 obtain ⟨its, r1, p1, _⟩ := I.list ha; obtain ⟨its2, r2, p2, _⟩ := I.list hb; obtain ⟨⟨cls, dd, data, sl⟩, ho, hc, n, hd⟩ := id p1.isList; obtain ⟨⟨cls2, dd2, data2, sl2⟩, ho2, hc2, n2, hd2⟩ := id p2.isList; simp only at hc hd hc2 hd2; subst hc hd hc2 hd2; have l1 := r1.length
 have l2 := r2.length
 have e : its.toArray ++ its2.toArray = (its ++ its2).toArray := by simp
 refine concat_meets ⟨_, ho, rfl⟩ ⟨_, ho2, rfl⟩ noFill_list_add seq_list_add PySem.F.slot_list_add PySem.F.entry_list_add (PySem.F.args_list_add_2 _ _)
   (list_addW a b its.toArray its2.toArray n n2 dd dd2 sl sl2 (by rw [List.size_toArray, List.size_toArray]; omega)) ⟨ho, ho2, ?_⟩
 rw [e]; exact ⟨.ref s.heap.objs.size, _, I.laid (t' := s.toks) (o := .lst (xs ++ ys)) (fun b ob q => Heap.get?_push_of_some _ q) (Nat.le_refl _) ⟨by rw [List.length_append]; omega, _, 0, r1.append r2, Heap.get?_push_size _ rfl⟩, rfl, q _ (I.hok.fresh (Nat.le_refl _))⟩
theorem dH : cI X (binaryOp .Add) dB := by
 intro pins s σ H Z m x y dx dy v u R Q I ok rx ry r1 r2 h k; unfold dB at h
 split at h
 ·cases r1.int; cases r2.int
  exact Sb pins s σ H _ _ v u Q I rx ry ⟨_, _, rfl, rfl, k _ m _ H h Ext.refl ok .ofInt⟩
 ·cases r1.str; cases r2.str
  exact Uw pins s σ H _ _ v u Q I rx ry ⟨_, _, rfl, rfl, h.1, k _ m _ H h.2 Ext.refl ok .ofStr⟩
 ·rename_i a b; simp only [RD, RP] at r1 r2; obtain ⟨p, vs, rfl, h1, h2⟩ := r1; obtain ⟨q, ws, rfl, g1, g2⟩ := r2; have l1 := h2.length
  have l2 := g2.length
  by_cases e1 : a = []
  ·subst e1; simp only [RPs] at h2; subst h2
   cases rx; cases ry
   refine C3 I h1 g1 (k _ m _ H h.2 Ext.refl ok ?_); simp only [RD, RP]; exact ⟨q, ws, rfl, g1, by simpa using g2⟩
  ·refine b9 pins s σ H _ _ v u Q I rx ry ⟨p, q, vs, ws, rfl, rfl, h1, g1, ?_, by omega, fun e2 => ?_, fun e2 t ht => ?_⟩
   ·rintro rfl
    cases a with
    | nil => exact e1 rfl
    | cons _ _ => simp at l1
   ·subst e2; have e3 : b = [] := by cases b with | nil => rfl | cons _ _ => simp at l2
    subst e3; refine k _ m _ H h.2 Ext.refl ok ?_; simp only [RD, RP]; exact ⟨p, vs, rfl, h1, by simpa using h2⟩
   ·have sm : Same H (aN H t (.tup (vs ++ ws))) := cW ht
    refine k _ m _ _ h.2 (ok.ext sm) (ok.grow sm) ?_; simp only [RD, RP]; exact ⟨t, _, rfl, .inl (.inl cZ), RPs.ext (ok.ext sm) _ _ (h2.append g2)⟩
 ·rename_i a b; simp only [RD, RP] at r1 r2; obtain ⟨p, vs, rfl, h0, h1, h2⟩ := r1; obtain ⟨q, ws, rfl, g0, g1, g2⟩ := r2; have l1 := h2.length
  have l2 := g2.length
  refine Ip pins s σ H _ _ v u Q I rx ry ⟨p, q, vs, ws, rfl, rfl, h1, g1, by omega, fun t ht => ?_⟩
  have sm : Same H (aN H t (.lst (vs ++ ws))) := cW ht
  refine k _ m _ _ h.2 (ok.ext sm) (ok.grow sm) ?_; simp only [RD, RP]; exact ⟨t, _, rfl, jA ok ht, .inl (.inl cZ), RPs.ext (ok.ext sm) _ _ (h2.append g2)⟩
 ·rename_i c b; obtain ⟨aa, hm, hz, hq⟩ := h; obtain ⟨rfl, _⟩ := r1; obtain ⟨vs, g0, g3⟩ := ok.l hm; simp only [RD, RP] at r2; obtain ⟨q, ws, rfl, _, g1, g2⟩ := r2; have l1 := g3.length
  have l2 := g2.length
  refine Ip pins s σ H _ _ v u Q I rx ry ⟨c, q, vs, ws, rfl, rfl, .inl (.inl g0), g1, by omega, fun t ht => ?_⟩
  have sm : Same H (aN H t (.lst (vs ++ ws))) := cW ht
  refine k _ m _ _ hq (ok.ext sm) (ok.grow sm) ?_; simp only [RD, RP]; exact ⟨t, _, rfl, jA ok ht, .inl (.inl cZ), RPs.ext (ok.ext sm) _ _ (g3.append g2)⟩
 ·exact h.elim
end
end DL
namespace DL
open PySem PySem.Spec PyProof.Rows L2
section
variable {X : Cx} {a b c e : Expr} {es : List Expr} {f g : DE} {ga : DA} {pos p2 p : Pos}
@[simp] def Ar (f : DE) : DE := fun d m Q => f d m fun x m1 => ∃ i, x = .dat (.int i) ∧ Q (.dat (.int (-i))) m1
theorem T2 (ha : PE X a (LE X.K f)) : PE X (.UnaryOp .USub a pos) (LE X.K (Ar f)) :=
 PE.imp (Vc K1 ha) fun s H Q h => by
  obtain ⟨Z, d, m, R, ok, rs, h, k⟩ := h; refine ⟨Z, d, m, _, ok, rs, h, fun x m1 v H1 ⟨i, e, q⟩ e1 ok1 rd => ?_⟩; subst e; exact ⟨i, rd.int, k _ m1 _ H1 q e1 ok1 .ofInt⟩
@[simp] def bD : D2
 | .dat (.tuple xs), .dat (.int i), m, Q => ∃ p, bR xs i = some p ∧ Q (.dat p) m
 | .dat (.list xs), .dat (.int i), m, Q => ∃ p, bR xs i = some p ∧ Q (.dat p) m
 | .cel a, .dat (.int i), m, Q => ∃ xs p, m a = some (.l xs) ∧ bR xs i = some p ∧ Q (.dat p) m
 | .dat (.str z), .dat (.int i), m, Q => ∃ c, z.length ≤ sizeLine ∧ bR z.cps.toList i = some c ∧ Q (.dat (.str ⟨#[c]⟩)) m
 | _, _, _, _ => False
theorem RPs.at {K : PySem.W.Frag} {Z : Addr → Prop} {m : Mu} {H : Hp} {xs : List PyData} {vs : List V} {i : Int} {p : PyData} (h : RPs K Z m H xs vs) (e : bR xs i = some p) : ∃ v, bR vs i = some v ∧ RP K Z m H p v := by
 unfold bR at e ⊢; rw [h.length]
 cases q : dL xs.length i with
 | none => rw [q] at e; cases e
 | some j =>
  rw [q] at e; exact h.get (i := j) e
theorem Vj (ha : PE X a (LE X.K f)) (hb : PE X b (LE X.K g)) (hs : Bp b := by exact fun _ _ => rfl) : PE X (.Subscript a b pos) (LE X.K (aG bD f g)) :=
 PE.imp (A9 Qg ha hb hs) fun s H Q h => by
  obtain ⟨Z, d, m, R, ok, rs, h, k⟩ := h; refine ⟨Z, d, m, _, ok, rs, h, fun x m1 v H1 q e1 ok1 rx => ⟨Z, d, m1, _, ok1, rs.ext e1, q, fun y m2 w H2 q2 e2 ok2 ry => ?_⟩⟩; have rx2 := rx.ext e2
  have e12 := e1.trans e2
  unfold bD at q2
  split at q2
  ·obtain ⟨p, ep, q⟩ := q2
   cases ry.int
   simp only [RD, RP] at rx2; obtain ⟨a, vs, rfl, h1, h2⟩ := rx2; obtain ⟨z, ez, rz⟩ := h2.at ep; exact .inr (.inl ⟨a, vs, _, z, rfl, rfl, h1, ez, k _ m2 z H2 q e12 ok2 rz⟩)
  ·obtain ⟨p, ep, q⟩ := q2
   cases ry.int
   simp only [RD, RP] at rx2; obtain ⟨a, vs, rfl, _, h1, h2⟩ := rx2; obtain ⟨z, ez, rz⟩ := h2.at ep; exact .inl ⟨a, vs, _, z, rfl, rfl, h1, ez, k _ m2 z H2 q e12 ok2 rz⟩
  ·obtain ⟨xs, p, hm, ep, q⟩ := q2
   cases ry.int
   obtain ⟨rfl, _⟩ := rx2; obtain ⟨vs, h1, h2⟩ := ok2.l hm; obtain ⟨z, ez, rz⟩ := h2.at ep; exact .inl ⟨_, vs, _, z, rfl, rfl, .inl (.inl h1), ez, k _ m2 z H2 q e12 ok2 rz⟩
  ·obtain ⟨c, hz, ec, q⟩ := q2
   cases ry.int
   cases rx2.str
   exact .inr (.inr ⟨_, _, c, rfl, rfl, hz, ec, k _ m2 _ H2 q e12 ok2 .ofStr⟩)
  ·exact q2.elim
abbrev DO := aY → Mu → (Option Int → Mu → Prop) → Prop
def LO (K : PySem.W.Frag) (f : DO) : TO := fun s H Q => ∃ (Z : Addr → Prop) (d : aY) (m : Mu) (R : Option Int → Mu → Prop), Ok K Z m H ∧ RS K Z m H d s ∧ f d m R ∧
 ∀ x m' H', R x m' → Ext K Z m H m' H' → Ok K Z m' H' → Q x H'
@[simp] def mY : DO := fun _ m Q => Q none m
@[simp] def gO (f : DE) : DO := fun d m Q => f d m fun x m1 => ∃ i, x = .dat (.int i) ∧ Q (some i) m1
theorem PO.imp {e : Option Expr} {t t' : TO} (h : PO X e t) (q : ∀ s H Q, t' s H Q → t s H Q) : PO X e t' := fun pins s d H Q I w => h pins s d H Q I (q _ _ _ w)
theorem g8 : PO X none (LO X.K mY) := PO.imp J6 fun s H Q h => by
 obtain ⟨Z, d, m, R, ok, rs, h, k⟩ := h; exact k none m H h Ext.refl ok
theorem Pn (ha : PE X a (LE X.K f)) : PO X (some a) (LO X.K (gO f)) := PO.imp (T3 ha) fun s H Q h => by
 obtain ⟨Z, d, m, R, ok, rs, h, k⟩ := h; refine ⟨Z, d, m, _, ok, rs, h, fun x m1 v H1 ⟨i, e, q⟩ e1 ok1 rd => ?_⟩; subst e; exact ⟨i, rd.int, k _ m1 H1 q e1 ok1⟩
def cC {α : Type} (xs : List α) (lo hi : Option Int) : List α := (xs.drop (HT.sIx xs.length 0 lo)).take (HT.sIx xs.length xs.length hi - HT.sIx xs.length 0 lo)
theorem RPs.cut {K : PySem.W.Frag} {Z : Addr → Prop} {m : Mu} {H : Hp} {xs : List PyData} {vs : List V} {lo hi : Option Int} (h : RPs K Z m H xs vs) : RPs K Z m H (cC xs lo hi) (fZ vs lo hi) := by
 unfold cC fZ; rw [h.length]; exact (h.drop _).take _
theorem Pl {α : Type} (xs : List α) {lo hi : Option Int} (h : HT.sIx xs.length 0 lo = 0 ∧ HT.sIx xs.length xs.length hi = xs.length) : cC xs lo hi = xs := by
 unfold cC; rw [h.1, h.2]; simp
def f7 (K : PySem.W.Frag) : V → Option Int → Option Int → Hp → VK → Prop := fun x lo hi H Q => ∃ a xs, x = .ref a ∧ SqT K H a xs ∧
 (HT.sIx xs.length 0 lo = 0 ∧ HT.sIx xs.length xs.length hi = xs.length) ∧ Q (.ref a) H
theorem Si {prog : Program} {w : World} {A : Around} {E : Value → Shared → Prop} {s : Shared} {t sl : Addr} {items : Array Value} {vl vu : Value} {lo hi : Option Int} {Q : Value → Shared → Prop} (ht : IsTup s.heap t items) (hs : s.heap.IsSliceOf sl vl vu .none) (pl : IsPart vl lo) (pu : IsPart vu hi)
  (hw : HT.sIx items.size 0 lo = 0 ∧ HT.sIx items.size items.size hi = items.size)
  (h : Q (.ref t) s) : wpAny (model prog w) A (getItem (.ref t) (.ref sl)) Q E s := by
 obtain ⟨os, hos, hcs, hds⟩ := id hs; have hTs : s.TypeIs (.ref sl) "slice" := ⟨os, hos, hcs⟩
 unfold getItem
 try with_reducible refine wpAny_holding ?_
 first | refine wpAny_bind (wpAny_pure ?_) | skip
 refine wpAny_bind (wpAny_sequenceKey ht.typeIs (by decide) ?_)
 refine wpAny_bind (wpAny_callSpecial?_slot (name := Str.ofString "__getitem__") ht.typeIs PyProof.Rows.slot_tuple_getitem
  (wpAny_call_entry PyProof.Rows.slot_tuple_getitem ht.typeIs entry_tuple_getitem ?_ (args_tuple_getitem _ _)))
 show wpAny _ _ (Builtin.Tuple.tupleItemsOf (.ref t) >>= _) _ _ s
 refine wpAny_bind (tupleItemsOf_ ht ?_); refine wpAny_bind (wpAny_typeOf hTs ?_); rw [if_pos (by decide)]
 refine wpAny_bind (HT.sliceApplied_gen hs pl pu ?_); have hyes : (((HT.sIx items.size 0 lo : Nat) : Int) == 0 && (1 : Int) == 1 && (HT.sIx items.size items.size hi - HT.sIx items.size 0 lo) == items.size) = true := by
  rw [hw.1, hw.2]; simp
 show wpAny _ _ (if (((HT.sIx items.size 0 lo : Nat) : Int) == 0 && (1 : Int) == 1 && (HT.sIx items.size items.size hi - HT.sIx items.size 0 lo) == items.size) = true then _ else _) _ _ s
 rw [if_pos hyes]; refine wpAny_bind ?_; unfold Builtin.Tuple.tupleIsExact; refine wpAny_bind (wpAny_typeOf ht.typeIs (wpAny_pure ?_)); rw [if_pos (by decide)]
 first
  | exact wpAny_bind (wpAny_rule (wpAny_pure ⟨_, rfl, wpAny_pure h⟩))
  | exact wpAny_bind (wpAny_rule (wpAny_bind (wpAny_pure (wpAny_pure ⟨_, rfl, wpAny_pure h⟩))))
theorem M6 : SlR X (f7 X.K) := by
 intro pins s σ H x v vl vu lo hi sl Q I rx hs pl pu h; obtain ⟨a, xs, rfl, hx, hw, q⟩ := h
 cases rx
 obtain ⟨its, r, ht, hz⟩ := I.tuple hx; have hlen : its.toArray.size = xs.length := by rw [List.size_toArray]; exact r.length.symm
 refine ⟨"tuple", _, PyProof.Rows.slot_tuple_getitem.lookup, ht.typeIs, ?_⟩; exact Si ht hs pl pu (by rw [hlen]; exact hw) ⟨.ref a, H, I, rfl, q⟩
abbrev DC := List D → Mu → DK → Prop
def CallD (X : Cx) (fn : Value) (r : DC) : Prop :=
 ∀ (pins : List (Addr × Obj)) (s : Shared) (σ : L2.St) (H : Hp) (Z : Addr → Prop) (m : Mu) (xs : List V) (ds : List D) (us : List Value) (R : DK) (Q : VK), Inv X pins σ H s → Ok X.K Z m H → Vals xs us → RDs X.K Z m H ds xs → r ds m R →
  (∀ d m' v' H', R d m' → Ext X.K Z m H m' H' → Ok X.K Z m' H' → RD X.K Z m' H' d v' → Q v' H') → wpAny (model X.prog X.w) X.A (call fn us) (EP X pins σ Q) X.xe s
theorem CallD.cr {fn : Value} {r : DC} (h : CallD X fn r) : CallR X fn (fun vs H Q => ∃ Z m ds R, Ok X.K Z m H ∧ RDs X.K Z m H ds vs ∧ r ds m R ∧ ∀ d m' v' H', R d m' → Ext X.K Z m H m' H' → Ok X.K Z m' H' → RD X.K Z m' H' d v' → Q v' H') := by
 intro pins s σ H xs us Q I r1 ⟨Z, m, ds, R, ok, rd, q, k⟩; exact h pins s σ H Z m xs ds us R Q I ok r1 rd q k
@[simp] def bU (r : DC) (g : DA) : DE := fun d m Q => g d m fun xs m1 => r xs m1 Q
theorem LE.call {r : DC} {H : Hp} {σ : L2.St} {Q : VK} (h : LE X.K (bU r ga) σ H Q) :
  LA X.K ga σ H fun vs H1 => ∃ Z m ds R, Ok X.K Z m H1 ∧ RDs X.K Z m H1 ds vs ∧ r ds m R ∧ ∀ d m' v' H', R d m' → Ext X.K Z m H1 m' H' → Ok X.K Z m' H' → RD X.K Z m' H' d v' → Q v' H' := by
 obtain ⟨Z, d, m, R, ok, rs, h, k⟩ := h; exact ⟨Z, d, m, _, ok, rs, h, fun xs m1 vs H1 q e1 ok1 r1 => ⟨Z, m1, xs, R, ok1, r1, q, fun d' m' v' H' h1 h2 h3 h4 => k d' m' v' H' h1 (e1.trans h2) h3 h4⟩⟩
theorem Rq {x : Str} {id : String} {r : DC} (hc : CallD X (.builtin id) r) (hg : Gl X x) (hm : X.mg x = none) (hv : bootBuiltins x = some (.builtin id)) (ha : PA X (e :: es) (LA X.K ga)) (hn : x ≠ "__name__" := by decide) (hdb : (x == ("__debug__" : Str)) = false := by decide)
  (he : starEach (e :: es) X.env = (false, eval e X.env) :: starEach es X.env := by rfl) (hpl : (backTo pos (starEach es X.env)).any (·.1) = false := by rfl) : PE X (.Call (.Name x p) (e :: es) [] pos) (LE X.K (bU r ga)) :=
 PE.imp (Ny hc.cr hg hm hv ha hn hdb he hpl) fun s H Q h => h.call
theorem E2 {x : Str} {T : String} {r : DC} (hc : CallD X (.type T) r) (hg : Gl X x) (hm : X.mg x = none) (hv : bootBuiltins x = some (.type T)) (ha : PA X (e :: es) (LA X.K ga)) (hn : x ≠ "__name__" := by decide) (hdb : (x == ("__debug__" : Str)) = false := by decide)
  (he : starEach (e :: es) X.env = (false, eval e X.env) :: starEach es X.env := by rfl) (hpl : (backTo pos (starEach es X.env)).any (·.1) = false := by rfl) : PE X (.Call (.Name x p) (e :: es) [] pos) (LE X.K (bU r ga)) :=
 PE.imp (Wd hc.cr hg hm hv ha hn hdb he hpl) fun s H Q h => h.call
theorem RDs.one {K : PySem.W.Frag} {Z : Addr → Prop} {m : Mu} {H : Hp} {x : D} {vs : List V} (h : RDs K Z m H [x] vs) : ∃ v, vs = [v] ∧ RD K Z m H x v := by
 obtain ⟨v, r, h1, h2, h3⟩ := h
 cases (show r = [] from h3)
 exact ⟨v, h1, h2⟩
theorem RDs.two {K : PySem.W.Frag} {Z : Addr → Prop} {m : Mu} {H : Hp} {x y : D} {vs : List V} (h : RDs K Z m H [x, y] vs) : ∃ v w, vs = [v, w] ∧ RD K Z m H x v ∧ RD K Z m H y w := by
 obtain ⟨v, r, h1, h2, h3⟩ := h; obtain ⟨w, rfl, h4⟩ := RDs.one h3; exact ⟨v, w, h1, h2, h4⟩
@[simp] def kB : DC
 | [.dat (.tuple xs)], m, Q => Q (.dat (.int xs.length)) m
 | [.dat (.list xs)], m, Q => Q (.dat (.int xs.length)) m
 | [.dat (.str z)], m, Q => z.length ≤ sizeLine ∧ Q (.dat (.int z.length)) m
 | [.cel a], m, Q => ∃ xs, m a = some (.l xs) ∧ Q (.dat (.int xs.length)) m
 | _, _, _ => False
theorem pM : CallD X (.builtin "len") kB := by
 intro pins s σ H Z m xs ds us R Q I ok rv rd h k; unfold kB at h
 split at h
 ·obtain ⟨v, rfl, r1⟩ := rd.one; simp only [RD, RP] at r1; obtain ⟨a, vs, rfl, h1, h2⟩ := r1; refine Bb pins s σ H _ us Q I rv ⟨a, vs, rfl, .inr h1, ?_⟩; rw [h2.length]; exact k _ m _ H h Ext.refl ok .ofInt
 ·obtain ⟨v, rfl, r1⟩ := rd.one; simp only [RD, RP] at r1; obtain ⟨a, vs, rfl, _, h1, h2⟩ := r1; refine Bb pins s σ H _ us Q I rv ⟨a, vs, rfl, .inl h1, ?_⟩; rw [h2.length]; exact k _ m _ H h Ext.refl ok .ofInt
 ·obtain ⟨v, rfl, r1⟩ := rd.one
  cases r1.str
  exact Rr pins s σ H _ us Q I rv ⟨_, rfl, h.1, k _ m _ H h.2 Ext.refl ok .ofInt⟩
 ·obtain ⟨v, rfl, r1⟩ := rd.one; obtain ⟨rfl, _⟩ := r1; obtain ⟨ys, hm, q⟩ := h; obtain ⟨vs, h1, h2⟩ := ok.l hm; refine Bb pins s σ H _ us Q I rv ⟨_, vs, rfl, .inl (.inl (.inl h1)), ?_⟩; rw [h2.length]; exact k _ m _ H q Ext.refl ok .ofInt
 ·exact h.elim
@[simp] def xE : DC
 | [.dat (.int i)], m, Q => Q (.dat (.int (if i < 0 then -i else i))) m
 | _, _, _ => False
theorem Z3 : CallD X (.builtin "abs") xE := by
 intro pins s σ H Z m xs ds us R Q I ok rv rd h k; unfold xE at h
 split at h
 ·obtain ⟨v, rfl, r1⟩ := rd.one
  cases r1.int
  exact Ud pins s σ H _ us Q I rv ⟨_, rfl, k _ m _ H h Ext.refl ok .ofInt⟩
 ·exact h.elim
@[simp] def Eg : DC
 | [.dat (.int i), .dat (.int j)], m, Q => Q (.dat (.int (if j > i then j else i))) m
 | _, _, _ => False
theorem V4 (hc : X.calm = true) : CallD X (.builtin "max") Eg := by
 intro pins s σ H Z m xs ds us R Q I ok rv rd h k; unfold Eg at h
 split at h
 ·obtain ⟨v, w, rfl, r1, r2⟩ := rd.two
  cases r1.int
  cases r2.int
  exact Tv hc pins s σ H _ us Q I rv ⟨_, _, rfl, k _ m _ H h Ext.refl ok .ofInt⟩
 ·exact h.elim
@[simp] def sJ : DC
 | [.dat (.int i)], m, Q => Q (.dat (.int i)) m
 | [.dat (.bool b)], m, Q => Q (.dat (.int (if b then 1 else 0))) m
 | _, _, _ => False
theorem Ja : CallD X (.type "int") sJ := by
 intro pins s σ H Z m xs ds us R Q I ok rv rd h k; unfold sJ at h
 split at h
 ·obtain ⟨v, rfl, r1⟩ := rd.one
  cases r1.int
  exact Jz pins s σ H _ us Q I rv (.inl ⟨_, rfl, k _ m _ H h Ext.refl ok .ofInt⟩)
 ·obtain ⟨v, rfl, r1⟩ := rd.one
  cases r1.bl
  exact Jz pins s σ H _ us Q I rv (.inr ⟨_, rfl, k _ m _ H h Ext.refl ok .ofInt⟩)
 ·exact h.elim
@[simp] def iX : DC
 | [.dat p], m, Q => p.showable = true ∧ p.shown.length ≤ sizeLine ∧ p.depth ≤ 100 ∧ Q (.dat (.str p.shown)) m
 | _, _, _ => False
theorem mQ (hu : X.A.units + 200 < cLine) (hg : X.A.guards = some []) : CallD X (.builtin "repr") iX := by
 intro pins s σ H Z m xs ds us R Q I ok rv rd h k; unfold iX at h
 split at h
 ·rename_i p; obtain ⟨v, rfl, r1⟩ := rd.one; obtain ⟨u, rfl, ru⟩ := iL rv; obtain ⟨h1, h2, h3, h4⟩ := h; have fin : ∀ (tk tk' : Nat), EP X pins σ Q (.str p.shown tk) { s with toks := tk' } := fun tk tk' => ⟨.str p.shown, H, I.tok _, ⟨_, rfl⟩, k _ m _ H h4 Ext.refl ok .ofStr⟩
  obtain ⟨as, rd⟩ := RP.reads I p v u r1 ru; have nd := RP.noDict X.K p v r1
  cases rd with
  | none => exact PySem.P.repr_of_none (fin _ _)
  | bool b => exact PySem.P.repr_of_bool (by simpa only [PyData.shown] using fin _ _)
  | int i t => exact PySem.P.repr_of_int (by simpa [PyData.showable] using h1) (by simpa only [PyData.shown] using fin _ _)
  | str x t => exact PySem.P.repr_of_str (by simpa only [PyData.shown] using fin _ _) (by simpa only [PyData.shown] using h2)
  | list q1 q2 q3 q4 =>
   refine repr_of_reads' (.list q1 q2 q3 q4) h1 (PyData.noDict_hsm nd) hg (by omega) (fun _ _ e => e) (fun h' u tk kp => ⟨.str _, H, I.kept kp, ⟨_, rfl⟩, k _ m _ H h4 Ext.refl ok .ofStr⟩) h2
  | tuple q1 q2 q3 q4 =>
   refine repr_of_reads' (.tuple q1 q2 q3 q4) h1 (PyData.noDict_hsm nd) hg (by omega) (fun _ _ e => e) (fun h' u tk kp => ⟨.str _, H, I.kept kp, ⟨_, rfl⟩, k _ m _ H h4 Ext.refl ok .ofStr⟩) h2
  | dict q1 q2 q3 q4 q5 => simp only [PyData.hasDict] at nd; cases nd
 ·exact h.elim
end
end DL
namespace DL
open PySem PySem.Spec PyProof.Rows L2
section
variable {X : Cx} {st : Stmt} {rest body orelse : List Stmt} {t u b : DS} {e c tg iter : Expr} {f : DE} {tc : DT} {pos : Pos}
@[simp] def aP : DS := fun E d m => E.nx d m
@[simp] def aF (t u : DS) : DS := fun E d m => t { E with nx := u E } d m
theorem Rf : PSs X [] (LS X.K aP) := PSs.imp j2 fun E s H h => by
 obtain ⟨Z, d, m, R, ok, rs, h, k, _⟩ := h; exact k d m s H h Ext.refl ok rs
theorem T8 (h1 : PS X st (LS X.K t)) (h2 : PSs X rest (LS X.K u)) : PSs X (st :: rest) (LS X.K (aF t u)) := PSs.imp (Yn h1 h2) fun E s H h => by
 obtain ⟨Z, d, m, R, ok, rs, h, kn, kr, kb, kc⟩ := h; refine ⟨Z, d, m, _, ok, rs, h, fun d' m' s' H' q e1 ok1 rs1 => ⟨Z, d', m', R, ok1, rs1, q, ?_, ?_, ?_, ?_⟩, kr, kb, kc⟩
 ·exact fun d2 m2 s2 H2 q2 e2 ok2 rs2 => kn d2 m2 s2 H2 q2 (e1.trans e2) ok2 rs2
 ·exact fun x m2 v H2 q2 e2 ok2 r2 => kr x m2 v H2 q2 (e1.trans e2) ok2 r2
 ·exact fun d2 m2 s2 H2 q2 e2 ok2 rs2 => kb d2 m2 s2 H2 q2 (e1.trans e2) ok2 rs2
 ·exact fun d2 m2 s2 H2 q2 e2 ok2 rs2 => kc d2 m2 s2 H2 q2 (e1.trans e2) ok2 rs2
@[simp] def wK (f : DE) : DS := fun E d m => f d m fun _ m1 => E.nx d m1
theorem Zq (he : PE X e (LE X.K f)) (hs : swapsWith e none pos.line X.env = pure false := by rfl) : PS X (.Expr e pos) (LS X.K (wK f)) := PS.imp (Yz he hs) fun E s H h => by
 obtain ⟨Z, d, m, R, ok, rs, h, k, _⟩ := h; exact ⟨Z, d, m, _, ok, rs, h, fun x m1 v H1 q e1 ok1 r1 => k d m1 s H1 q e1 ok1 (rs.ext e1)⟩
@[simp] def bF (f : DE) : DS := fun E d m => f d m E.rt
theorem Yk (he : PE X e (LE X.K f)) : PS X (.Return (some e) pos) (LS X.K (bF f)) := PS.imp (Xx he) fun E s H h => by
 obtain ⟨Z, d, m, R, ok, rs, h, _, kr, _⟩ := h; exact ⟨Z, d, m, _, ok, rs, h, fun x m1 v H1 q e1 ok1 r1 => kr x m1 v H1 q e1 ok1 r1⟩
@[simp] def bY (c : DT) (t u : DS) : DS := fun E d m => c d m fun k m1 => if k = true then t E d m1 else u E d m1
theorem Wf (hc : PT X c (LT X.K tc)) (h1 : PSs X body (LS X.K t)) (h2 : PSs X orelse (LS X.K u)) : PS X (.If c body orelse pos) (LS X.K (bY tc t u)) := PS.imp (W5 hc h1 h2) fun E s H h => by
 obtain ⟨Z, d, m, R, ok, rs, h, kn, kr, kb, kc⟩ := h; refine ⟨Z, d, m, _, ok, rs, h, fun k m1 H1 q e1 ok1 => ?_⟩; have mk : ∀ {z : DS}, z R d m1 → LS X.K z E s H1 := fun q => ⟨Z, d, m1, R, ok1, rs.ext e1, q,
  fun d2 m2 s2 H2 q2 e2 ok2 rs2 => kn d2 m2 s2 H2 q2 (e1.trans e2) ok2 rs2, fun x m2 v H2 q2 e2 ok2 r2 => kr x m2 v H2 q2 (e1.trans e2) ok2 r2,
  fun d2 m2 s2 H2 q2 e2 ok2 rs2 => kb d2 m2 s2 H2 q2 (e1.trans e2) ok2 rs2, fun d2 m2 s2 H2 q2 e2 ok2 rs2 => kc d2 m2 s2 H2 q2 (e1.trans e2) ok2 rs2⟩
 cases k with
 | true => exact W2 (mk (by simpa using q))
 | false => exact Xb (mk (by simpa using q))
@[simp] def aV (i : Nat) (f : DE) : DS := fun E d m => f d m fun x m1 => E.nx (d.set i (some x)) m1
theorem p7 (i : Nat) {x : Str} {pos' : Pos} (hN : X.N.Nodup) (he : PE X e (LE X.K f)) (hi : X.N[i]? = some x := by rfl) (hx : fQ X.env.scope x := by first | exact Or.inl rfl | exact Or.inr rfl)
  (hs : swapsWith e (some (.Name x pos')) pos.line X.env = pure false := by rfl) (hf : X.fn x = true ∨ X.env.scope.names.lookup x = some .local := by first | exact .inl rfl | exact .inr rfl) :
  PS X (.Assign [.Name x pos'] e pos) (LS X.K (aV i f)) := PS.imp (J3 hN hi hx he hs hf) fun E s H h => by
 obtain ⟨Z, d, m, R, ok, rs, h, k, _⟩ := h; exact ⟨Z, d, m, _, ok, rs, h, fun x m1 v H1 q e1 ok1 r1 => k _ m1 _ H1 q e1 ok1 ((rs.ext e1).set r1)⟩
abbrev DG := D → aY → Mu → (aY → Mu → Prop) → Prop
abbrev iJ := List PyData → aY → Mu → (aY → Mu → Prop) → Prop
def LG (K : PySem.W.Frag) (g : DG) : TG := fun v s H Q => ∃ Z x d m R, Ok K Z m H ∧ RS K Z m H d s ∧ RD K Z m H x v ∧ g x d m R ∧ ∀ d' m' s' H', R d' m' → Ext K Z m H m' H' → Ok K Z m' H' → RS K Z m' H' d' s' → Q s' H'
def jL (K : PySem.W.Frag) (g : iJ) : gQ := fun vs s H Q => ∃ Z ps d m R, Ok K Z m H ∧ RS K Z m H d s ∧ RPs K Z m H ps vs ∧ g ps d m R ∧ ∀ d' m' s' H', R d' m' → Ext K Z m H m' H' → Ok K Z m' H' → RS K Z m' H' d' s' → Q s' H'
theorem PG.imp {t t' : TG} (h : PG X e t) (q : ∀ v s H Q, t' v s H Q → t v s H Q) : PG X e t' := fun pins s d H v u Q I r w => h pins s d H v u Q I r (q _ _ _ _ w)
theorem PGs.imp {es : List Expr} {t t' : gQ} (h : PGs X es t) (q : ∀ v s H Q, t' v s H Q → t v s H Q) : PGs X es t' := fun pins s d H v u Q I r w => h pins s d H v u Q I r (q _ _ _ _ w)
@[simp] def gN (i : Nat) : DG := fun x d m Q => Q (d.set i (some x)) m
theorem Sf (i : Nat) {x : Str} (hN : X.N.Nodup) (hi : X.N[i]? = some x := by rfl) (hx : fQ X.env.scope x := by first | exact Or.inl rfl | exact Or.inr rfl)
  (hf : X.fn x = true ∨ X.env.scope.names.lookup x = some .local := by first | exact .inl rfl | exact .inr rfl) : PG X (.Name x pos) (LG X.K (gN i)) := PG.imp (g6 hN hi hx hf) fun v s H Q h => by
 obtain ⟨Z, x, d, m, R, ok, rs, rd, h, k⟩ := h; exact k _ m _ H h Ext.refl ok (rs.set rd)
@[simp] def fW : iJ := fun ps d m Q => ps = [] ∧ Q d m
@[simp] def dF (g : DG) (r : iJ) : iJ
 | p :: qs, d, m, Q => g (.dat p) d m fun d' m' => r qs d' m' Q
 | [], _, _, _ => False
theorem Xw : PGs X [] (jL X.K fW) := PGs.imp Wa fun vs s H Q h => by
 obtain ⟨Z, ps, d, m, R, ok, rs, rp, ⟨rfl, h⟩, k⟩ := h; simp only [RPs] at rp; exact ⟨rp, k d m s H h Ext.refl ok rs⟩
theorem Zp {es : List Expr} {g : DG} {r : iJ} (h1 : PG X e (LG X.K g)) (h2 : PGs X es (jL X.K r)) (hs : (assignEach (e :: es) X.env).map (·.2) = assign e X.env :: (assignEach es X.env).map (·.2) := by rfl) :
  PGs X (e :: es) (jL X.K (dF g r)) := PGs.imp (Zt h1 h2 hs) fun vs s H Q h => by
 obtain ⟨Z, ps, d, m, R, ok, rs, rp, h, k⟩ := h
 match ps, rp, h with
 | [], _, h => exact h.elim
 | p :: qs, rp, h =>
 simp only [RPs] at rp; obtain ⟨v, w, rfl, r1, r2⟩ := rp; exact ⟨v, w, rfl, Z, .dat p, d, m, _, ok, rs, r1, h, fun d' m' s' H' q e1 ok1 rs1 => ⟨Z, qs, d', m', R, ok1, rs1, RPs.ext e1 _ _ r2, q, fun d2 m2 s2 H2 q2 e2 ok2 rs2 => k d2 m2 s2 H2 q2 (e1.trans e2) ok2 rs2⟩⟩
@[simp] def gT (n : Nat) (g : iJ) : DG := fun x d m Q => ∃ ps, x = .dat (.tuple ps) ∧ ps.length = n ∧ g ps d m Q
theorem Tu {es : List Expr} {j n : Nat} {g : iJ} (hc : X.calm = true) (h : PGs X es (jL X.K g)) (hn : (assignEach es X.env).length = n := by rfl) (hst : (assignEach es X.env).findIdx? (·.1) = none := by rfl) :
  PG X (.Tuple es j pos) (LG X.K (gT n g)) := PG.imp (G6 hc h hn hst) fun v s H Q h => by
 obtain ⟨Z, x, d, m, R, ok, rs, rd, ⟨ps, rfl, hl, h⟩, k⟩ := h; simp only [RD, RP] at rd; obtain ⟨a, vs, rfl, h1, h2⟩ := rd; exact ⟨a, vs, rfl, h1, by rw [h2.length]; exact hl, Z, ps, d, m, R, ok, rs, h2, h, k⟩
@[simp] def mS (f : DE) (g : DG) : DS := fun E d m => f d m fun x m1 => g x d m1 E.nx
theorem Xh {g : DG} (he : PE X e (LE X.K f)) (hg : PG X tg (LG X.K g)) (hs : swapsWithSole [tg] e pos.line X.env = pure false := by rfl) (hw : swappedStores [tg] e X.env = pure none := by rfl)
  (h1 : (assignEach [tg] X.env).map (·.2) = [assign tg X.env] := by rfl) : PS X (.Assign [tg] e pos) (LS X.K (mS f g)) := PS.imp (Lg he hg hs hw h1) fun E s H h => by
 obtain ⟨Z, d, m, R, ok, rs, h, k, _⟩ := h; exact ⟨Z, d, m, _, ok, rs, h, fun x m1 v H1 q e1 ok1 r1 => ⟨Z, x, d, m1, _, ok1, rs.ext e1, r1, q, fun d2 m2 s2 H2 q2 e2 ok2 rs2 => k d2 m2 s2 H2 q2 (e1.trans e2) ok2 rs2⟩⟩
@[simp] def sW (fo fi f : DE) : DS := fun E d m => f d m fun x m1 => fo d m1 fun o m2 => fi d m2 fun i m3 =>
 ∃ a k xs j p, o = .cel a ∧ i = .dat (.int k) ∧ x = .dat p ∧ m3 a = some (.l xs) ∧ dL xs.length k = some j ∧ E.nx d (bN m3 a (.l (xs.set j p)))
theorem Ys {o i : Expr} {fo fi : DE} {tpos : Pos} (he : PE X e (LE X.K f)) (ho : PE X o (LE X.K fo)) (hi : PE X i (LE X.K fi))
  (ha : ∀ v, assign (.Subscript o i tpos) X.env v = (do
   let ov ← holding [v] (eval o X.env)
   let iv ← holding [v, ov] (eval i X.env)
   standAt tpos
   holding [v, ov, iv] (setItem ov iv v)
   release [v, ov, iv] []) := by intro _; rfl)
  (hs : swapsWithSole [.Subscript o i tpos] e pos.line X.env = pure false := by rfl) (hw : swappedStores [.Subscript o i tpos] e X.env = pure none := by rfl)
  (h1 : (assignEach [.Subscript o i tpos] X.env).map (·.2) = [assign (.Subscript o i tpos) X.env] := by rfl) : PS X (.Assign [.Subscript o i tpos] e pos) (LS X.K (sW fo fi f)) :=
 PS.imp (Lg he (r8 ho hi B8 ha) hs hw h1) fun E s H h => by
 obtain ⟨Z, d, m, R, ok, rs, h, k, _⟩ := h; refine ⟨Z, d, m, _, ok, rs, h, fun x m1 v H1 q e1 ok1 r1 => ⟨Z, d, m1, _, ok1, rs.ext e1, q, fun o m2 w H2 q2 e2 ok2 r2 => ⟨Z, d, m2, _, ok2, (rs.ext e1).ext e2, q2, fun i m3 z H3 q3 e3 ok3 r3 => ?_⟩⟩⟩; obtain ⟨a, k', xs, j, p, rfl, rfl, rfl, hm, hj, q⟩ := q3
 cases r3.int
 obtain ⟨rfl, _⟩ := r2.ext e3; obtain ⟨vs, g1, g2⟩ := ok3.l hm; have r1' := r1.ext (e2.trans e3)
 refine ⟨a, vs, k', j, rfl, rfl, g1, by rw [g2.length]; exact hj, ?_⟩
 have e4 : Ext X.K Z m3 H3 (bN m3 a (.l (xs.set j p))) (aN H3 a (.lst (vs.set j v))) := Ext.put ok3 hm g1
 exact k d _ s _ q (e1.trans (e2.trans (e3.trans e4))) (ok3.put hm g1 (g2.set r1')) ((rs.ext e1).ext (e2.trans (e3.trans e4)))
def Cd (c : DT) (b : DS) : DS := fun E d m => ∃ W : Nat → aY → Mu → Prop, (∃ n, W n d m) ∧ ∀ n d m, W n d m →
 c d m fun k m1 => if k = true then ∃ N : aY → Mu → Prop, (∀ d' m', N d' m' → ∃ n', n' < n ∧ W n' d' m') ∧ b { E with nx := N, ct := N, bk := E.nx } d m1 else E.nx d m1
theorem X7 (hp : PassesOwn (model X.prog X.w) X.A X.env X.xe) (hc : PT X c (LT X.K tc)) (hb : PSs X body (LS X.K b)) : PS X (.While c body [] pos) (LS X.K (Cd tc b)) := PS.imp (N5 hp hc hb) fun E s H h => by
 obtain ⟨Z, d, m, R, ok, rs, ⟨W, ⟨n0, w0⟩, turn⟩, kn, kr, kb, kc⟩ := h; refine ⟨fun n s' H' => ∃ d' m', Ext X.K Z m H m' H' ∧ Ok X.K Z m' H' ∧ RS X.K Z m' H' d' s' ∧ W n d' m', ⟨n0, d, m, Ext.refl, ok, rs, w0⟩, ?_⟩; rintro n s1 H1 ⟨d1, m1, e1, ok1, rs1, w1⟩; refine ⟨Z, d1, m1, _, ok1, rs1, turn n d1 m1 w1, fun k m2 H2 q e2 ok2 => ?_⟩
 cases k with
 | false =>
  rw [if_neg Bool.false_ne_true] at q ⊢; exact kn d1 m2 s1 H2 q (e1.trans e2) ok2 (rs1.ext e2)
 | true =>
  rw [if_pos rfl] at q ⊢; obtain ⟨N, hN, q⟩ := q; refine ⟨fun s' H' => ∃ d' m', Ext X.K Z m H m' H' ∧ Ok X.K Z m' H' ∧ RS X.K Z m' H' d' s' ∧ N d' m', fun s' H' ⟨d', m', g1, g2, g3, g4⟩ => ?_, ?_⟩
  ·obtain ⟨n', hn, w⟩ := hN d' m' g4; exact ⟨n', hn, d', m', g1, g2, g3, w⟩
  ·have e12 := e1.trans e2
   exact ⟨Z, d1, m2, _, ok2, rs1.ext e2, q, fun d3 m3 s3 H3 q3 e3 ok3 rs3 => ⟨d3, m3, e12.trans e3, ok3, rs3, q3⟩, fun x m3 v H3 q3 e3 ok3 r3 => kr x m3 v H3 q3 (e12.trans e3) ok3 r3,
    fun d3 m3 s3 H3 q3 e3 ok3 rs3 => kn d3 m3 s3 H3 q3 (e12.trans e3) ok3 rs3, fun d3 m3 s3 H3 q3 e3 ok3 rs3 => ⟨d3, m3, e12.trans e3, ok3, rs3, q3⟩⟩
abbrev DI := aY → Mu → (List D → Mu → Prop) → Prop
def Yld (K : PySem.W.Frag) (Z : Addr → Prop) (m : Mu) (H : Hp) (x : D) (v : V) (H2 H3 : Hp) : Prop :=
 (H3 = H2 ∧ RD K Z m H x v) ∨ ∃ p ps vs, x = .dat (.tuple ps) ∧ v = .ref p ∧ H2 p = none ∧ H3 = aN H2 p (.tup vs) ∧ RPs K Z m H ps vs
theorem Yld.same {K : PySem.W.Frag} {Z : Addr → Prop} {m : Mu} {H H2 H3 : Hp} {x : D} {v : V} (h : Yld K Z m H x v H2 H3) : Same H2 H3 := by
 rcases h with ⟨rfl, _⟩ | ⟨p, ps, vs, _, _, hp, rfl, _⟩
 ·exact fun _ _ q => q
 ·exact cW hp
theorem Yld.rd {K : PySem.W.Frag} {Z Z' : Addr → Prop} {m m' : Mu} {H H2 H3 : Hp} {x : D} {v : V} (tr : ∀ d v, RD K Z m H d v → RD K Z' m' H2 d v) (ok : Ok K Z' m' H2) (h : Yld K Z m H x v H2 H3) : RD K Z' m' H3 x v := by
 rcases h with ⟨rfl, h⟩ | ⟨p, ps, vs, rfl, rfl, hp, rfl, h⟩
 ·exact tr _ _ h
 ·have h2 := RPs.lift (fun p v q => tr (.dat p) v q) h
  simp only [RD, RP]; exact ⟨p, vs, rfl, .inl (.inl cZ), RPs.ext (ok.ext (cW hp)) _ _ h2⟩
structure ExtY (K : PySem.W.Frag) (Z : Addr → Prop) (m : Mu) (H : Hp) (m' : Mu) (H' : Hp) : Prop where
 t : ∀ a vs, SqT K H a vs → SqT K H' a vs
 l : ∀ a vs, (m a = none ∧ ¬ Z a) → SqL K H a vs → m' a = none ∧ SqL K H' a vs
 fz : ∀ a o u, H a = some (.frz o u) → H' a = some (.frz o u)
theorem Ext.y {K : PySem.W.Frag} {Z : Addr → Prop} {m m' : Mu} {H H' : Hp} (e : Ext K Z m H m' H') : ExtY K Z m H m' H' := ⟨e.t, e.l, e.fz⟩
def pH (K : PySem.W.Frag) (Z : Addr → Prop) (m : Mu) (H : Hp) (xs : List D) (J : It) : Prop := ∀ m2 H2, ExtY K Z m H m2 H2 →
 (∀ (i : Nat) (x : D), xs[i]? = some x → J.go i H2 ∧ ∀ v H3, J.yld i H2 v H3 → Yld K Z m H x v H2 H3) ∧ J.stop xs.length H2
def LI (K : PySem.W.Frag) (fi : DI) : TI := fun s H R => ∃ (Z : Addr → Prop) (d : aY) (m : Mu) (ZZ : List D → Mu → Prop), Ok K Z m H ∧ RS K Z m H d s ∧ fi d m ZZ ∧
 ∀ xs m' H' J, ZZ xs m' → Ext K Z m H m' H' → Ok K Z m' H' → pH K Z m' H' xs J → R J H'
@[simp] def dQ (f : DE) : DI := fun d m Q => f d m fun x m1 => (∃ ps, x = .dat (.list ps) ∧ Q (ps.map .dat) m1) ∨ (∃ ps, x = .dat (.tuple ps) ∧ Q (ps.map .dat) m1)
theorem PI.imp {t t' : TI} (h : PI X tg e t) (q : ∀ s H R, t' s H R → t s H R) : PI X tg e t' := fun pins s d H R I w => h pins s d H R I (q _ _ _ w)
theorem sC {ps : List PyData} {i : Nat} {x : D} (h : (ps.map D.dat)[i]? = some x) : ∃ p, ps[i]? = some p ∧ x = .dat p := by
 rw [List.getElem?_map] at h
 cases e : ps[i]? with
 | none => rw [e] at h; cases h
 | some p => rw [e] at h; cases h; exact ⟨p, rfl, rfl⟩
theorem Vw {K : PySem.W.Frag} {Z : Addr → Prop} {m : Mu} {H : Hp} {a : Addr} {vs : List V} {ps : List PyData} (h0 : m a = none ∧ ¬ Z a) (h1 : SqL K H a vs) (h2 : RPs K Z m H ps vs) : pH K Z m H (ps.map .dat) (rP K a) := by
 intro m2 H2 e; obtain ⟨q0, q1⟩ := e.l a vs h0 h1; have q2 := h2
 refine ⟨fun i x hx => ?_, ⟨vs, q1, by rw [q2.length, List.length_map]; exact Nat.le_refl _⟩⟩
 obtain ⟨p, hp, rfl⟩ := sC hx; obtain ⟨v, hv, rv⟩ := h2.get hp; refine ⟨⟨vs, v, q1, hv⟩, fun v' H3 y => .inl ⟨y.1, ?_⟩⟩; have := y.2 vs q1
 rw [hv] at this
 cases this
 exact rv
theorem Vx {K : PySem.W.Frag} {Z : Addr → Prop} {m : Mu} {H : Hp} {a : Addr} {vs : List V} {ps : List PyData} (h1 : SqT K H a vs) (h2 : RPs K Z m H ps vs) : pH K Z m H (ps.map .dat) (xR K a) := by
 intro m2 H2 e; have q1 := e.t a vs h1
 have q2 := h2
 refine ⟨fun i x hx => ?_, ⟨vs, q1, by rw [q2.length, List.length_map]; exact Nat.le_refl _⟩⟩
 obtain ⟨p, hp, rfl⟩ := sC hx; obtain ⟨v, hv, rv⟩ := h2.get hp; refine ⟨⟨vs, v, q1, hv⟩, fun v' H3 y => .inl ⟨y.1, ?_⟩⟩; have := y.2 vs q1
 rw [hv] at this
 cases this
 exact rv
theorem U3 {l : Expr} {tl : TE} (hl : PE X l tl) : PI X tg l (fun s H R => tl s H fun x H1 => (∃ a, x = .ref a ∧ (∃ xs, SqL X.K H1 a xs) ∧ R (rP X.K a) H1) ∨ (∃ a, x = .ref a ∧ (∃ xs, SqT X.K H1 a xs) ∧ R (xR X.K a) H1)) := by
 intro pins s σ H R I h; refine aL (hl pins s σ H _ I h) fun v s1 ⟨x, H1, I1, r1, q1⟩ => ?_; rcases q1 with ⟨a, e, ⟨xs, hq⟩, q⟩ | ⟨a, e, ⟨xs, hq⟩, q⟩
 ·subst e
  cases r1
  obtain ⟨its, rv, p, hz⟩ := I1.list hq; refine wpAny_pyIter_list p.isList ?_; refine ⟨s1.heap.objs.size, [s1.heap.objs.size], _, _, H1, rfl, I1.kept (t' := s1.toks) fun b o e => Heap.get?_push_of_some _ e, N8 a _, ⟨_, Heap.get?_push_size _ rfl, rfl, rfl⟩, fun b hb => ?_, q⟩; have e : b = s1.heap.objs.size := by simpa using hb
  subst e; exact I1.fpOk (Nat.le_refl _) (I1.hok.fresh (Nat.le_refl _))
 ·subst e
  cases r1
  obtain ⟨its, rv, p, hz⟩ := I1.tuple hq; refine wpAny_pyIter_tuple (show s1.heap.IsTuple a its.toArray from p) ?_
  refine ⟨s1.heap.objs.size, [s1.heap.objs.size], _, _, H1, rfl, I1.kept (t' := s1.toks) fun b o e => Heap.get?_push_of_some _ e, Rs a _, ⟨_, Heap.get?_push_size _ rfl, rfl, rfl⟩, fun b hb => ?_, q⟩; have e : b = s1.heap.objs.size := by simpa using hb
  subst e; exact I1.fpOk (Nat.le_refl _) (I1.hok.fresh (Nat.le_refl _))
theorem Ve (ha : PE X e (LE X.K f)) : PI X tg e (LI X.K (dQ f)) := PI.imp (U3 ha) fun s H R h => by
 obtain ⟨Z, d, m, ZZ, ok, rs, h, k⟩ := h; refine ⟨Z, d, m, _, ok, rs, h, fun x m1 v H1 q e1 ok1 rd => ?_⟩; rcases q with ⟨ps, rfl, q⟩ | ⟨ps, rfl, q⟩
 ·simp only [RD, RP] at rd; obtain ⟨a, vs, rfl, h0, h1, h2⟩ := rd; exact .inl ⟨a, rfl, ⟨vs, h1⟩, k _ m1 H1 _ q e1 ok1 (Vw h0 h1 h2)⟩
 ·simp only [RD, RP] at rd; obtain ⟨a, vs, rfl, h1, h2⟩ := rd; exact .inr ⟨a, rfl, ⟨vs, h1⟩, k _ m1 H1 _ q e1 ok1 (Vx h1 h2)⟩
def dG (lo : Int) (n : Nat) : List D := (List.range n).map fun i => .dat (.int (lo + (i : Nat)))
@[simp] def kN (f : DE) : DI := fun d m Q => f d m fun x m1 => ∃ j : Int, x = .dat (.int j) ∧ -(2 ^ 62) ≤ j ∧ j < 2 ^ 62 ∧ Q (dG 0 j.toNat) m1
theorem D3 {p : Pos} (hg : Gl X "range") (hm : X.mg "range" = none) (ha : PE X e (LE X.K f)) (hs : starEach [e] X.env = [(false, eval e X.env)] := by rfl) : PI X tg (.Call (.Name "range" p) [e] [] pos) (LI X.K (kN f)) :=
 PI.imp (E8 hg hm (kU ha pR (by rw [hs]; rfl)) hs) fun s H R h => by
  obtain ⟨Z, d, m, ZZ, ok, rs, h, k⟩ := h; refine ⟨Z, d, m, _, ok, rs, h, fun x m1 v H1 ⟨j, e, h1, h2, q⟩ e1 ok1 rd => ?_⟩; subst e
  cases rd.int
  show ∃ j' : Int, [V.int j] = [V.int j'] ∧ _
  refine ⟨j, rfl, h1, h2, k _ m1 H1 _ q e1 ok1 fun m2 H2 e2 => ⟨fun i x hx => ?_, ?_⟩⟩
  ·unfold dG at hx; rw [List.getElem?_map] at hx
   cases ei : (List.range j.toNat)[i]? with
   | none => rw [ei] at hx; cases hx
   | some i' =>
    rw [ei] at hx
    cases hx
    have hl := (List.getElem?_eq_some_iff.mp ei).1
    have hi : i' = i := by
     obtain ⟨_, z⟩ := List.getElem?_eq_some_iff.mp ei; rw [List.getElem_range] at z; exact z.symm
    subst hi; rw [List.length_range] at hl; refine ⟨hl, fun v' H3 y => .inl ⟨y.1, ?_⟩⟩; rw [y.2]; exact .ofInt
  ·show j.toNat ≤ (dG 0 j.toNat).length
   unfold dG; rw [List.length_map, List.length_range]; exact Nat.le_refl _
def dP (g : DG) (b : DS) (E : Ends2) : List D → aY → Mu → Prop
 | [], d, m => E.nx d m
 | x :: xs, d, m => g x d m fun d' m' => b { E with nx := dP g b E xs, ct := dP g b E xs, bk := E.nx } d' m'
@[simp] def eF (fi : DI) (g : DG) (b : DS) : DS := fun E d m => fi d m fun xs m1 => dP g b E xs d m1
theorem Zc {fi : DI} {g : DG} (hp : PassesOwn (model X.prog X.w) X.A X.env X.xe) (hc : X.calm = true) (hi : PI X tg iter (LI X.K fi)) (hg : PG X tg (LG X.K g)) (hb : PSs X body (LS X.K b))
  (hs : ∀ x, foldedSetIterable iter X.env x = pure x := by intro _; rfl) : PS X (.For tg iter body [] pos) (LS X.K (eF fi g b)) := PS.imp (Wj hp hc hi hg hb hs) fun E s H h => by
 obtain ⟨Z, d, m, R, ok, rs, h, kn, kr, kb, kc⟩ := h; refine ⟨Z, d, m, _, ok, rs, h, fun xs m1 H1 J q e1 ok1 yl => ?_⟩; refine ⟨fun i n s' H' => ∃ d' m', n = xs.length - i ∧ i ≤ xs.length ∧ Ext X.K Z m1 H1 m' H' ∧ Ok X.K Z m' H' ∧ RS X.K Z m' H' d' s' ∧ dP g b R (xs.drop i) d' m', ⟨xs.length, d, m1, by simp, Nat.zero_le _, Ext.refl, ok1, rs.ext e1, by simpa using q⟩, ?_⟩
 rintro i n s2 H2 ⟨d2, m2, rfl, hi, e2, ok2, rs2, w⟩; obtain ⟨y1, y2⟩ := yl m2 H2 e2.y
 by_cases hl : i < xs.length
 ·rw [List.drop_eq_getElem_cons hl] at w; obtain ⟨go, yd⟩ := y1 i xs[i] (List.getElem?_eq_getElem hl); refine .inr ⟨go, fun s' H' => ∃ d' m', Ext X.K Z m1 H1 m' H' ∧ Ok X.K Z m' H' ∧ RS X.K Z m' H' d' s' ∧ dP g b R (xs.drop (i + 1)) d' m', fun s' H' ⟨d', m', g1, g2, g3, g4⟩ => ⟨xs.length - (i + 1), by omega, d', m', rfl, hl, g1, g2, g3, g4⟩, fun v H3 y => ?_⟩
  have yy := yd v H3 y
  have e2' := e2.trans (ok2.ext yy.same)
  refine ⟨Z, xs[i], d2, m2, _, ok2.grow yy.same, rs2.ext (ok2.ext yy.same), yy.rd (fun d v h => h.ext e2) ok2, w, fun d3 m3 s3 H3 q3 e3 ok3 rs3 => ?_⟩; have e23 := e2'.trans e3
  have e13 := e1.trans e23
  exact ⟨Z, d3, m3, _, ok3, rs3, q3, fun d4 m4 s4 H4 q4 e4 ok4 rs4 => ⟨d4, m4, e23.trans e4, ok4, rs4, q4⟩, fun x m4 v H4 q4 e4 ok4 r4 => kr x m4 v H4 q4 (e13.trans e4) ok4 r4,
   fun d4 m4 s4 H4 q4 e4 ok4 rs4 => kn d4 m4 s4 H4 q4 (e13.trans e4) ok4 rs4, fun d4 m4 s4 H4 q4 e4 ok4 rs4 => ⟨d4, m4, e23.trans e4, ok4, rs4, q4⟩⟩
 ·have e : i = xs.length := by omega
  subst e; rw [List.drop_length] at w; exact .inl ⟨y2, kn d2 m2 s2 H2 w (e1.trans e2) ok2 rs2⟩
end
end DL
namespace DL
open PySem PySem.Spec PyProof.Rows L2
section
variable {prog : Program} {w : World} {A : Around} {E : Value → Shared → Prop} {s : Shared}
theorem Yg (n : Nat) : Builtin.Slice.sliceAdjust none none (-1) (n : Int) = ((n : Int) - 1, -1) := by
 unfold Builtin.Slice.sliceAdjust; simp
theorem U4 (n : Nat) : Builtin.Slice.slicePlaces ((n : Int) - 1) (-1) (-1) = n := by
 unfold Builtin.Slice.slicePlaces; have h1 : ¬ ((-1 : Int) > 0) := by omega
 simp only [h1, if_false]
 by_cases h : (n : Int) - 1 > -1
 ·simp only [h, if_true, Int.neg_neg, Int.ediv_one]; omega
 ·simp only [h, if_false]; omega
theorem Hn (xs : List Value) : ∀ (k j : Nat), k + j = xs.length → (List.range k).filterMap (fun i => xs[k - 1 - i]?) = (xs.take k).reverse
 | 0, _, _ => by simp
 | k + 1, j, h => by
  have ih := Hn xs k (j + 1) (by omega)
  rw [List.range_succ_eq_map, List.filterMap_cons]; have hk : k < xs.length := by omega
  have e0 : xs[k + 1 - 1 - 0]? = some xs[k] := by simp [hk]
  rw [e0, List.filterMap_map]; have e1 : ((fun i => xs[k + 1 - 1 - i]?) ∘ Nat.succ) = fun i => xs[k - 1 - i]? := by
   funext i
   show xs[k + 1 - 1 - (i + 1)]? = xs[k - 1 - i]?
   congr 1
   omega
  rw [e1, ih, List.take_succ_eq_append_getElem hk, List.reverse_append]; rfl
theorem Xz (xs : Array Value) : ((List.range xs.size).filterMap fun (k : Nat) => xs[(((xs.size : Nat) : Int) - 1 + (k : Int) * (-1)).toNat]?).toArray = xs.toList.reverse.toArray := by
 have h := Hn xs.toList xs.size 0 (by simp)
 have e : (fun (k : Nat) => xs[(((xs.size : Nat) : Int) - 1 + (k : Int) * (-1)).toNat]?) = fun k => xs.toList[xs.size - 1 - k]? := by
  funext k
  have e1 : (((xs.size : Nat) : Int) - 1 + (k : Int) * (-1)).toNat = xs.size - 1 - k := by omega
  rw [e1, Array.getElem?_toList]
 rw [e, h]
 congr 2
 rw [← Array.length_toList, List.take_length]
theorem Qn {sl : Addr} {t : Tok} {n : Nat} {Q : Int × Int × Nat → Shared → Prop} (hs : s.heap.IsSliceOf sl .none .none (.int (-1) t))
  (h : Q ((n : Int) - 1, -1, n) s) : wpAny (model prog w) A (Builtin.Slice.sliceApplied (.ref sl) (pure (n : Int))) Q E s := by
 obtain ⟨os, hos, hcs, hds⟩ := id hs; unfold Builtin.Slice.sliceApplied Builtin.Slice.sliceFields; refine wpAny_bind (wpAny_bind (wpAny_field hos hds (x := .none) rfl (wpAny_bind (wpAny_field hos hds (x := .none) rfl (wpAny_bind (wpAny_field hos hds (x := .int (-1) t) rfl (wpAny_pure ?_))))))); refine wpAny_bind (slicePart_int ?_); show wpAny _ _ (if ((-1 : Int) == 0) = true then _ else _) _ _ s
 rw [if_neg (by decide)]
 refine wpAny_bind (slicePart_none (wpAny_bind (slicePart_none (wpAny_bind (wpAny_pure ?_))))); show wpAny _ _ (match Builtin.Slice.sliceAdjust none none (-1) (n : Int) with | (lo, hi) => pure (lo, (-1 : Int), Builtin.Slice.slicePlaces lo hi (-1))) _ _ s
 rw [Yg]; show wpAny _ _ (pure ((n : Int) - 1, (-1 : Int), Builtin.Slice.slicePlaces ((n : Int) - 1) (-1) (-1))) _ _ s
 rw [U4]; exact wpAny_pure h
theorem X6 {t sl : Addr} {items : Array Value} {tk : Tok} {Q : Value → Shared → Prop} (ht : IsTup s.heap t items) (hs : s.heap.IsSliceOf sl .none .none (.int (-1) tk))
  (h : Q (.ref s.heap.objs.size) { s with heap := s.heap.push { cls := .type "tuple", data := .seq items.toList.reverse.toArray } })
  (hsz : items.size ≤ sizeLine) : wpAny (model prog w) A (getItem (.ref t) (.ref sl)) Q E s := by
 have htake : sizeOk (.seq items.toList.reverse.toArray) := by
  show items.toList.reverse.toArray.size ≤ sizeLine
  simpa using hsz
 obtain ⟨os, hos, hcs, hds⟩ := id hs; have hTs : s.TypeIs (.ref sl) "slice" := ⟨os, hos, hcs⟩
 unfold getItem
 try with_reducible refine wpAny_holding ?_
 first | refine wpAny_bind (wpAny_pure ?_) | skip
 refine wpAny_bind (wpAny_sequenceKey ht.typeIs (by decide) ?_)
 refine wpAny_bind (wpAny_callSpecial?_slot (name := Str.ofString "__getitem__") ht.typeIs PyProof.Rows.slot_tuple_getitem
  (wpAny_call_entry PyProof.Rows.slot_tuple_getitem ht.typeIs entry_tuple_getitem ?_ (args_tuple_getitem _ _)))
 show wpAny _ _ (Builtin.Tuple.tupleItemsOf (.ref t) >>= _) _ _ s
 refine wpAny_bind (tupleItemsOf_ ht ?_); refine wpAny_bind (wpAny_typeOf hTs ?_); rw [if_pos (by decide)]
 refine wpAny_bind (Qn hs ?_); have hno : ¬ ((((items.size : Nat) : Int) - 1 == 0 && (-1 : Int) == 1 && items.size == items.size) = true) := by
  intro q; rw [Bool.and_eq_true, Bool.and_eq_true] at q; exact absurd q.1.2 (by decide)
 show wpAny _ _ (if (((items.size : Nat) : Int) - 1 == 0 && (-1 : Int) == 1 && items.size == items.size) = true then _ else _) _ _ s
 rw [if_neg hno, Xz]
 first
  | exact wpAny_bind (m := Builtin.Tuple.tupleExact _) (wpAny_newObj_type (wpAny_pure ⟨_, rfl, wpAny_pure h⟩) htake)
  | exact wpAny_bind (m := Builtin.Tuple.tupleExact _) (wpAny_newObj_type (wpAny_bind (wpAny_pure (wpAny_pure ⟨_, rfl, wpAny_pure h⟩))) htake)
  | exact wpAny_bind (wpAny_bind (m := Builtin.Tuple.tupleExact _) (wpAny_newObj_type (wpAny_pure (wpAny_pure ⟨_, rfl, wpAny_pure h⟩)) htake))
  | exact wpAny_bind (wpAny_bind (m := Builtin.Tuple.tupleExact _) (wpAny_newObj_type (wpAny_pure ⟨_, rfl, wpAny_pure h⟩) htake))
end
section
variable {X : Cx} {a e : Expr} {es : List Expr} {f : DE} {ga : DA} {pos p p1 p2 p3 p4 : Pos}
theorem Vals.rev : ∀ {xs : List V} {us : List Value}, Vals xs us → Vals xs.reverse us.reverse
 | _, _, .nil => .nil
 | _, _, .cons r t => by
  rw [List.reverse_cons, List.reverse_cons]; exact (Vals.rev t).append (.cons r .nil)
@[simp] def zM (f : DE) : DE := fun d m Q => f d m fun x m1 => ∃ xs, x = .dat (.tuple xs) ∧ Q (.dat (.tuple xs.reverse)) m1
theorem Rj {j : Nat} (ha : PE X a (LE X.K f)) : PE X (.Subscript a (.Slice none none (some (.UnaryOp .USub (.Constant (.int 1) j p3) p4)) p2) pos) (LE X.K (zM f)) := by
 intro pins s σ H Q I h; obtain ⟨Z, d, m, R, ok, rs, h, k⟩ := h; refine Subscript_ (aL (ha pins s σ H (fun x H1 => ∃ a vs, x = .ref a ∧ SqT X.K H1 a vs ∧ ∀ p, H1 p = none → Q (.ref p) (aN H1 p (.tup vs.reverse))) I ?_) fun v s1 ⟨x, H1, I1, r1, a', vs, ex, hq, q1⟩ => ?_)
 ·refine ⟨Z, d, m, _, ok, rs, h, fun x m1 v H1 ⟨xs, e, q⟩ e1 ok1 rd => ?_⟩; subst e; simp only [RD, RP] at rd; obtain ⟨a', vs, rfl, h1, h2⟩ := rd; refine ⟨a', vs, rfl, h1, fun p hp => ?_⟩; have sm : Same H1 (aN H1 p (.tup vs.reverse)) := cW hp
  refine k _ m1 _ _ q (e1.trans (ok1.ext sm)) (ok1.grow sm) ?_; simp only [RD, RP]; exact ⟨p, _, rfl, .inl (.inl cZ), RPs.ext (ok1.ext sm) _ _ h2.reverse⟩
 ·subst ex
  cases r1
  refine wpAny_Slice ?_; rw [evalPart_none]; refine wpAny_pure (wpAny_pure ?_); rw [evalPart_some]; refine UnaryOp_ (wpAny_Constant_int (neg_int ?_)); have I4 : ∀ tk, Inv X pins σ H1 { s1 with heap := s1.heap.push { cls := .type "slice", data := .fields #[.none, .none, .int (-1) (s1.toks + 1)] }, toks := tk } := fun tk => I1.kept fun b ob q => Heap.get?_push_of_some _ q
  obtain ⟨its, r, ht, hz⟩ := (I4 (s1.toks + 1 + 1)).tuple hq; have hl := r.length
  refine tail_any (ops := [.ref a', .ref s1.heap.objs.size]) ht.typeIs PyProof.Rows.slot_tuple_getitem.lookup (X6 ht (Heap.IsSliceOf.new ..) ?_ (by rw [List.size_toArray]; omega)) (by with_unfolding_all rfl)
  refine ⟨.ref _, aN H1 _ (.tup vs.reverse), (I4 (s1.toks + 1 + 1)).laid (t' := s1.toks + 1 + 1) (fun b ob q => Heap.get?_push_of_some _ q) (Nat.le_refl _) ?_, rfl, q1 _ ((I4 (s1.toks + 1 + 1)).hok.fresh (Nat.le_refl _))⟩; exact ⟨⟨by rw [List.length_reverse]; exact hz, NoD.new _ _ _⟩, _, Vals.rev r, IsTup.new _ _⟩
@[simp] def uX : PyData → String
 | .none => "NoneType"
 | .bool _ => "bool"
 | .int _ => "int"
 | .str _ => "str"
 | .list _ => "list"
 | .tuple _ => "tuple"
 | .dict _ => "dict"
@[simp] def isK (q : PyData) (c : String) : Bool := uX q == c || (uX q == "bool" && c == "int")
theorem Po (K : PySem.W.Frag) (q : PyData) (hd : ∀ kv, q ≠ .dict kv) (c : String) (hc : c = "int" ∨ c = "bool" ∨ c = "str" ∨ c = "tuple" ∨ c = "list") : PySem.W.kitOne K (.type (uX q)) (.type c) = some (isK q c) := by
 rcases hc with rfl | rfl | rfl | rfl | rfl <;> cases q <;> first | rfl | exact absurd rfl (hd _)
theorem Xs {pins : List (Addr × Obj)} {σ : L2.St} {H : Hp} {s : Shared} {Z : Addr → Prop} {m : Mu} {A : Around} {E : Value → Shared → Prop} {Q : Value → Shared → Prop} {q : PyData} {v : V} {u c : Value} {b : Bool} (I : Inv X pins σ H s) (rp : RP X.K Z m H q v) (rv : RelV v u)
  (e : PySem.W.kitOne X.K (.type (uX q)) c = some b) (h : ∀ tk, Q (.bool b) { s with toks := tk }) : wpAny (model X.prog X.w) A (call (.builtin "isinstance") [u, c]) Q E s := by
 cases q with
 | none => simp only [RP] at rp; subst rp; cases rv; exact PySem.W.kia_one PySem.W.kitx_none I.kIn True.intro e (fun z => nomatch z) h
 | bool y => simp only [RP] at rp; subst rp; cases rv; exact PySem.W.kia_one PySem.W.kitx_bool I.kIn True.intro e (fun z => nomatch z) h
 | int i => simp only [RP] at rp; subst rp; obtain ⟨t, rfl⟩ := rv; exact PySem.W.kia_one PySem.W.kitx_int I.kIn True.intro e (fun z => nomatch z) h
 | str y => simp only [RP] at rp; subst rp; obtain ⟨t, rfl⟩ := rv; exact PySem.W.kia_one PySem.W.kitx_str I.kIn True.intro e (fun z => nomatch z) h
 | tuple xs =>
  simp only [RP] at rp; obtain ⟨a', vs, rfl, h1, _⟩ := rp
  cases rv
  obtain ⟨its, _, ⟨o, g1, g2, _⟩, _⟩ := I.tuple h1; exact PySem.W.kia_one PySem.W.kitx_tuple I.kIn ⟨o, g1, g2⟩ e (fun z => nomatch z) h
 | list xs =>
  simp only [RP] at rp; obtain ⟨a', vs, rfl, _, h1, _⟩ := rp
  cases rv
  obtain ⟨its, _, ⟨o, n, g1, g2, _⟩, _⟩ := I.list h1; exact PySem.W.kia_one PySem.W.kitx_list I.kIn ⟨o, g1, g2⟩ e (fun z => nomatch z) h
 | dict kv => simp only [RP] at rp
theorem RP.notDict {K : PySem.W.Frag} {Z : Addr → Prop} {m : Mu} {H : Hp} {q : PyData} {v : V} (h : RP K Z m H q v) : ∀ kv, q ≠ .dict kv := by
 rintro kv rfl; simp only [RP] at h
theorem Wm : bootBuiltins "isinstance" = some (.builtin "isinstance") := by decide +kernel
@[simp] def pW (f : DE) (c : String) : DE := fun d m Q => f d m fun x m1 => ∃ q, x = .dat q ∧ Q (.dat (.bool (isK q c))) m1
theorem Vi {T : Str} {c : String} (hg : Gl X "isinstance") (hm : X.mg "isinstance" = none) (hgT : Gl X T) (hmT : X.mg T = none) (hv : bootBuiltins T = some (.type c)) (hc : c = "int" ∨ c = "bool" ∨ c = "str" ∨ c = "tuple" ∨ c = "list")
  (ha : PE X a (LE X.K f)) (hn : T ≠ "__name__" := by decide) (hd : (T == ("__debug__" : Str)) = false := by decide)
  (he : starEach [a, .Name T p2] X.env = (false, eval a X.env) :: starEach [.Name T p2] X.env := by rfl) :
  PE X (.Call (.Name "isinstance" p1) [a, .Name T p2] [] pos) (LE X.K (pW f c)) := by
 have cr : CallR X (.builtin "isinstance") (fun vs H Q => ∃ Z m q v, RP X.K Z m H q v ∧ vs = [v, .ty c] ∧ Q (.bl (isK q c)) H) := by
  intro pins s σ H xs us Q I rv ⟨Z, m, q, v, rp, e, h⟩; subst e; obtain ⟨u, w, rfl, r1, r2⟩ := vR rv
  cases r2
  exact Xs I rp r1 (Po X.K q rp.notDict c hc) fun tk => ⟨.bl _, H, I.tok _, rfl, h⟩
 refine PE.imp (Ny cr hg hm Wm (kU ha (kU (Oh (v := .ty c) hgT hmT hv rfl hn hd) pR) he) (he := he) (hpl := rfl)) fun s H Q h => ?_; obtain ⟨Z, d, m, R, ok, rs, h, k⟩ := h; refine ⟨Z, d, m, _, ok, rs, h, fun x m1 v H1 ⟨q, e, h1⟩ e1 ok1 rd => ?_⟩; subst e; exact ⟨Z, m1, q, v, rd, rfl, k _ m1 _ H1 h1 e1 ok1 .ofBl⟩
def LSp (K : PySem.W.Frag) (n : Nat) (sp : DC) : Sp := fun vs H Q _ => ∃ Z ds m R, Ok K Z m H ∧ RDs K Z m H ds vs ∧ ds.length = n ∧ sp ds m R ∧ ∀ d m' v' H', R d m' → Ext K Z m H m' H' → Ok K Z m' H' → RD K Z m' H' d v' → Q v' H'
theorem LSp.len {K : PySem.W.Frag} {n : Nat} {sp : DC} {vs : List V} {H : Hp} {Q : VK} {E : XK} (h : LSp K n sp vs H Q E) : vs.length = n := by
 obtain ⟨Z, ds, m, R, _, rd, hl, _⟩ := h; rw [rd.length]; exact hl
@[simp] def aU (n : Nat) (sp : DC) (g : DA) : DE := fun d m Q => g d m fun xs m1 => xs.length = n ∧ sp xs m1 Q
theorem W9 {k n : Nat} {fa : Addr} {fd : FuncData} {ps : List Str} {sp : DC} {x : Str} (F : FnOk X.prog X.w X.K X.mg X.base aT k fa fd ps (LSp X.K n sp)) (hr : Room k X.A) (hm : X.mg x = some (.ref fa)) (hk : PySem.W.keepIn X.K (.ref fa) = true)
  (hb : Binds X.K fd ps []) (hx : X.xe = fun _ _ => False) (ha : PA X (e :: es) (LA X.K ga)) (hg : Gl X x := by rfl) (hdb : (x == ("__debug__" : Str)) = false := by decide)
  (he : starEach (e :: es) X.env = (false, eval e X.env) :: starEach es X.env := by rfl) (hpl : (backTo pos (starEach es X.env)).any (·.1) = false := by rfl) : PE X (.Call (.Name x p) (e :: es) [] pos) (LE X.K (aU n sp ga)) :=
 PE.imp (A5 F hr hg hm hk hb .nil (Gv (X := X)) ha hdb he hpl) fun s H Q h => by
  obtain ⟨Z, d, m, R, ok, rs, h, k⟩ := h; refine ⟨Z, d, m, _, ok, rs, h, fun xs m1 vs H1 ⟨hl, q⟩ e1 ok1 rd => ⟨Z, xs, m1, R, ok1, by simpa using rd, hl, q, fun d' m' v' H' h1 h2 h3 h4 => k d' m' v' H' h1 (e1.trans h2) h3 h4⟩⟩
@[simp] def aX (N : List Str) (ds : List D) : aY := ds.map some ++ List.replicate (N.length - ds.length) none
theorem RDs.get {K : PySem.W.Frag} {Z : Addr → Prop} {m : Mu} {H : Hp} : ∀ {xs : List D} {vs : List V} {i : Nat} {x : D}, RDs K Z m H xs vs → xs[i]? = some x → ∃ v, vs[i]? = some v ∧ RD K Z m H x v
 | [], _, _, _, _, e => by simp at e
 | _ :: _, _, 0, x, ⟨v, r, h1, h2, _⟩, e => by
  simp at e; subst h1 e; exact ⟨v, rfl, h2⟩
 | _ :: xs, _, i + 1, x, ⟨v, r, h1, _, h3⟩, e => by
  obtain ⟨u, q1, q2⟩ := RDs.get (i := i) (x := x) h3 (by simpa using e)
  subst h1; exact ⟨u, by simpa using q1, q2⟩
theorem S4 {K : PySem.W.Frag} {Z : Addr → Prop} {m : Mu} {H : Hp} {N : List Str} {ds : List D} {vs : List V} (h : RDs K Z m H ds vs) : RS K Z m H (aX N ds) (start N vs) := by
 have hl := h.length
 refine ⟨?_, fun i x hx => ?_⟩
 ·unfold aX L2.start; rw [List.length_append, List.length_append, List.length_map, List.length_map, List.length_replicate, List.length_replicate, hl]
 ·unfold aX at hx
  by_cases hi : i < ds.length
  ·rw [List.getElem?_append_left (by simpa using hi), List.getElem?_map] at hx
   cases e : ds[i]? with
   | none => rw [e] at hx; cases hx
   | some y =>
    rw [e] at hx
    cases hx
    obtain ⟨v, q1, q2⟩ := h.get e; refine ⟨v, ?_, q2⟩; unfold L2.start; rw [List.getElem?_append_left (by rw [List.length_map, hl]; exact hi), List.getElem?_map, q1]
    rfl
  ·rw [List.getElem?_append_right (by simpa using hi), List.getElem?_replicate] at hx
   split at hx <;> cases hx
end
section
variable {P : Program} {w : World} {K : PySem.W.Frag} {mg : Str → Option Value} {base : Heap}
theorem D6 {x qual : Str} {st : Stmt} {fa : Addr} {fd : FuncData} {N ps : List Str} {k : Nat} {sp : DC} {body : DS} (F : Fun K x qual st fa fd) (S : FnScope N ps (aO st))
  (hb : ∀ (cdv : Value) (A : Around) (outer : List Env) (s : Shared) (H : Hp) (E : XK), Room k (A.deeper (envOfC qual (aO st) s.heap.objs.size fa cdv)) →
   PSs (jY aT P w K mg base N qual (aO st) fa cdv A outer s H E).nox (aZ st) (LS K body))
  (hv : ∀ ds m R, ds.length = ps.length → sp ds m R → body { nx := fun _ m => R (.dat .none) m, rt := R } (aX N ds) m) : FnOk P w K mg base aT (k + 1) fa fd ps (LSp K ps.length sp) := by
 refine F.ok S (fun vs H Q E h => h.len) (fun cdv A outer s H vs Q E hr h => ?_); obtain ⟨Z, ds, m, R, ok, rd, hl, h, kk⟩ := h; refine ⟨_, hb cdv A outer s H E hr, Z, aX N ds, m, _, ok, S4 rd, hv ds m R hl h, ?_, ?_, ?_, ?_⟩
 ·intro d' m' s' H' q e1 ok1 _; exact kk _ m' _ H' q e1 ok1 (by simp only [RD, RP])
 ·exact fun x m' v H' q e1 ok1 r1 => kk x m' v H' q e1 ok1 r1
 ·exact fun _ _ _ _ q _ _ _ => q.elim
 ·exact fun _ _ _ _ q _ _ _ => q.elim
end
end DL
namespace L2
open PySem
theorem Room.u100 {k : Nat} {A : Around} (r : Room k A) : A.units + 100 < cLine := by have := r.un; omega
theorem Room.u200 {k : Nat} {A : Around} (r : Room k A) : A.units + 200 < cLine := by have := r.un; omega
end L2
namespace DL
open PySem PySem.Spec PyProof.Rows L2
theorem lG : bootBuiltins "len" = some (.builtin "len") := by decide +kernel
theorem Qf : bootBuiltins "abs" = some (.builtin "abs") := by decide +kernel
theorem T4 : bootBuiltins "max" = some (.builtin "max") := by decide +kernel
theorem oQ : bootBuiltins "repr" = some (.builtin "repr") := by decide +kernel
theorem Ep : bootBuiltins "int" = some (.type "int") := by decide +kernel
theorem fR : bootBuiltins "tuple" = some (.type "tuple") := by decide +kernel
end DL
namespace DL
open PySem PySem.Spec PyProof.Rows L2
theorem Bx {K : PySem.W.Frag} {Z : Addr → Prop} {m : Mu} {H : Hp} : ∀ ns : List Int, RPs K Z m H (ns.map PyData.int) (ns.map V.int)
 | [] => by simp [RPs]
 | n :: ns => by
  simp only [List.map_cons, RPs]; exact ⟨_, _, rfl, by simp only [RP], Bx ns⟩
theorem X2 {K : PySem.W.Frag} {sp : DC} {H : Hp} {a : Addr} {ns : List Int} {E : XK} (hS : SqL K H a (ns.map V.int)) (h : sp [.dat (.list (ns.map .int))] (fun _ => none) (fun d _ => d = .dat (.bool true))) : LSp K 1 sp [.ref a] H (fun v _ => v = .bl true) E := by
 have ok : Ok K (fun _ => False) (fun _ => none) H := ⟨fun b ds e => (by cases e), fun _ z => False.elim z⟩
 refine ⟨fun _ => False, [.dat (.list (ns.map .int))], fun _ => none, fun d _ => d = .dat (.bool true), ok, ⟨.ref a, [], rfl, ?_, rfl⟩, rfl, h, ?_⟩
 ·simp only [RD, RP]; exact ⟨a, _, rfl, by first | exact ⟨rfl, fun z => z⟩ | simp, hS, Bx ns⟩
 ·rintro d m' v' H' rfl _ _ r; simpa only [RD, RP] using r
end DL
namespace DL
open PySem PySem.Spec PyProof.Rows L2
theorem Bv (env : Env) : ∀ (names : List (Str × NameKind)) (cs : List (Str × Addr)), (∀ x, (x, NameKind.free) ∈ names → ∃ c, env.cells.lookup x = some c) → (∀ p ∈ cs, env.cells.lookup p.1 = some p.2) →
  ∃ cl : List (Str × Addr), (forIn names cs (fun (x : Str × NameKind) (r : List (Str × Addr)) => (if (x.2 == .free) = true then (do let c ← cellOf env x.1; pure (ForInStep.yield ((x.1, c) :: r))) else pure (ForInStep.yield r) : Sem (ForInStep (List (Str × Addr)))))) = pure cl ∧
   (∀ p ∈ cl, env.cells.lookup p.1 = some p.2) ∧ (∀ p ∈ cs, p ∈ cl) ∧ ∀ x, (x, NameKind.free) ∈ names → ∃ c, (x, c) ∈ cl
 | [], cs, _, h => ⟨cs, rfl, h, fun _ z => z, fun x z => nomatch z⟩
 | (n, k) :: r, cs, hf, h => by
  by_cases hk : k = .free
  ·subst hk; obtain ⟨c, hc⟩ := hf n List.mem_cons_self; obtain ⟨cl, e, h1, h2, h3⟩ := Bv env r ((n, c) :: cs) (fun x hx => hf x (List.mem_cons_of_mem _ hx)) (fun p hp => by
    rcases List.mem_cons.mp hp with rfl | hp
    ·exact hc
    ·exact h p hp)
   refine ⟨cl, ?_, h1, fun p hp => h2 p (List.mem_cons_of_mem _ hp), fun x hx => ?_⟩
   ·rw [List.forIn_cons]; have e2 : cellOf env n = pure c := by unfold cellOf; rw [hc]
    simp only [beq_self_eq_true, if_true, e2, pure_bind]; exact e
   ·rcases List.mem_cons.mp hx with z | hx
    ·cases z
     exact ⟨c, h2 _ List.mem_cons_self⟩
    ·exact h3 x hx
  ·obtain ⟨cl, e, h1, h2, h3⟩ := Bv env r cs (fun x hx => hf x (List.mem_cons_of_mem _ hx)) h; refine ⟨cl, ?_, h1, h2, fun x hx => ?_⟩
   ·rw [List.forIn_cons]; have e2 : (k == NameKind.free) = false := by simpa using hk
    simp only [e2, Bool.false_eq_true, if_false, pure_bind]; exact e
   ·rcases List.mem_cons.mp hx with z | hx
    ·cases z
     exact absurd rfl hk
    ·exact h3 x hx
theorem Nl {scope : Scope} {env : Env} (hf : ∀ x, (x, NameKind.free) ∈ scope.names → ∃ c, env.cells.lookup x = some c) :
  ∃ cl : List (Str × Addr), closureFor scope env = pure cl ∧ (∀ p ∈ cl, env.cells.lookup p.1 = some p.2) ∧ ∀ x, (x, NameKind.free) ∈ scope.names → ∃ c, (x, c) ∈ cl := by
 obtain ⟨cl, e, h1, _, h3⟩ := Bv env scope.names [] hf (fun _ z => nomatch z); refine ⟨cl, ?_, h1, h3⟩; unfold closureFor
 first
  | exact e
  | (show (do let cs ← forIn scope.names ([] : List (Str × Addr)) _; pure cs : Sem _) = _; rw [e]; rfl)
  | (simp only []; rw [e]; rfl)
section
variable {prog : Program} {w : World} {A : Around} {R : Result → Shared → Prop} {s : Shared}
theorem F7 {elt target iter : Expr} {ifs : List Expr} {scope : Scope} {pos : Pos} {it acc : Value} {env : Env} (I : Nat → Shared → Prop)
  (turn : ∀ n s, I n s → wpAny (model prog w) A (pyNext it) (fun r s₁ => match r with
   | none => R (.ok .next) s₁
   | some v => wpAny (model prog w) A (letOwnedTupleGo target it v) (fun _ s₀ => wpAny (model prog w) A (assign target env v) (fun _ s₂ =>
     wpAny (model prog w) A (forIn ifs true fun c r => if r = true then do let ok ← isTrue c env (eval c env); pure (ForInStep.yield ok) else pure (ForInStep.yield r)) (fun ok s₃ =>
      if ok = true then wpAny (model prog w) A (eval elt env) (fun x s₄ =>
       wpAny (model prog w) A (call (.builtin "list.append") [acc, x]) (fun _ s₅ => ∃ m, m < n ∧ I m s₅) (fun _ _ => False) s₄) (fun _ _ => False) s₃
      else ∃ m, m < n ∧ I m s₃) (fun _ _ => False) s₂) (fun _ _ => False) s₀) (fun _ _ => False) s₁) (fun _ _ => False) s)
  (n : Nat) (h : I n s) :
  codeAny (model prog w) A (.compLoop (.ListComp elt [⟨target, iter, ifs, 0⟩] scope pos) 0 it acc env) R s := by
 have ff : ∀ {E : Value → Shared → Prop} (x : Value) (s : Shared), False → E x s := fun _ _ z => z.elim
 refine codeAny_loop rfl I (fun n s hI => ?_) n h; show wpAny _ A ((compTurn (.ListComp elt [⟨target, iter, ifs, 0⟩] scope pos) 0 it acc env).onRaise (fun x => do noteFrame x env; theTreesLotGoes x)) _ _ s
 refine wpAny_noted ?_; rw [compTurn_list]; refine wpAny_bind (wpAny_standAt (wpAny_bind (wpAny_mono (turn n s hI) (fun r s₁ h₁ => ?_) ff)))
 cases r with
 | none => exact wpAny_pure h₁
 | some v =>
  refine wpAny_bind (wpAny_mono h₁ (fun _ s₀ h₀ => ?_) ff); refine wpAny_bind (wpAny_mono h₀ (fun _ s₂ h₂ => wpAny_bind (wpAny_mono h₂ (fun ok s₃ h₃ => ?_) ff)) ff)
  cases ok with
  | true =>
   simp only [if_true] at h₃ ⊢; refine wpAny_bind (wpAny_bind (wpAny_mono h₃ (fun x s₄ h₄ => wpAny_bind (wpAny_mono h₄ (fun _ s₅ h₅ => wpAny_pure (wpAny_pure ⟨rfl, h₅⟩)) ff)) ff))
  | false =>
   simp only [Bool.false_eq_true, if_false] at h₃ ⊢; exact wpAny_pure ⟨rfl, h₃⟩
end
end DL
namespace DL
open PySem PySem.Spec PyProof.Rows L2
def aW (X : Cx) (scope : Scope) (cl : List (Str × Addr)) (C : Addr) (NC : List Str) (s2 : Shared) (H2 : Hp) (pins : List (Addr × Obj)) (fp : List Addr) : Cx where
 prog := X.prog
 w := X.w
 K := X.K
 mg := X.mg
 base := X.base
 A := X.A
 N := NC
 s₀ := s2
 H₀ := H2
 env := compEnvC scope cl C X.env
 outer := X.stack
 stack := X.stack
 ex := fp
 fn := fun _ => false
 calm := X.calm
 pn := X.pn ++ pins
 xe := fun _ _ => False
theorem vE {cl : List (Str × Addr)} {x : Str} {c : Addr} (h : cl.lookup x = some c) : (x, c) ∈ cl := PySem.mem_of_lookup h
theorem Kz {cl : List (Str × Addr)} {x : Str} : ∀ {c : Addr}, (x, c) ∈ cl → ∃ c', cl.lookup x = some c' := by
 induction cl with
 | nil => intro c h; cases h
 | cons p r ih =>
  intro c h; rw [List.lookup_cons]
  cases hx : x == p.1 with
  | true => exact ⟨_, rfl⟩
  | false =>
   rcases List.mem_cons.mp h with e | h
   ·subst e; simp at hx
   ·exact ih h
theorem wW {env : Env} : ∀ {names : List (Str × NameKind)} {x : Str}, (∀ y ∈ names, y.2 ≠ .cell) →
  ((names.map fun (n, k) => if (k == NameKind.free && env.scope.kind == .function && env.kindOf n == some .cell) then (n, NameKind.cell) else (n, k)).lookup x = some .cell ∨
    (names.map fun (n, k) => if (k == NameKind.free && env.scope.kind == .function && env.kindOf n == some .cell) then (n, NameKind.cell) else (n, k)).lookup x = some .free) → (x, NameKind.free) ∈ names
 | [], x, _, h => by simp at h
 | (n, k) :: r, x, hc, h => by
  have ih := @wW env r x (fun y hy => hc y (List.mem_cons_of_mem _ hy))
  by_cases hk : (k == NameKind.free && env.scope.kind == .function && env.kindOf n == some .cell) = true
  ·have kf : k = .free := by
    rw [Bool.and_eq_true, Bool.and_eq_true] at hk; exact eq_of_beq hk.1.1
   subst kf; simp only [List.map_cons, hk, if_true, List.lookup_cons] at h
   cases hx : x == n with
   | true =>
    have : x = n := eq_of_beq hx
    subst this; exact List.mem_cons_self
   | false =>
    simp only [hx] at h; exact List.mem_cons_of_mem _ (ih h)
  ·have hk' : (k == NameKind.free && env.scope.kind == .function && env.kindOf n == some .cell) = false := by simpa using hk
   simp only [List.map_cons, hk', Bool.false_eq_true, if_false, List.lookup_cons] at h
   cases hx : x == n with
   | true =>
    have : x = n := eq_of_beq hx
    subst this; simp only [hx] at h; have hne := hc (x, k) List.mem_cons_self
    rcases h with h | h
    ·exact absurd (Option.some.inj h) hne
    ·have : k = .free := Option.some.inj h
     subst this; exact List.mem_cons_self
   | false =>
    simp only [hx] at h; exact List.mem_cons_of_mem _ (ih h)
section
variable {X : Cx} {pins : List (Addr × Obj)} {σ : L2.St} {H2 : Hp} {s2 : Shared} {scope : Scope} {cl : List (Str × Addr)} {NC : List Str} {fp : List Addr} {C : Addr}
theorem S5 (I2 : Inv X pins σ H2 s2) (hf : ∀ b ∈ fp, dR X pins H2 b) (hob : ∀ b ∈ fp, ∃ o, s2.heap.get? b = some o ∧ ∀ v, o.data ≠ .cell v) (hkind : scope.kind = .function) (hcell : ∀ y ∈ scope.names, y.2 ≠ .cell)
  (hcl1 : ∀ p ∈ cl, X.env.cells.lookup p.1 = some p.2) (hcl2 : ∀ x, (x, NameKind.free) ∈ scope.names → ∃ c, (x, c) ∈ cl) (hC : s2.heap.objs.size ≤ C) : (aW X scope cl C NC s2 H2 pins fp).Ok := by
 have lk : ∀ x c, cl.lookup x = some c → X.env.cells.lookup x = some c := fun x c h => hcl1 (x, c) (vE h)
 refine ⟨I2.ok.mod, hkind, I2.ok.glob, I2.ok.blt, hC, fun x y c h1 h2 => I2.ok.inj x y c (lk x c h1) (lk y c h2), fun x hx => ?_, fun x c h => absurd (show false = true from h) Bool.false_ne_true, I2.ok.hd, I2.ok.frames, .inl rfl, fun b hb => ⟨?_, fun x c h => ?_⟩, fun b o e => I2.bs b o e,
  Nat.le_trans I2.ok.bsz I2.sz, fun b o e hb => ?_, fun b hb hs => ?_, I2.stack, I2.stkFree⟩
 ·obtain ⟨c, hc⟩ := hcl2 x (wW (env := X.env) hcell hx); exact Kz hc
 ·obtain ⟨o, ho, _⟩ := hob b hb; exact Nat.ne_of_lt (Nat.lt_of_lt_of_le (Heap.lt_size ho) hC)
 ·exact (hf b hb).2.2.2.2.1 x c (lk x c h)
 ·rcases (hf b hb).2.2.2.1 with z | z
  ·exact I2.ok.noex b o e z
  ·exact absurd (Nat.lt_of_lt_of_le (Heap.lt_size e) (Nat.le_trans I2.ok.bsz z)) (Nat.lt_irrefl _)
 ·rcases List.mem_cons.mp (I2.stkSub b hs) with z | z
  ·exact (hf b hb).2.1 z
  ·exact (hf b hb).2.2.1 z
theorem Hf {σ' : L2.St} {h₁ : Heap} {tk : Nat} {mm : Str → Option Value} (I2 : Inv X pins σ H2 s2) (hf : ∀ b ∈ fp, dR X pins H2 b) (hob : ∀ b ∈ fp, ∃ o, s2.heap.get? b = some o ∧ ∀ v, o.data ≠ .cell v) (hkind : scope.kind = .function) (hcell : ∀ y ∈ scope.names, y.2 ≠ .cell)
  (hcl1 : ∀ p ∈ cl, X.env.cells.lookup p.1 = some p.2) (hcl2 : ∀ x, (x, NameKind.free) ∈ scope.names → ∃ c, (x, c) ∈ cl)
  (hlen : σ'.length = NC.length) (hσ : ∀ (i : Nat) (x : Str) (v : V), NC[i]? = some x → σ'[i]? = some (some v) → jX (relabel scope X.env) x → ((relabel scope X.env).names.lookup x = some .cell ∨ (relabel scope X.env).names.lookup x = some .free) ∧ (X.env.kindOf x = some .cell ∨ X.env.kindOf x = some .free) ∧ ∃ j : Nat, X.N[j]? = some x ∧ σ[j]? = some (some v))
  (hC : C = s2.heap.objs.size + 1) (hns : h₁.Ns C mm) (hk : ∀ b u, s2.heap.get? b = some u → h₁.get? b = some u)
  (hD : h₁.get? s2.heap.objs.size = some { cls := .type "list", data := .seq ([] : List Value).toArray }) :
  Inv (aW X scope cl C NC s2 H2 pins fp) [] σ' (aN H2 s2.heap.objs.size (.lst [])) { s2 with heap := h₁, toks := tk } := by
 have lk : ∀ x c, cl.lookup x = some c → X.env.cells.lookup x = some c := fun x c h => hcl1 (x, c) (vE h)
 have hn : H2 s2.heap.objs.size = none := I2.hok.fresh (Nat.le_refl _)
 have le1 : s2.heap.objs.size ≤ C := by rw [hC]; exact Nat.le_succ _
 have ne1 : C ≠ s2.heap.objs.size := by rw [hC]; exact Nat.succ_ne_self _
 have hCn : H2 C = none := I2.hok.fresh le1
 have neD : ∀ b o, s2.heap.get? b = some o → b ≠ s2.heap.objs.size := fun b o e => Nat.ne_of_lt (Heap.lt_size e)
 refine ⟨S5 I2 hf hob hkind hcell hcl1 hcl2 le1, rfl, I2.bare, Un.laid hk (Nat.le_refl _) hn, ⟨mm, hns, fun i x v h1 h2 h3 => ?_⟩, fun x c h => ?_, ?_, fun x c h => ?_, fun p hp => ?_, ?_, hlen⟩
 ·obtain ⟨hy, hx, j, hj, hv⟩ := hσ i x v h1 h2 h3; obtain ⟨m, hnX, hl⟩ := I2.loc; have vis : jX X.env.scope x := by rcases hx with z | z; exact .inr (.inl z); exact .inr (.inr z)
  obtain ⟨u, r, l⟩ := hl j x v hj hv vis; refine ⟨u, r, .inr ⟨hy, ?_⟩⟩; obtain ⟨c', hc'⟩ := hcl2 x (wW (env := X.env) hcell hy); obtain ⟨c, hc⟩ := Kz hc'; refine ⟨c, hc, ?_⟩; rcases l with ⟨z, _⟩ | ⟨_, c2, e2, o, ho, hd⟩
  ·rcases hx with q | q
   ·rw [z] at q; cases q
   ·rw [z] at q; cases q
  ·have := lk x c hc
   rw [e2] at this
   cases this
   exact ⟨o, hk _ o ho, hd⟩
 ·obtain ⟨v, o, ho, hd⟩ := I2.cell x c (lk x c h); exact ⟨v, o, hk _ o ho, hd⟩
 ·show aN H2 s2.heap.objs.size (.lst []) C = none
  rw [bG ne1]; exact hCn
 ·obtain ⟨v, o, ho, hd⟩ := I2.cell x c (lk x c h); rw [bG (neD c o ho)]; exact I2.freeC x c (lk x c h)
 ·have hp' : p ∈ X.pn ++ pins := by
   rcases List.mem_append.mp hp with z | z
   ·exact z
   ·cases z
  obtain ⟨e, n, ne, nf, d⟩ := I2.pin p hp'; refine ⟨hk _ _ e, by rw [bG (neD _ _ e)]; exact n, ?_, fun z => ?_, d⟩
  ·show p.1 ≠ C
   exact Nat.ne_of_lt (Nat.lt_of_lt_of_le (Heap.lt_size e) le1)
  ·rcases List.mem_cons.mp (I2.stkSub p.1 z) with q | q
   ·exact ne q
   ·exact nf q
 ·exact I2.hok.laid hk (Nat.le_refl _) ⟨Nat.zero_le _, [], 0, .nil, hD⟩
theorem Hg {py : List (Addr × Obj)} {σ'' : L2.St} {H' : Hp} {s' : Shared} {h' : Heap} (I2 : Inv X pins σ H2 s2) (hf : ∀ b ∈ fp, dR X pins H2 b) (Iy : Inv (aW X scope cl C NC s2 H2 pins fp) py σ'' H' s') (hC : s2.heap.objs.size ≤ C) (hs : Heap.SameBut C s'.heap h') :
  Inv X pins σ H' { s' with heap := h' } := by
 have u : Un (eU X.stack) fp H2 H' s2.heap s'.heap := Iy.base
 have neC : ∀ b o, s2.heap.get? b = some o → b ≠ C := fun b o e => Nat.ne_of_lt (Nat.lt_of_lt_of_le (Heap.lt_size e) hC)
 have fC : H' C = none := Iy.free
 refine I2.call' (s' := { s' with heap := h' }) (ch := fp) Iy.os ⟨fun b o e n hb hx => (hs.2 b (neC b o e)).trans (u.keep b o e n hb hx), fun b o e n hb hx => ?_, u.free, fun b o e hx => ?_, u.tups, u.frzs, u.tbls⟩ (fun b o e => ?_) Iy.bare fun b hb => ?_
 ·obtain ⟨sl, q⟩ := u.slot b o e n hb hx; exact ⟨sl, (hs.2 b (neC b o e)).trans q⟩
 ·obtain ⟨o', q⟩ := u.there b o e hx; exact ⟨o', (hs.2 b (neC b o e)).trans q⟩
 ·refine (Iy.hok b o e).stay (fun c v hc q => (hs.2 c ?_).trans q) (fun _ q => q) (fun _ _ q => q) fun _ _ _ q => q; rintro rfl; rcases hc with rfl | hc
  ·rw [fC] at e; cases e
  ·rw [fC] at hc; cases hc
 ·obtain ⟨_, f1, _, f3, f4, f5⟩ := hf b hb; exact ⟨f3, f1, f4, f5⟩
end
end DL
namespace DL
open PySem PySem.Spec PyProof.Rows L2
section
variable {K : PySem.W.Frag} {Z Y : Addr → Prop} {m m' : Mu} {H H' : Hp}
mutual
theorem RP.tr (ht : ∀ a vs, SqT K H a vs → SqT K H' a vs) (hl : ∀ a vs, (m a = none ∧ ¬ Z a) → SqL K H a vs → (m' a = none ∧ ¬ Y a) ∧ SqL K H' a vs) : ∀ (p : PyData) (v : V), RP K Z m H p v → RP K Y m' H' p v
 | .none, v, h => by simpa only [RP] using h
 | .bool _, v, h => by simpa only [RP] using h
 | .int _, v, h => by simpa only [RP] using h
 | .str _, v, h => by simpa only [RP] using h
 | .tuple xs, v, h => by
  simp only [RP] at h ⊢; obtain ⟨a, vs, h1, h2, h3⟩ := h; exact ⟨a, vs, h1, ht a vs h2, RPs.tr ht hl xs vs h3⟩
 | .list xs, v, h => by
  simp only [RP] at h ⊢; obtain ⟨a, vs, h1, h2, h3, h4⟩ := h; obtain ⟨q1, q2⟩ := hl a vs h2 h3; exact ⟨a, vs, h1, q1, q2, RPs.tr ht hl xs vs h4⟩
 | .dict _, v, h => by simp only [RP] at h
theorem RPs.tr (ht : ∀ a vs, SqT K H a vs → SqT K H' a vs) (hl : ∀ a vs, (m a = none ∧ ¬ Z a) → SqL K H a vs → (m' a = none ∧ ¬ Y a) ∧ SqL K H' a vs) : ∀ (xs : List PyData) (vs : List V), RPs K Z m H xs vs → RPs K Y m' H' xs vs
 | [], vs, h => by simpa only [RPs] using h
 | x :: xs, vs, h => by
  simp only [RPs] at h ⊢; obtain ⟨v, r, h1, h2, h3⟩ := h; exact ⟨v, r, h1, RP.tr ht hl x v h2, RPs.tr ht hl xs r h3⟩
end
def aR (Z : Addr → Prop) (D : Addr) : Addr → Prop := fun a => Z a ∨ a = D
variable {D : Addr} {ys zs : List V}
theorem Ij (hD : H D = none) (hk : K.lookup D = none) : ∀ a vs, (m a = none ∧ ¬ Z a) → SqL K H a vs → (m a = none ∧ ¬ aR Z D a) ∧ SqL K (aN H D (.lst ys)) a vs := fun a vs h1 h2 =>
 ⟨⟨h1.1, fun z => z.elim h1.2 (SqL.ne hD hk h2)⟩, (cW hD).seq h2⟩
theorem oP (hD : H D = some (.lst ys)) : ∀ a vs, SqT K H a vs → SqT K (aN H D (.lst zs)) a vs := fun b xs h => by
 rcases h with (h | ⟨o, h⟩) | h
 ·have ne : b ≠ D := by rintro rfl; rw [hD] at h; cases h
  exact .inl (.inl (by rw [bG ne]; exact h))
 ·have ne : b ≠ D := by rintro rfl; rw [hD] at h; cases h
  exact .inl (.inr ⟨o, by rw [bG ne]; exact h⟩)
 ·exact .inr h
theorem Bm {a : Addr} {vs : List V} (ne : a ≠ D) (h : SqL K H a vs) : SqL K (aN H D (.lst zs)) a vs := by
 rcases h with (h | ⟨o, h⟩) | h
 ·exact .inl (.inl (by rw [bG ne]; exact h))
 ·exact .inl (.inr ⟨o, by rw [bG ne]; exact h⟩)
 ·exact .inr h
theorem wM : ∀ a vs, (m a = none ∧ ¬ aR Z D a) → SqL K H a vs → (m a = none ∧ ¬ aR Z D a) ∧ SqL K (aN H D (.lst zs)) a vs := fun a vs h1 h2 =>
 ⟨h1, Bm (fun e => h1.2 (.inr e)) h2⟩
end
section
variable {K : PySem.W.Frag} {Z : Addr → Prop} {m m1 m' : Mu} {H H1 H' : Hp} {D : Addr} {ys zs : List V}
theorem Mb {x : DL.D} {v : V} (hD : H D = none) (hk : K.lookup D = none) (h : RD K Z m H x v) : RD K (aR Z D) m (aN H D (.lst ys)) x v := by
 cases x with
 | dat p => exact RP.tr (fun a vs q => SqT.same (cW hD) q) (Ij hD hk) p v h
 | cel a => exact h
theorem Lf {x : DL.D} {v : V} (hD : H D = some (.lst ys)) (h : RD K (aR Z D) m H x v) : RD K (aR Z D) m (aN H D (.lst zs)) x v := by
 cases x with
 | dat p => exact RP.tr (oP hD) wM p v h
 | cel a => exact h
theorem Js (ok : Ok K Z m H) (hD : H D = none) (hk : K.lookup D = none) : Ok K (aR Z D) m (aN H D (.lst ys)) := by
 refine ⟨fun a c h => ?_, fun a h => ?_⟩
 ·obtain ⟨o, h1, h2⟩ := ok.g a c h; have ne : a ≠ D := by rintro rfl; rw [hD] at h1; cases h1
  exact ⟨o, by rw [bG ne]; exact h1, h2.lift fun p v q => RP.tr (fun a vs q => SqT.same (cW hD) q) (Ij hD hk) p v q⟩
 ·rcases h with h | h
  ·have ne : a ≠ D := by rintro rfl; exact (ok.z a h).2 hD
   exact ⟨(ok.z a h).1, by rw [bG ne]; exact (ok.z a h).2⟩
  ·subst h; exact ⟨(jA ok hD).1, by rw [cZ]; intro z; cases z⟩
theorem Ev (ok : Ok K (aR Z D) m H) (hD : H D = some (.lst ys)) : Ok K (aR Z D) m (aN H D (.lst zs)) := by
 refine ⟨fun a c h => ?_, fun a h => ?_⟩
 ·obtain ⟨o, h1, h2⟩ := ok.g a c h; have ne : a ≠ D := by
   rintro rfl; have := (ok.z a (.inr rfl)).1
   rw [h] at this
   cases this
  exact ⟨o, by rw [bG ne]; exact h1, h2.lift fun p v q => RP.tr (oP hD) wM p v q⟩
 ·by_cases e : a = D
  ·subst e; exact ⟨(ok.z a h).1, by rw [cZ]; intro z; cases z⟩
  ·exact ⟨(ok.z a h).1, by rw [bG e]; exact (ok.z a h).2⟩
theorem Gg (ok : Ok K (aR Z D) m H) : Ok K Z m H := by
 refine ⟨fun a c h => ?_, fun a h => ok.z a (.inl h)⟩; obtain ⟨o, h1, h2⟩ := ok.g a c h; exact ⟨o, h1, h2.lift fun p v q => RP.tr (fun _ _ q => q) (fun a vs q1 q2 => ⟨⟨q1.1, fun z => q1.2 (.inl z)⟩, q2⟩) p v q⟩
theorem pS (e : Ext K Z m1 H1 m H) (hD : H1 D = none) (hk : K.lookup D = none) (e2 : Ext K (aR Z D) m H m' H') : Ext K Z m1 H1 m' H' :=
 ⟨fun a vs h => e2.t a vs (e.t a vs h), fun a vs h1 h2 => let ⟨q1, q2⟩ := e.l a vs h1 h2; e2.l a vs ⟨q1, fun z => z.elim h1.2 (SqL.ne hD hk h2)⟩ q2, fun a h => (e2.z a (.inl h)).trans (e.z a h), fun a h => e2.c a (e.c a h), fun a o u h => e2.fz a o u (e.fz a o u h), fun a h => by
  have q := e.fm a h
  rw [e2.fm a (by rw [q]; exact h), q]⟩
theorem F4 (e : Ext K Z m1 H1 m H) (ok1 : Ok K Z m1 H1) (hD : H1 D = none) (hk : K.lookup D = none) (hH : H D = some (.lst ys)) : Ext K Z m1 H1 m (aN H D (.lst zs)) :=
 ⟨fun a vs h => oP hH a vs (e.t a vs h), fun a vs h1 h2 => let ⟨q1, q2⟩ := e.l a vs h1 h2; ⟨q1, Bm (SqL.ne hD hk h2) q2⟩, fun a h => by
  have ne : a ≠ D := by rintro rfl; exact (ok1.z a h).2 hD
  rw [bG ne]; exact e.z a h, e.c, fun a o u h => by
  have q := e.fz a o u h
  rw [bG (by rintro rfl; rw [hH] at q; cases q)]
  exact q, e.fm⟩
end
def cY (g : DG) (t : DT) (f : DE) : List D → List PyData → aY → Mu → (List PyData → Mu → Prop) → Prop
 | [], acc, _, m, Q => Q acc m
 | x :: xs, acc, d, m, Q => g x d m fun d1 m1 => t d1 m1 fun b m2 => if b = true then f d1 m2 fun y m3 => ∃ p, y = .dat p ∧ acc.length < sizeLine ∧ cY g t f xs (acc ++ [p]) d1 m3 Q else cY g t f xs acc d1 m2 Q
def bT {α : Type} (src : List (Option Nat)) (d : List (Option α)) : List (Option α) := src.map fun o => o.bind fun j => (d[j]?).join
@[simp] def dY (src : List (Option Nat)) (fi : DI) (g : DG) (t : DT) (f : DE) : DE := fun d m Q => fi d m fun xs m1 => cY g t f xs [] (bT src d) m1 fun ps m2 => Q (.dat (.list ps)) m2
def PF (Y : Cx) (ifs : List Expr) (t : TT) : Prop := ∀ (pins : List (Addr × Obj)) (s : Shared) (σ : L2.St) (H : Hp) (Q : Bool → Hp → Prop), Inv Y pins σ H s → t σ H Q →
 wpAny (model Y.prog Y.w) Y.A (forIn ifs true fun c r => if r = true then do let ok ← isTrue c Y.env (eval c Y.env); pure (ForInStep.yield ok) else pure (ForInStep.yield r)) (TP Y pins σ Q) Y.xe s
@[simp] def gG : DT := fun _ m Q => Q true m
theorem v9 {Y : Cx} : PF Y [] (LT Y.K gG) := fun pins s σ H Q I h => by
 obtain ⟨Z, d, m, R, ok, rs, h, k⟩ := h; exact wpAny_tests_nil ⟨H, I, k true m H h Ext.refl ok⟩
theorem g7 {Y : Cx} {c : Expr} {t : TT} (h : PT Y c t) : PF Y [c] t := fun pins s σ H Q I q => wpAny_tests_one (h pins s σ H Q I q)
theorem Lw {K : PySem.W.Frag} {Z : Addr → Prop} {m : Mu} {H : Hp} {d : aY} {σ : L2.St} (src : List (Option Nat)) (rs : RS K Z m H d σ) : RS K Z m H (bT src d) (bT src σ) := by
 refine ⟨by unfold bT; rw [List.length_map, List.length_map], fun i x h => ?_⟩
 unfold bT at h ⊢; rw [List.getElem?_map] at h ⊢
 cases e : src[i]? with
 | none => rw [e] at h; cases h
 | some o =>
  rw [e] at h
  cases o with
  | none => cases h
  | some j =>
   have h' : (d[j]?).join = some x := Option.some.inj h
   cases ej : d[j]? with
   | none => rw [ej] at h'; cases h'
   | some w =>
    rw [ej] at h'; have h2 : w = some x := h'
    subst h2; obtain ⟨v, q1, q2⟩ := rs.2 j x ej; exact ⟨v, by rw [Option.map_some, Option.bind_some, q1]; rfl, q2⟩
theorem Ho {α : Type} {src : List (Option Nat)} {d : List (Option α)} {i : Nat} {v : α} (h : (bT src d)[i]? = some (some v)) : ∃ j : Nat, src[i]? = some (some j) ∧ d[j]? = some (some v) := by
 unfold bT at h; rw [List.getElem?_map] at h
 cases e : src[i]? with
 | none => rw [e] at h; cases h
 | some o =>
  rw [e] at h
  cases o with
  | none => cases h
  | some j =>
   have h' : (d[j]?).join = some v := Option.some.inj h
   cases ej : d[j]? with
   | none => rw [ej] at h'; cases h'
   | some w =>
    rw [ej] at h'; have h2 : w = some v := h'
    subst h2; exact ⟨j, rfl, ej⟩
end DL
namespace DL
open PySem PySem.Spec PyProof.Rows L2
theorem Gb {K : PySem.W.Frag} {Z : Addr → Prop} {m1 m' : Mu} {H1 H' : Hp} {D : Addr} {x : DL.D} {v : V} (hD : H1 D = none) (hk : K.lookup D = none) (e : Ext K Z m1 H1 m' H') (h : RD K Z m1 H1 x v) : RD K (aR Z D) m' H' x v := by
 cases x with
 | dat p => exact RP.tr e.t (fun a vs h1 h2 => let ⟨q1, q2⟩ := e.l a vs h1 h2; ⟨⟨q1, fun z => z.elim h1.2 (SqL.ne hD hk h2)⟩, q2⟩) p v h
 | cel a => exact ⟨h.1, e.c a h.2⟩
section
variable {X : Cx} {tg iter elt : Expr} {ifs : List Expr} {scope : Scope} {NC : List Str} {fi : DI} {g : DG} {t : DT} {f : DE} {pos : Pos}
def mR (X : Cx) (scope : Scope) (NC : List Str) (src : List (Option Nat)) : Prop := NC.length = src.length ∧ ∀ (i : Nat) (x : Str) (j : Nat), NC[i]? = some x → src[i]? = some (some j) → X.N[j]? = some x ∧ (x, NameKind.free) ∈ scope.names ∧
 ((relabel scope X.env).names.lookup x = some .cell ∨ (relabel scope X.env).names.lookup x = some .free)
structure Off (X : Cx) (pins : List (Addr × Obj)) (H : Hp) (C : Addr) : Prop where
 h : H C = none
 l : C ≠ X.env.locals
 s : X.s₀.heap.objs.size ≤ C
 c : ∀ x c, X.env.cells.lookup x = some c → c ≠ C
 p : ∀ p ∈ X.pn ++ pins, p.1 ≠ C
theorem Off.inv {pins : List (Addr × Obj)} {σ : L2.St} {H : Hp} {s : Shared} {C : Addr} {h' : Heap} (o : Off X pins H C) (I : Inv X pins σ H s) (hs : Heap.SameBut C s.heap h') : Inv X pins σ H { s with heap := h' } :=
 I.turned (t' := s.toks) (it := C) (fun b ob hb e => (hs.2 b hb).trans e) o.h o.l (.inr o.s) o.c o.p
theorem Hc (src : List (Option Nat)) (hc : X.calm = true) (hi : PI X tg iter (LI X.K fi))
  (hg : ∀ cl C s2 H2 pins fp, PG (aW X scope cl C NC s2 H2 pins fp) tg (LG X.K g)) (ht : ∀ cl C s2 H2 pins fp, PF (aW X scope cl C NC s2 H2 pins fp) ifs (LT X.K t)) (he : ∀ cl C s2 H2 pins fp, PE (aW X scope cl C NC s2 H2 pins fp) elt (LE X.K f))
  (hkind : scope.kind = .function) (hcell : ∀ y ∈ scope.names, y.2 ≠ .cell) (hnames : ∀ y ∈ scope.names, y.2 = .local → scope.names.lookup y.1 = some .local)
  (hfree : ∀ x, (x, NameKind.free) ∈ scope.names → X.env.kindOf x = some .cell ∨ X.env.kindOf x = some .free) (hsrc : mR X scope NC src)
  (hs : ∀ x, foldedSetIterable iter X.env x = pure x) {use : Option (Value → Sem Unit)} {QQ : Value → Shared → Prop} {pos' : Pos} {pins : List (Addr × Obj)} {s : Shared} {σ : L2.St} {H : Hp} {Z : Addr → Prop} {d : aY} {m : Mu} {RL : List PyData → Mu → Prop}
  (I : Inv X pins σ H s) (ok : Ok X.K Z m H) (rs : RS X.K Z m H d σ) (h : fi d m fun xs m1 => cY g t f xs [] (bT src d) m1 RL)
  (fin : ∀ (s5 : Shared) (C D : Addr) (H' : Hp) (m' : Mu) (ps : List PyData), RL ps m' → Ext X.K Z m H m' H' → Ok X.K Z m' H' → RD X.K Z m' H' (.dat (.list ps)) (.ref D) → (∃ mm, s5.heap.Ns C mm) → Inv X pins σ H' s5 → Off X pins H' C → (m' D = none ∧ Ext X.K Z m H (bN m' D (.l ps)) H' ∧ Ok X.K Z (bN m' D (.l ps)) H') →
   compPost (model X.prog X.w) X.A X.xe use QQ (.ref D) C (.ok .next) s5) :
  wpAny (model X.prog X.w) X.A (comprehension (.ListComp elt [⟨tg, iter, ifs, 0⟩] scope pos) scope X.env pos' (newList []) false (eval iter X.env) use) QQ X.xe s := by
 obtain ⟨cl, hclos, hcl1, hcl2⟩ := Nl (scope := scope) (env := X.env) fun x hx => I.ok.has x (hfree x hx); refine wpAny_comprehension_free (use := use) rfl hs hclos hkind hnames ?_; refine aL (hi pins s σ H (fun J H1 => ∃ xs m1, Ext X.K Z m H m1 H1 ∧ Ok X.K Z m1 H1 ∧ pH X.K Z m1 H1 xs J ∧ cY g t f xs [] (bT src d) m1 RL) I
  ⟨Z, d, m, _, ok, rs, h, fun xs m1 H1 J q e1 ok1 y1 => ⟨xs, m1, e1, ok1, y1, q⟩⟩) fun xv s₁ h₁ => aL h₁ fun itv s₂ h₂ => ?_
 obtain ⟨it, fp, tn, J, H2, eit, I2, T, st2, f2, xs, m1, e1, ok1, yl, lp⟩ := h₂; subst eit; refine wpAny_newObj_type (wpAny_newFunctionEnv hcell (by intro y hy; simp at hy) (fun h₁ hns₁ hsb₁ => ?_) hkind)
 dsimp only at hns₁ hsb₁ ⊢
 generalize hH2 : s₂.heap.push { cls := .type "list", dict := none, data := .seq ([] : List Value).toArray } = HP at hns₁ hsb₁ ⊢
 have hC : HP.objs.size = s₂.heap.objs.size + 1 := by rw [← hH2, Heap.size_push]
 have leC : s₂.heap.objs.size ≤ HP.objs.size := by rw [hC]; exact Nat.le_succ _
 have old : ∀ b o, s₂.heap.get? b = some o → h₁.get? b = some o := fun b o e => hsb₁.extBut b o (Nat.ne_of_lt (Nat.lt_of_lt_of_le (Heap.lt_size e) leC)) (Heap.get?_push_of_some _ (hH2 ▸ Heap.get?_push_of_some _ e))
 have hacc : h₁.get? s₂.heap.objs.size = some { cls := .type "list", data := .seq ([] : List Value).toArray } := hsb₁.extBut _ _ (by rw [hC]; exact Nat.ne_of_lt (Nat.lt_succ_self _)) (Heap.get?_push_of_some _ (hH2 ▸ Heap.get?_push_size _ rfl))
 have hD : H2 s₂.heap.objs.size = none := I2.hok.fresh (Nat.le_refl _)
 have hkD : X.K.lookup s₂.heap.objs.size = none := by
  cases e : X.K.lookup s₂.heap.objs.size with
  | none => rfl
  | some o => exact absurd (Heap.lt_size (I2.kIn _ o e)) (Nat.lt_irrefl _)
 have obf : ∀ b ∈ fp, ∃ o, s₂.heap.get? b = some o ∧ ∀ v, o.data ≠ .cell v := T.obj 0 _ st2
 have hσ : ∀ (i : Nat) (x : Str) (v : V), NC[i]? = some x → (bT src σ)[i]? = some (some v) → jX (relabel scope X.env) x → ((relabel scope X.env).names.lookup x = some .cell ∨ (relabel scope X.env).names.lookup x = some .free) ∧ (X.env.kindOf x = some .cell ∨ X.env.kindOf x = some .free) ∧ ∃ j : Nat, X.N[j]? = some x ∧ σ[j]? = some (some v) := fun i x v h1 h2 _ => by
  obtain ⟨j, q1, q2⟩ := Ho h2; obtain ⟨a1, a2, a3⟩ := hsrc.2 i x j h1 q1; exact ⟨a3, hfree x a2, j, a1, q2⟩
 have I4 := fun tk => Hf (cl := cl) (NC := NC) (σ' := bT src σ) (tk := tk) I2 f2 obf hkind hcell hcl1 hcl2 (by unfold bT; rw [List.length_map]; exact hsrc.1.symm) hσ hC hns₁ old hacc
 have st4 : tn 0 h₁ := T.keep 0 _ _ st2 fun b _ o e => old b o e
 -- the loop
 have loop : ∀ s₃ : Shared, s₃ = { s₂ with heap := h₁, toks := s₂.toks + ([] : List (Str × Value)).length } →
   codeAny (model X.prog X.w) X.A (.compLoop (.ListComp elt [⟨tg, iter, ifs, 0⟩] scope pos) 0 (.ref it) (.ref s₂.heap.objs.size) (compEnvC scope cl HP.objs.size X.env))
    (compPost (model X.prog X.w) X.A X.xe use QQ (.ref s₂.heap.objs.size) HP.objs.size) s₃ := by
  rintro s₃ rfl; refine F7 (fun n s' => ∃ (i : Nat) (ys : List V) (acc : List PyData) (d' : aY) (m' : Mu) (σ' : L2.St) (H' : Hp), n = xs.length - i ∧ i ≤ xs.length ∧ Inv (aW X scope cl HP.objs.size NC s₂ H2 pins fp) [] σ' H' s' ∧ tn i s'.heap ∧ (∀ b ∈ fp, H' b = none) ∧
   H' s₂.heap.objs.size = some (.lst ys) ∧ RPs X.K (aR Z s₂.heap.objs.size) m' H' acc ys ∧ Ext X.K Z m1 H2 m' H' ∧ Ok X.K (aR Z s₂.heap.objs.size) m' H' ∧ RS X.K (aR Z s₂.heap.objs.size) m' H' d' σ' ∧
   cY g t f (xs.drop i) acc d' m' RL) ?_ xs.length ?_
  rotate_left
  ·have rs1 : RS X.K Z m1 H2 (bT src d) (bT src σ) := Lw src (rs.ext e1)
   refine ⟨0, [], [], bT src d, m1, bT src σ, _, by simp, Nat.zero_le _, I4 _, st4, fun b hb => ?_, cZ, by simp [RPs], ok1.ext (cW hD), Js ok1 hD hkD, ⟨rs1.1, fun i x hx => ?_⟩, by simpa using lp⟩
   ·obtain ⟨o, ho, _⟩ := obf b hb; rw [bG (Nat.ne_of_lt (Heap.lt_size ho))]; exact (f2 b hb).1
   ·obtain ⟨v, q1, q2⟩ := rs1.2 i x hx; exact ⟨v, q1, Mb hD hkD q2⟩
  rintro n s4 ⟨i, ys, acc, d', m', σ', H', rfl, hi', I5, st5, fr5, hDy, racc, eX, ok5, rs5, lp5⟩; have stat : ∀ b ∈ fp, dR (aW X scope cl HP.objs.size NC s₂ H2 pins fp) [] H' b := fun b hb => by
   obtain ⟨g0, g1, g2, g3, g4, g5⟩ := f2 b hb; obtain ⟨o, ho, _⟩ := obf b hb; refine ⟨fr5 b hb, Nat.ne_of_lt (Nat.lt_of_lt_of_le (Heap.lt_size ho) leC), fun z => ?_, .inl hb, fun x c e => g4 x c (hcl1 (x, c) (vE e)), fun p hp => ?_⟩
   ·rcases List.mem_cons.mp (I2.stkSub b z) with q | q
    ·exact g1 q
    ·exact g2 q
   ·rcases List.mem_append.mp hp with q | q
    ·exact g5 p q
    ·cases q
  obtain ⟨y1, y2⟩ := yl m' H' eX.y
  by_cases hlt : i < xs.length
  ·rw [List.drop_eq_getElem_cons hlt] at lp5; obtain ⟨go, yd⟩ := y1 i xs[i] (List.getElem?_eq_getElem hlt); refine aL (T.item (aW X scope cl HP.objs.size NC s₂ H2 pins fp) rfl rfl rfl hc i [] s4 σ' H' (fun _ _ => False) I5 stat st5 go) fun r s5 hq0 => ?_; obtain ⟨u, hr, h5⟩ := hq0; subst hr; refine aL h5 fun _ s6 hq0 => ?_; obtain ⟨x, H6, I6, r6, yy, st6, fr6⟩ := hq0; have yy' := yd x H6 yy
   have e56 : Ext X.K (aR Z s₂.heap.objs.size) m' H' m' H6 := ok5.ext yy'.same
   have rv := yy'.rd (fun d v h => Gb hD hkD eX h) ok5
   have hDy := yy'.same _ _ hDy
   have racc := RPs.ext e56 _ _ racc
   have eX := pS eX hD hkD e56
   have rs5 := rs5.ext e56
   have ok5 := ok5.grow yy'.same
   have stat : ∀ b ∈ fp, dR (aW X scope cl HP.objs.size NC s₂ H2 pins fp) [] H6 b := fun b hb => ⟨fr6 b hb, (stat b hb).2⟩
   have I6' := I6.pinned stat (T.obj _ _ st6)
   -- what stands when a turn is over
   have over : ∀ {s7 : Shared} {σ7 : L2.St} {H7 : Hp} {ys7 : List V} {acc7 : List PyData} {d7 : aY} {m7 : Mu}, Inv (aW X scope cl HP.objs.size NC s₂ H2 pins fp) ([] ++ kF fp s6.heap) σ7 H7 s7 → H7 s₂.heap.objs.size = some (.lst ys7) → RPs X.K (aR Z s₂.heap.objs.size) m7 H7 acc7 ys7 →
     Ext X.K Z m1 H2 m7 H7 → Ok X.K (aR Z s₂.heap.objs.size) m7 H7 → RS X.K (aR Z s₂.heap.objs.size) m7 H7 d7 σ7 → (cY g t f (xs.drop (i + 1)) acc7 d7 m7 RL) →
     ∃ n, n < xs.length - i ∧ ∃ (i : Nat) (ys : List V) (acc : List PyData) (d' : aY) (m' : Mu) (σ' : L2.St) (H' : Hp), n = xs.length - i ∧ i ≤ xs.length ∧ Inv (aW X scope cl HP.objs.size NC s₂ H2 pins fp) [] σ' H' s7 ∧ tn i s7.heap ∧ (∀ b ∈ fp, H' b = none) ∧
      H' s₂.heap.objs.size = some (.lst ys) ∧ RPs X.K (aR Z s₂.heap.objs.size) m' H' acc ys ∧ Ext X.K Z m1 H2 m' H' ∧ Ok X.K (aR Z s₂.heap.objs.size) m' H' ∧ RS X.K (aR Z s₂.heap.objs.size) m' H' d' σ' ∧
      cY g t f (xs.drop i) acc d' m' RL := by
    intro s7 σ7 H7 ys7 acc7 d7 m7 I7 a1 a2 a3 a4 a5 a6; refine ⟨xs.length - (i + 1), by omega, i + 1, ys7, acc7, d7, m7, σ7, H7, rfl, hlt, I7.unpinned, T.keep _ _ _ st6 fun b hb o e => (I7.pin (b, o) (List.mem_append_right _ (List.mem_append_right _ (jD hb e)))).1, fun b hb => ?_, a1, a2, a3, a4, a5, a6⟩
    obtain ⟨o, e, dd⟩ := T.obj _ _ st6 b hb; exact (I7.pin (b, o) (List.mem_append_right _ (List.mem_append_right _ (jD hb e)))).2.1
   refine aL (hg cl _ s₂ H2 pins fp _ s6 σ' _ x u (fun σ7 H7 => ∃ d7 m7, Ext X.K (aR Z s₂.heap.objs.size) m' H6 m7 H7 ∧ Ok X.K (aR Z s₂.heap.objs.size) m7 H7 ∧ RS X.K (aR Z s₂.heap.objs.size) m7 H7 d7 σ7 ∧
    t d7 m7 fun b m2 => if b = true then f d7 m2 fun y m3 => ∃ p, y = .dat p ∧ acc.length < sizeLine ∧ cY g t f (xs.drop (i + 1)) (acc ++ [p]) d7 m3 RL else cY g t f (xs.drop (i + 1)) acc d7 m2 RL) I6' r6
    ⟨_, xs[i], d', m', _, ok5, rs5, rv, lp5, fun d7 m7 σ7 H7 q7 e7 ok7 rs7 => ⟨d7, m7, e7, ok7, rs7, q7⟩⟩) fun _ s7 hq0 => ?_
   obtain ⟨σ7, H7, I7, d7, m7, e7, ok7, rs7, q7⟩ := hq0; refine aL (ht cl _ s₂ H2 pins fp _ s7 σ7 H7 (fun b H8 => ∃ m8, Ext X.K (aR Z s₂.heap.objs.size) m7 H7 m8 H8 ∧ Ok X.K (aR Z s₂.heap.objs.size) m8 H8 ∧
    if b = true then f d7 m8 fun y m3 => ∃ p, y = .dat p ∧ acc.length < sizeLine ∧ cY g t f (xs.drop (i + 1)) (acc ++ [p]) d7 m3 RL else cY g t f (xs.drop (i + 1)) acc d7 m8 RL) I7
    ⟨_, d7, m7, _, ok7, rs7, q7, fun b m8 H8 q8 e8 ok8 => ⟨m8, e8, ok8, q8⟩⟩) fun b s8 hq0 => ?_
   obtain ⟨H8, I8, m8, e8, ok8, q8⟩ := hq0; have e68 := e7.trans e8
   have hD8 : H8 s₂.heap.objs.size = some (.lst ys) := (e68.z _ (.inr rfl)).trans hDy
   cases b with
   | false =>
    rw [if_neg Bool.false_ne_true] at q8; exact over I8 hD8 (RPs.ext e68 _ _ racc) (pS eX hD hkD e68) ok8 (rs7.ext e8) q8
   | true =>
    rw [if_pos rfl] at q8; refine aL (he cl _ s₂ H2 pins fp _ s8 σ7 H8 (fun v H9 => ∃ p m9, RP X.K (aR Z s₂.heap.objs.size) m9 H9 p v ∧ Ext X.K (aR Z s₂.heap.objs.size) m8 H8 m9 H9 ∧ Ok X.K (aR Z s₂.heap.objs.size) m9 H9 ∧ acc.length < sizeLine ∧ cY g t f (xs.drop (i + 1)) (acc ++ [p]) d7 m9 RL) I8
     ⟨_, d7, m8, _, ok8, rs7.ext e8, q8, fun y m9 v H9 hq1 e9 ok9 r9 => by
      obtain ⟨p, ey, hz, q9⟩ := hq1; subst ey; exact ⟨p, m9, r9, e9, ok9, hz, q9⟩⟩) fun yv s9 hq0 => ?_
    obtain ⟨y, H9, I9, ry, p, m9, rp9, e9, ok9, hz, q9⟩ := hq0; have e69 := e68.trans e9
    have hD9 : H9 s₂.heap.objs.size = some (.lst ys) := (e69.z _ (.inr rfl)).trans hDy
    have racc9 := RPs.ext e69 _ _ racc
    have rs9 := (rs7.ext e8).ext e9
    refine aL (Jv _ s9 σ7 H9 (.ref s₂.heap.objs.size) [y] (.ref s₂.heap.objs.size) [yv] (fun v H10 => H10 = aN H9 s₂.heap.objs.size (.lst (ys ++ [y]))) I9 rfl (.cons ry .nil) ⟨_, ys, y, rfl, rfl, hD9, by rw [racc9.length]; exact hz, rfl⟩) fun rv s10 hq0 => ?_
    obtain ⟨v10, H10, I10, _, e10⟩ := hq0; subst e10; refine over I10 cZ ?_ (F4 (pS eX hD hkD e69) ok1 hD hkD hD9) (Ev ok9 hD9) ⟨rs9.1, fun j z hj => ?_⟩ q9
    ·exact RPs.tr (oP hD9) wM _ _ (racc9.append (by simp only [RPs]; exact ⟨y, [], rfl, rp9, rfl⟩))
    ·obtain ⟨v, a1, a2⟩ := rs9.2 j z hj; exact ⟨v, a1, Lf hD9 a2⟩
  ·have e : i = xs.length := by omega
   subst e; rw [List.drop_length] at lp5; refine aL (T.done (aW X scope cl HP.objs.size NC s₂ H2 pins fp) rfl rfl rfl hc _ [] s4 σ' H' (fun _ _ => False) I5 stat st5 y2) fun r s5 hq0 => ?_; obtain ⟨hr, I6⟩ := hq0; subst hr; have IX := Hg I2 f2 I6 leC (Heap.SameBut.refl _ _)
   have nz : ¬ Z s₂.heap.objs.size := fun z => (ok1.z _ z).2 hD
   refine fin s5 HP.objs.size s₂.heap.objs.size H' m' acc lp5 (e1.trans eX) (Gg ok5) ?_ ⟨_, I6.loc.choose_spec.1⟩ IX ⟨I6.free, Nat.ne_of_gt (Nat.lt_of_lt_of_le I2.lt leC), Nat.le_trans I2.sz leC, fun x c e => ?_, fun p hp => ?_⟩ ⟨(ok5.z _ (.inr rfl)).1, ?_, ?_⟩
   ·simp only [RD, RP]; exact ⟨_, ys, rfl, ⟨(ok5.z _ (.inr rfl)).1, nz⟩, .inl (.inl hDy), RPs.tr (fun _ _ q => q) (fun a vs q1 q2 => ⟨⟨q1.1, fun z => q1.2 (.inl z)⟩, q2⟩) _ _ racc⟩
   ·obtain ⟨v, q⟩ := I2.cell x c e; exact Nat.ne_of_lt (Nat.lt_of_lt_of_le q.lt leC)
   ·exact Nat.ne_of_lt (Nat.lt_of_lt_of_le (Heap.lt_size (I2.pin p hp).1) leC)
   ·refine ⟨fun a vs q => (e1.trans eX).t a vs q, fun a vs q1 q2 => ?_, fun a q => (e1.trans eX).z a q, fun a q => ?_, (e1.trans eX).fz, fun a q => ?_⟩
    ·obtain ⟨_, q3⟩ := e1.l a vs q1 q2; have ne := SqL.ne hD hkD q3
     obtain ⟨q4, q5⟩ := (e1.trans eX).l a vs q1 q2; exact ⟨by rw [bP ne]; exact q4, q5⟩
    ·by_cases ea : a = s₂.heap.objs.size
     ·subst ea; rw [cX]; rfl
     ·rw [bP ea]; exact (e1.trans eX).c a q
    ·have fq := (e1.trans eX).fm a q
     have ne : a ≠ s₂.heap.objs.size := by
      rintro rfl; rw [(ok5.z _ (.inr rfl)).1] at fq; rw [← fq] at q
      cases q
     rw [bP ne]; exact fq
   ·have tr : ∀ (a : Addr) (vs : List V), (m' a = none ∧ ¬ aR Z s₂.heap.objs.size a) → SqL X.K H' a vs → (bN m' s₂.heap.objs.size (.l acc) a = none ∧ ¬ Z a) ∧ SqL X.K H' a vs := fun a vs q1 q2 => ⟨⟨by rw [bP fun z => q1.2 (.inr z)]; exact q1.1, fun z => q1.2 (.inl z)⟩, q2⟩
    refine ⟨fun a c q => ?_, fun a q => ?_⟩
    ·by_cases ea : a = s₂.heap.objs.size
     ·subst ea; rw [cX] at q
      cases q
      exact ⟨_, hDy, RPs.tr (fun _ _ q => q) tr _ _ racc⟩
     ·rw [bP ea] at q; obtain ⟨o, q1, q2⟩ := ok5.g a c q; exact ⟨o, q1, q2.lift fun p v q3 => RP.tr (fun _ _ q => q) tr p v q3⟩
    ·have ne : a ≠ s₂.heap.objs.size := fun z => nz (z ▸ q)
     obtain ⟨q1, q2⟩ := ok5.z a (.inl q); exact ⟨by rw [bP ne]; exact q1, q2⟩
 exact codeAny_compStart_list (loop _ rfl) (T.self _ 0 _ _ _ st4 (loop _ rfl))
theorem Zo (src : List (Option Nat)) (hc : X.calm = true) (hi : PI X tg iter (LI X.K fi))
  (hg : ∀ cl C s2 H2 pins fp, PG (aW X scope cl C NC s2 H2 pins fp) tg (LG X.K g)) (ht : ∀ cl C s2 H2 pins fp, PF (aW X scope cl C NC s2 H2 pins fp) ifs (LT X.K t)) (he : ∀ cl C s2 H2 pins fp, PE (aW X scope cl C NC s2 H2 pins fp) elt (LE X.K f))
  (hkind : scope.kind = .function) (hcell : ∀ y ∈ scope.names, y.2 ≠ .cell) (hnames : ∀ y ∈ scope.names, y.2 = .local → scope.names.lookup y.1 = some .local)
  (hfree : ∀ x, (x, NameKind.free) ∈ scope.names → X.env.kindOf x = some .cell ∨ X.env.kindOf x = some .free) (hsrc : mR X scope NC src)
  (hs : ∀ x, foldedSetIterable iter X.env x = pure x := by intro _; rfl) :
  PE X (.ListComp elt [⟨tg, iter, ifs, 0⟩] scope pos) (LE X.K (dY src fi g t f)) := by
 intro pins s σ H Q I h; obtain ⟨Z, d, m, R, ok, rs, h, k⟩ := h; rw [eval_ListComp]; refine Hc src hc hi hg ht he hkind hcell hnames hfree hsrc hs (use := none) (QQ := EP X pins σ Q) (RL := fun ps m2 => R (.dat (.list ps)) m2) I ok rs h ?_; intro s5 C D H' m' ps q e ok' rd ⟨mm, hns⟩ I5 off hcl; exact ⟨mm, hns, fun h' hs' => ⟨.ref D, H', off.inv I5 hs', rfl, k _ m' _ H' q e ok' rd⟩⟩
theorem Sd (i : Nat) {y : Str} {py spos : Pos} (src : List (Option Nat)) (hc : X.calm = true) (hi : PI X tg iter (LI X.K fi))
  (hg : ∀ cl C s2 H2 pins fp, PG (aW X scope cl C NC s2 H2 pins fp) tg (LG X.K g)) (ht : ∀ cl C s2 H2 pins fp, PF (aW X scope cl C NC s2 H2 pins fp) ifs (LT X.K t)) (he : ∀ cl C s2 H2 pins fp, PE (aW X scope cl C NC s2 H2 pins fp) elt (LE X.K f))
  (hkind : scope.kind = .function) (hcell : ∀ y ∈ scope.names, y.2 ≠ .cell) (hnames : ∀ y ∈ scope.names, y.2 = .local → scope.names.lookup y.1 = some .local)
  (hfree : ∀ x, (x, NameKind.free) ∈ scope.names → X.env.kindOf x = some .cell ∨ X.env.kindOf x = some .free) (hsrc : mR X scope NC src)
  (hN : X.N.Nodup) (hi2 : X.N[i]? = some y := by rfl) (hx : fQ X.env.scope y := by first | exact Or.inl rfl | exact Or.inr rfl) (hf : X.fn y = true ∨ X.env.scope.names.lookup y = some .local := by first | exact .inl rfl | exact .inr rfl)
  (hsw : swapsWith (.ListComp elt [⟨tg, iter, ifs, 0⟩] scope pos) (some (.Name y py)) spos.line X.env = pure true := by rfl)
  (hs : ∀ x, foldedSetIterable iter X.env x = pure x := by intro _; rfl) :
  PS X (.Assign [.Name y py] (.ListComp elt [⟨tg, iter, ifs, 0⟩] scope pos) spos) (LS X.K (aV i (dY src fi g t f))) := by
 intro pins s σ H E I h; obtain ⟨Z, d, m, R, ok, rs, h, k, _⟩ := h; rw [exec_Assign_Name_used _ _ _ _ hsw]; refine wpAny_bind (wpAny_standAt (wpAny_bind ?_)); rw [arm_evalThenUse_ListComp]; refine wpAny_bind ?_; refine aL (Hc src hc hi hg ht he hkind hcell hnames hfree hsrc hs (use := some (assign (.Name y py) X.env)) (QQ := fun _ s' => SP X pins E .next s') (RL := fun ps m2 => R.nx (d.set i (some (.dat (.list ps)))) m2) I ok rs h ?_) (fun _ s' q => wpAny_pure (wpAny_pure q)); intro s5 C D H' m' ps q e ok' rd ⟨mm, hns⟩ I5 off hcl; show wpAny _ X.A (assign (.Name y py) X.env (.ref D)) _ _ s5
 refine wpAny_assign_Name (Go I5 hN hi2 hx (v := .ref D) rfl (fun s6 I6 ⟨a, hs6, ha⟩ => ?_) hf); have ne : C ≠ a := by
  rcases ha with rfl | ha
  ·exact off.l
  ·exact Ne.symm (off.c _ _ ha)
 refine ⟨mm, hns.sameBut hs6 ne, fun h' hs' => ?_⟩; exact ⟨_, H', off.inv I6 hs', k _ m' _ H' q e ok' ((rs.ext e).set rd)⟩
end
end DL
namespace DL
open PySem PySem.Spec PyProof.Rows L2
theorem Lu : Manifest.owners.lookup (String.ofList "desrever".toList.reverse) = some Manifest.sig_reversed := by kernel_rfl
theorem qL : Slot "reversed" "__next__" "reversed.__next__" := .of (owner := "reversed") (n := "__next__") (by rw [typeLookup_type, builtinLookup_eq_fast]; kernel_rfl) (by decide +kernel) (by decide +kernel) (by decide +kernel) (by first | exact .inl (by decide +kernel) | exact .inr (by decide +kernel)) (by rw [isSubtype_type]; kernel_rfl)
theorem Mf : entryFor table "reversed.__next__" = some Builtin.«reversed.__next__» := entryFor_of_tree (by kernel_rfl)
theorem Jk (a : Value) : argsOk "reversed.__next__" ⟨[a], []⟩ := by
 unfold argsOk; rw [signature?_of (id := "reversed.__next__") (n := "__txen__".toList) (o := "desrever".toList) (by kernel_rfl) Lu]
 kernel_rfl
theorem Hu : Slot "reversed" "__iter__" "reversed.__iter__" := .of (owner := "reversed") (n := "__iter__") (by rw [typeLookup_type, builtinLookup_eq_fast]; kernel_rfl) (by decide +kernel) (by decide +kernel) (by decide +kernel) (by first | exact .inl (by decide +kernel) | exact .inr (by decide +kernel)) (by rw [isSubtype_type]; kernel_rfl)
theorem Yr (a : Value) : argsOk "reversed.__iter__" ⟨[a], []⟩ := by
 unfold argsOk; rw [signature?_of (id := "reversed.__iter__") (n := "__reti__".toList) (o := "desrever".toList) (by kernel_rfl) Lu]
 kernel_rfl
theorem Xo : entryFor table "reversed.__iter__" = some Builtin.«dict_keyiterator.__iter__» := entryFor_alias (id' := "dict_keyiterator.__iter__") (by kernel_rfl) (by first | rfl | decide +kernel | (unfold String.splitOn; simp +decide [String.splitOnAux])) (by decide +kernel) (by kernel_rfl)
theorem j7 : typeLookup (.type "tuple") "__reversed__" = pure none := by rw [typeLookup_type, builtinLookup_eq_fast]; kernel_rfl
theorem K9 : isSubtype (.type "tuple") (.type "dict") = pure false := by rw [isSubtype_type]; kernel_rfl
theorem Op : Slot "reversed" "__init__" "object.__init__" := .of (owner := "object") (n := "__init__") (by rw [typeLookup_type, builtinLookup_eq_fast]; kernel_rfl) (by decide +kernel) (by decide +kernel) (by decide +kernel) (by first | exact .inl (by decide +kernel) | exact .inr (by decide +kernel)) (by rw [isSubtype_type]; kernel_rfl)
theorem Ra : TypeCalled "reversed" "reversed.__new__" "object.__init__" := ⟨by decide +kernel, F.create_reversed, ⟨_, _, F.mro_reversed⟩, F.made_reversed, F.plain_reversed_new, F.sub_reversed_self, Op⟩
def Ae (t : Addr) (i : Int) : Obj := { cls := .type "reversed", data := .fields #[.ref t, rawInt i] }
theorem Tr (t : Addr) (items : Array Value) : Meets (Builtin.«reversed.__new__» ⟨[.type "reversed", .ref t], []⟩) (fun _ R s => IsTup s.heap t items ∧ (items.size : Int) < 2 ^ 63 ∧
  R (.ok (.ret (.ref s.heap.objs.size))) { s with heap := s.heap.push (Ae t ((items.size : Int) - 1)), toks := s.toks + 1 + 1 }) := .of_wp fun prog w A R s hs => by
 obtain ⟨ht, hz, h⟩ := hs; unfold Builtin.«reversed.__new__»; refine wpAny_bind (wpAny_of_eq (newClass_reversed _) ?_)
 try dsimp only
 refine wpAny_bind (wpAny_of_eq (a := ()) (by first | rfl | kernel_rfl) (wpAny_bind (wpAny_of_eq (a := ()) (by first | rfl | kernel_rfl) ?_)))
 try dsimp only
 refine wpAny_bind (wpAny_specialOf ht.typeIs j7 ?_)
 try dsimp only
 refine wpAny_bind ?_; show wpAny _ _ (isInstance (.ref t) (.type "dict") >>= _) _ _ s
 refine wpAny_bind (wpAny_isInstance ht.typeIs K9 ?_); show wpAny _ _ (specialOf (.ref t) (Str.ofString "__getitem__") >>= _) _ _ s
 refine wpAny_bind (wpAny_specialOf ht.typeIs PyProof.Rows.slot_tuple_getitem.lookup ?_); show wpAny _ _ (pure true) _ _ s
 refine wpAny_pure ?_; show wpAny _ _ (call (Value.builtin "len") [Value.ref t] >>= _) _ _ s
 refine wpAny_bind (PyProof.Rows.len_tuple ht hz ?_); refine wpAny_bind (wpAny_pure ?_); refine wpAny_bind ?_; show wpAny _ _ (newObj (.type "reversed") (.fields #[.ref t, rawInt ((items.size : Int) - 1)])) _ _ _
 exact wpAny_newObj_type (wpAny_pure ⟨_, rfl, h⟩)
section
variable {prog : Program} {w : World} {A : Around} {E : Value → Shared → Prop} {s : Shared}
theorem Ti {t : Addr} {items : Array Value} {Q : Value → Shared → Prop} (ht : IsTup s.heap t items) (hz : (items.size : Int) < 2 ^ 63)
  (h : Q (.ref s.heap.objs.size) { s with heap := s.heap.push (Ae t ((items.size : Int) - 1)), toks := s.toks + 1 + 1 }) : wpAny (model prog w) A (call (.type "reversed") [.ref t]) Q E s :=
 callType_new Ra (by decide) (F.typeCall_reversed_1 _) (F.newCall_reversed_1 _) (fun obj => F.args_object_init_2 obj _) F.entry_reversed_new (Tr t items) ⟨ht, hz, ⟨_, Heap.get?_push_size _ rfl, rfl⟩, h⟩
def IsRv (h : Heap) (a t : Addr) (i : Int) : Prop := ∃ o, h.get? a = some o ∧ o.cls = .type "reversed" ∧ o.data = .fields #[.ref t, rawInt i]
theorem IsRv.typeIs {a t : Addr} {i : Int} (x : IsRv s.heap a t i) : s.TypeIs (.ref a) "reversed" := let ⟨o, ho, hc, _⟩ := x; ⟨o, ho, hc⟩
theorem Uf {it t : Addr} {i : Nat} {items : Array Value} {x : Value} {Q : Option Value → Shared → Prop} (hit : IsRv s.heap it t (i : Int)) (ht : IsTup s.heap t items) (hz : (items.size : Int) < 2 ^ 63) (hx : items[i]? = some x)
  (hQ : ∀ h' tk, IsRv h' it t ((i : Int) - 1) → Heap.SameBut it s.heap h' → Q (some x) { s with heap := h', toks := tk }) : wpAny (model prog w) A (pyNext (.ref it)) Q E s := by
 obtain ⟨o, ho, hc, hd⟩ := id hit; have hi : i < items.size := (Array.getElem?_eq_some_iff.mp hx).1
 unfold pyNext; refine wpAny_bind (wpAny_attempt (wpAny_callSpecial?_slot (name := Str.ofString "__next__") hit.typeIs qL (wpAny_call_entry qL hit.typeIs Mf ?_ (Jk _)))); unfold Builtin.«reversed.__next__»; refine wpAny_bind (wpAny_of_eq (a := (Value.ref it, [])) rfl ?_)
 try dsimp only
 refine wpAny_bind (wpAny_field ho hd (x := .ref t) rfl ?_); refine wpAny_bind (wpAny_field ho hd (x := rawInt (i : Int)) rfl ?_); show wpAny _ _ (if (i : Int) < 0 then _ else _) _ _ s
 rw [if_neg (by omega)]
 refine wpAny_bind (wpAny_specialOf ht.typeIs PyProof.Rows.slot_tuple_getitem.lookup ?_)
 try dsimp only
 rw [if_neg (by simp)]
 refine wpAny_bind (wpAny_mkInt (wpAny_bind (wpAny_attempt (getItem_tuple (j := i) ht (by omega) (by omega) ?_ hx ?_))))
 ·unfold seqIndex?; have h0 : ¬ ((i : Int) < 0) := by omega
  simp [h0, hi]
 ·try dsimp only
  refine wpAny_bind (wpAny_field ho hd (x := rawInt (i : Int)) rfl ?_); show wpAny _ _ (setField (.ref it) 1 (rawInt ((i : Int) - 1)) >>= _) _ _ _
  refine wpAny_bind (wpAny_setField ho hd (by simp) ?_)
  refine wpAny_pure ⟨x, rfl, wpAny_pure (hQ _ _ ?_ (Heap.SameBut.update ..))⟩; refine ⟨_, Heap.get?_update_self _ ho (Obj.isFreed_of_fields (Obj.data_mapFields hd _)), (Obj.cls_mapFields ..).trans hc, ?_⟩; rw [Obj.data_mapFields hd]; simp
theorem N3 {it t : Addr} {Q : Option Value → Shared → Prop} (hh : A.handled = none) (hit : IsRv s.heap it t (-1))
  (hQ : ∀ h', Heap.ExtBut it s.heap h' → Q none { s with heap := h' }) : wpAny (model prog w) A (pyNext (.ref it)) Q E s := by
 obtain ⟨o, ho, hc, hd⟩ := id hit; unfold pyNext; refine wpAny_bind (wpAny_attempt (wpAny_callSpecial?_slot (name := Str.ofString "__next__") hit.typeIs qL (wpAny_call_entry qL hit.typeIs Mf ?_ (Jk _)))); unfold Builtin.«reversed.__next__»; refine wpAny_bind (wpAny_of_eq (a := (Value.ref it, [])) rfl ?_)
 try dsimp only
 refine wpAny_bind (wpAny_field ho hd (x := .ref t) rfl ?_); refine wpAny_bind (wpAny_field ho hd (x := rawInt (-1)) rfl ?_); show wpAny _ _ (if (-1 : Int) < 0 then _ else _) _ _ s
 rw [if_pos (by decide)]
 refine wpAny_bind (wpAny_rule ?_); refine wpAny_bind ?_; show wpAny _ _ (setField (.ref it) 1 (rawInt (-1)) >>= _) _ _ _
 refine wpAny_bind (wpAny_setField ho hd (by simp) ?_)
 have ho1 := Heap.get?_update_self (Obj.mapFields (·.setIfInBounds 1 (rawInt (-1)))) ho (Obj.isFreed_of_fields (Obj.data_mapFields hd _))
 refine wpAny_setField ho1 (Obj.data_mapFields hd _) (by simp) ?_
 refine wpAny_bind ?_; have eb : ∀ f g : Obj → Obj, Heap.ExtBut it s.heap ((s.heap.update it f).update it g) := fun f g b o' hb e => by
  rw [(Heap.SameBut.update ..).2 b hb, (Heap.SameBut.update ..).2 b hb]; exact e
 show wpAny _ _ (newExc (.type "StopIteration") [] >>= _) _ _ _
 refine wpAny_bind ?_; simp only [newExc, newTuple]; refine wpAny_bind (wpAny_newObj_type ?_ (by size_fits))
 refine wpAny_bind (m := firstArgMember _ _) (wpAny_of_eq (a := Value.none) (by first | rfl | (simp only [firstArgMember]; rfl)) ?_)
 refine wpAny_newObj_type ?_ (by size_fits)
 simp only [raiseNew]; refine wpAny_bind (wpAny_handled ?_)
 first | rw [show A.in1.handled = none from hh] | rw [hh]
 refine wpAny_bind (wpAny_pure (wpAny_throw ?_)); refine wpAny_bind (wpAny_isInstance (T := "StopIteration") (b := true) ⟨_, Heap.get?_push_size _ rfl, rfl⟩ isSubtype_stop ?_); exact wpAny_pure (hQ _ (((eb _ _).push _).push _))
theorem Mh {it t : Addr} {i : Int} {Q : Value → Shared → Prop} (hit : IsRv s.heap it t i) (h : Q (.ref it) s) : wpAny (model prog w) A (pyIter (.ref it)) Q E s := by
 refine wpAny_pyIter_slot hit.typeIs Hu (wpAny_call_entry Hu hit.typeIs Xo ?_ (Yr _)); show wpAny _ _ (ret (.ref it)) _ _ s
 exact wpAny_pure ⟨_, rfl, "reversed", _, hit.typeIs, qL.lookup, h⟩
end
def Zg (K : PySem.W.Frag) (a : Addr) (n : Nat) : It :=
 ⟨fun i H => i < n ∧ ∃ xs, SqT K H a xs ∧ xs.length = n, fun i H x H' => H' = H ∧ ∀ xs, SqT K H a xs → xs[n - 1 - i]? = some x, fun i _ => i = n⟩
theorem Tt {P : Program} {w : World} {K : PySem.W.Frag} {tg : Expr} (a it : Addr) (n : Nat) : Turn P w K tg (Zg K a n) [it] it (fun i h => i ≤ n ∧ IsRv h it a ((n : Int) - 1 - (i : Int))) where
 mem := by simp
 obj := fun i h st b hb => by
  have e : b = it := by simpa using hb
  subst e; obtain ⟨_, o, e, c, d⟩ := st; exact ⟨o, e, fun v z => by rw [d] at z; cases z⟩
 keep := fun i h h' st k => ⟨st.1, let ⟨o, e, r⟩ := st.2; ⟨o, k it (by simp) o e, r⟩⟩
 item := by
  intro X hP hw hK hc i pins s σ H E I hf st hg; subst hP hw hK; obtain ⟨hi, xs, hq, hn⟩ := hg; obtain ⟨its, rv, p, hz⟩ := I.tuple hq; have hl := rv.length
  have hx : xs[n - 1 - i]? = some (xs[n - 1 - i]'(by omega)) := List.getElem?_eq_getElem (by omega)
  obtain ⟨u, hu, ru⟩ := rv.get hx; obtain ⟨f0, f1, f2, f3, f4, f5⟩ := hf it (by simp)
  have e1 : (n : Int) - 1 - (i : Int) = ((n - 1 - i : Nat) : Int) := by omega
  have st2 := st.2
  rw [e1] at st2; have hn := iU
  refine Uf st2 p (by rw [List.size_toArray]; omega) (x := u) (by simpa using hu) fun h' tk st' sb => ?_
  have I1 : Inv X pins σ H { s with heap := h', toks := tk } := I.turned (fun b o hb e => (sb.2 b hb).trans e) f0 f1 f3 f4 f5
  obtain ⟨o, e, c, d⟩ := id st'; have e2 : ((n - 1 - i : Nat) : Int) - 1 = (n : Int) - 1 - ((i + 1 : Nat) : Int) := by omega
  exact ⟨u, rfl, wJ (s := { s with heap := h', toks := tk }) e c d (by decide) ⟨_, H, I1, ru, ⟨rfl, fun ys hy => by rw [I.tuple_inj hy hq]; exact hx⟩, ⟨hi, by rw [← e2]; exact st'⟩, fun b hb => (hf b hb).1⟩⟩
 done := by
  intro X hP hw hK hc i pins s σ H E I hf st hg; subst hP hw hK; have hg' : i = n := hg
  subst hg'; obtain ⟨f0, f1, f2, f3, f4, f5⟩ := hf it (by simp)
  have e1 : (i : Int) - 1 - (i : Int) = -1 := by omega
  have st2 := st.2
  rw [e1] at st2; exact N3 (I.ok.hd hc) st2 fun h' eb => ⟨rfl, I.turned (t' := s.toks) (fun b o hb e => eb b o hb e) f0 f1 f3 f4 f5⟩
 self := fun _ _ _ _ _ st h => Mh st.2 h
end DL
namespace DL
open PySem PySem.Spec PyProof.Rows L2
theorem Om (l : Addr) (items : Array Value) (x : Value) (e : Value → Bool) (j : Nat) (hj : j < items.size) (hit : e items[j] = true) (hno : ∀ m (hm : m < items.size), m < j → e items[m] = false) :
  Meets (Builtin.«tuple.index» ⟨[.ref l, x], []⟩) (fun A R s => IsTup s.heap l items ∧ (∀ y, y ∈ items → SeqAt.EqAt A.in1 s y x (e y)) ∧ R (.ok (.ret (.int j s.toks))) { s with toks := s.toks + 1 }) :=
 .of_wp fun prog w A R s h => by
  obtain ⟨ht, he, h⟩ := h; unfold Builtin.«tuple.index»; refine wpAny_bind (wpAny_of_eq (a := (Value.ref l, [x])) rfl ?_)
  try dsimp only
  refine wpAny_bind (tupleItemsOf_ ht ?_)
  try dsimp only
  refine wpAny_bind (wpAny_pure (wpAny_bind (wpAny_pure ?_))); rw [Nat.min_self, Std.Legacy.Range.forIn_eq_forIn_range']; refine wpAny_bind (wpAny_forIn_list _ (fun rest b s' => s' = s ∧ ∃ k, k ≤ j ∧ rest = List.range' k (items.size - k)) _ ?_ ?_ _ _ ?_)
  ·rintro i rest b s' ⟨rfl, k, hk, hr⟩; have hlt : k < items.size := by omega
   obtain ⟨n, hn⟩ : ∃ n, items.size - k = n + 1 := ⟨items.size - k - 1, by omega⟩
   rw [hn, List.range'_succ] at hr; obtain ⟨rfl, rfl⟩ := List.cons.inj hr; have hx : items[i]? = some items[i] := Array.getElem?_eq_getElem hlt
   simp only [hx]; refine wpAny_bind (he _ (Array.getElem_mem hlt) prog w _ _ ?_)
   by_cases hij : i = j
   ·subst hij; rw [hit]; exact wpAny_bind (wpAny_bind (wpAny_mkInt (wpAny_pure (wpAny_pure (wpAny_pure ⟨_, rfl, h⟩)))))
   ·rw [hno i hlt (by omega)]
    exact wpAny_pure ⟨rfl, i + 1, by omega, by congr 1; omega⟩
  ·rintro b s' ⟨rfl, k, hk, hr⟩; have := congrArg List.length hr
   rw [List.length_range'] at this; simp at this; omega
  ·exact ⟨rfl, 0, Nat.zero_le _, by simp [Std.Legacy.Range.size]⟩
theorem Ic : ∀ {zs : List Str} {us : List Value}, Vals (zs.map V.str) us → ∀ i (h : i < us.length) (h2 : i < zs.length), ∃ t, us[i] = .str zs[i] t
 | [], _, .nil, i, h, _ => absurd h (Nat.not_lt_zero _)
 | z :: zs, _, .cons r t, 0, _, _ => let ⟨k, e⟩ := r; ⟨k, e⟩
 | z :: zs, _, .cons r t, i + 1, h, h2 => Ic t i (Nat.lt_of_succ_lt_succ h) (Nat.lt_of_succ_lt_succ h2)
theorem Hl {y : Str} : ∀ (zs : List Str) (m : Nat) (h : m < zs.length), m < zs.idxOf y → zs[m] ≠ y
 | [], _, h, _ => absurd h (Nat.not_lt_zero _)
 | z :: zs, 0, _, h => by
  intro e; rw [List.getElem_cons_zero] at e; rw [e, List.idxOf_cons_self] at h; exact absurd h (Nat.lt_irrefl _)
 | z :: zs, m + 1, hl, h => by
  rw [List.getElem_cons_succ]; refine Hl zs m (Nat.lt_of_succ_lt_succ hl) ?_; rw [List.idxOf_cons] at h
  cases e : z == y with
  | true => simp [e] at h
  | false => simp [e] at h; omega
section
variable {X : Cx} {a e o : Expr} {es : List Expr} {f g : DE} {ga : DA} {pos p p1 p2 : Pos}
def Zk (K : PySem.W.Frag) : V → List V → Hp → VK → Prop := fun x xs H Q => ∃ (a : Addr) (y : Str) (zs : List Str), x = .ref a ∧ xs = [.str y] ∧ SqT K H a (zs.map V.str) ∧ y ∈ zs ∧ Q (.int (zs.idxOf y : Nat)) H
theorem d6 : MtR X "tuple.index" (Zk X.K) := by
 intro pins s σ H x xs v us Q I rx rs ⟨a, y, zs, e1, e2, hq, hk, q⟩; subst e1 e2
 cases rx
 obtain ⟨u, rfl, ru⟩ := iL rs; obtain ⟨tk, rfl⟩ := id ru; obtain ⟨its, rv, p, hz⟩ := I.tuple hq; have hl := rv.length
 rw [List.length_map] at hl; have hj : zs.idxOf y < zs.length := List.idxOf_lt_length_iff.mpr hk
 have hit : ∀ m (hm : m < its.toArray.size) (hm2 : m < zs.length), dZ (.str y) its.toArray[m] = (zs[m] == y) := fun m hm hm2 => by
  obtain ⟨t, e⟩ := Ic rv m (by simpa using hm) hm2
  have e' : its.toArray[m] = .str zs[m] t := by simpa using e
  rw [e']; rfl
 have hfl : (zs.map V.str).all fA = true := by
  rw [List.all_eq_true]; intro v hv; obtain ⟨z, _, rfl⟩ := List.mem_map.mp hv; rfl
 refine call_meets PySem.F.slot_tuple_index p.typeIs PySem.F.entry_tuple_index (PySem.F.args_tuple_index_2 _ _) (Om a its.toArray (.str y tk) (dZ (.str y)) (zs.idxOf y) (by rw [List.size_toArray]; omega) ?_ ?_) ⟨p, ?_, ?_⟩
 ·rw [hit _ _ hj, List.getElem_idxOf hj]; simp
 ·intro m hm hlt; have hm2 : m < zs.length := by omega
  rw [hit m hm hm2]; simp only [beq_eq_false_iff_ne]; exact Hl _ _ hm2 hlt
 ·exact fun w hw => oN (x := .str y) ⟨tk, rfl⟩ rfl rv hfl w (by simpa using hw)
 ·exact ⟨.int _, H, I.tok _, ⟨_, rfl⟩, q⟩
theorem kZ {K : PySem.W.Frag} {Z : Addr → Prop} {m : Mu} {H : Hp} : ∀ {zs : List Str} {vs : List V}, RPs K Z m H (zs.map PyData.str) vs → vs = zs.map V.str
 | [], vs, h => by simpa [RPs] using h
 | z :: zs, vs, h => by
  simp only [List.map_cons, RPs] at h; obtain ⟨v, r, rfl, h1, h2⟩ := h; simp only [RP] at h1; subst h1; rw [kZ h2]; rfl
theorem An {K : PySem.W.Frag} {Z : Addr → Prop} {m : Mu} {H : Hp} : ∀ (zs : List Str), RPs K Z m H (zs.map PyData.str) (zs.map V.str)
 | [] => by simp [RPs]
 | z :: zs => by
  simp only [List.map_cons, RPs]; exact ⟨_, _, rfl, by simp only [RP], An zs⟩
def KT (K : PySem.W.Frag) (a : Addr) (zs : List Str) : Prop := ∃ (o : Obj) (its : Array Value) (n : Nat), K.lookup a = some o ∧ o.cls = .type "tuple" ∧ o.dict = none ∧ o.data = .seq its n ∧ its.size ≤ sizeLine ∧ Vals (zs.map V.str) its.toList
theorem KT.sq {K : PySem.W.Frag} {a : Addr} {zs : List Str} {H : Hp} (h : KT K a zs) : SqT K H a (zs.map V.str) := by
 obtain ⟨o, its, n, h1, h2, h3, h4, h5, h6⟩ := h; exact .inr ⟨o, its, n, h1, ⟨h2, h3⟩, h4, h5, h6⟩
theorem R4 {x : Str} {c : Addr} {zs : List Str} (hg : Gl X x) (hm : X.mg x = some (.ref c)) (hk : KT X.K c zs) (hd : (x == ("__debug__" : Str)) = false := by decide) : PE X (.Name x pos) (LE X.K (aE (.tuple (zs.map .str)))) :=
 PE.imp (wL (v := .ref c) hg hm rfl hd) fun s H Q h => by
  obtain ⟨Z, d, m, R, ok, rs, h, k⟩ := h; refine k _ m _ H h Ext.refl ok ?_; simp only [RD, RP]; exact ⟨c, _, rfl, hk.sq, An zs⟩
@[simp] def vO (zs : List Str) (g : DE) : DE := fun d m Q => g d m fun y m1 => ∃ z : Str, y = .dat (.str z) ∧ z ∈ zs ∧ Q (.dat (.int (zs.idxOf z : Nat))) m1
theorem f6 {x : Str} {c : Addr} {zs : List Str} {apos cpos : Pos} (hg : Gl X x) (hm : X.mg x = some (.ref c)) (hk : KT X.K c zs) (he : PE X e (LE X.K g)) (hd : (x == ("__debug__" : Str)) = false := by decide)
  (hbase : attributeBase (.Name x p) "index" X.env (eval (.Name x p) X.env) = eval (.Name x p) X.env := by rfl)
  (hfew : ((backTo cpos (starEach [e] X.env)).all (fun x => !x.1) && (backToKw cpos (keywordEach [] X.env)).all (fun x => x.1.isSome) && decide ([e].length + ([] : List Keyword).length + (if ([] : List Keyword).isEmpty then 0 else 1) < 30)) = true := by rfl)
  (hline : (apos.endLine == cpos.line) = true := by rfl) (hs : starEach [e] X.env = (false, eval e X.env) :: starEach [] X.env := by rfl) : PE X (.Call (.Attribute (.Name x p) "index" apos) [e] [] cpos) (LE X.K (vO zs g)) :=
 PE.imp (Ky (T := "tuple") (id := "tuple.index") (name := "index") PySem.F.plainAttrs_tuple PySem.F.slot_tuple_index PySem.F.type_tuple_index d6 (wL (v := .ref c) hg hm rfl hd) (kU he pR hs) hbase hfew hline hs rfl) fun s H Q h => by
  obtain ⟨Z, d, m, R, ok, rs, h, k⟩ := h; obtain ⟨o, its, n, h1, h2, h3, _⟩ := id hk; refine ⟨.inr (.inl ⟨rfl, o, h1, h2, h3⟩), ?_⟩; refine ⟨Z, d, m, _, ok, rs, h, fun y m1 v H1 ⟨z, ey, hz, q⟩ e1 ok1 rd => ?_⟩; subst ey
  cases rd.str
  exact ⟨c, z, zs, rfl, rfl, hk.sq, hz, k _ m1 _ H1 q e1 ok1 .ofInt⟩
@[simp] def uT : D2
 | .dat (.str x), .dat (.list ys), m, Q => ∃ zs : List Str, ys = zs.map .str ∧ Q (.dat (.bool (decide (x ∈ zs)))) m
 | .dat (.str x), .dat (.tuple ys), m, Q => ∃ zs : List Str, ys = zs.map .str ∧ Q (.dat (.bool (decide (x ∈ zs)))) m
 | .dat (.bool x), .dat (.list ys), m, Q => ∃ zs : List Bool, ys = zs.map .bool ∧ Q (.dat (.bool (decide (x ∈ zs)))) m
 | .dat (.bool x), .dat (.tuple ys), m, Q => ∃ zs : List Bool, ys = zs.map .bool ∧ Q (.dat (.bool (decide (x ∈ zs)))) m
 | .dat (.int x), .dat (.list ys), m, Q => ∃ zs : List Int, ys = zs.map .int ∧ Q (.dat (.bool (decide (x ∈ zs)))) m
 | .dat (.int x), .dat (.tuple ys), m, Q => ∃ zs : List Int, ys = zs.map .int ∧ Q (.dat (.bool (decide (x ∈ zs)))) m
 | _, _, _, _ => False
@[simp] def xB : D2
 | .dat (.str x), .dat (.list ys), m, Q => ∃ zs : List Str, ys = zs.map .str ∧ Q (.dat (.bool (!decide (x ∈ zs)))) m
 | .dat (.str x), .dat (.tuple ys), m, Q => ∃ zs : List Str, ys = zs.map .str ∧ Q (.dat (.bool (!decide (x ∈ zs)))) m
 | .dat (.bool x), .dat (.list ys), m, Q => ∃ zs : List Bool, ys = zs.map .bool ∧ Q (.dat (.bool (!decide (x ∈ zs)))) m
 | .dat (.bool x), .dat (.tuple ys), m, Q => ∃ zs : List Bool, ys = zs.map .bool ∧ Q (.dat (.bool (!decide (x ∈ zs)))) m
 | .dat (.int x), .dat (.list ys), m, Q => ∃ zs : List Int, ys = zs.map .int ∧ Q (.dat (.bool (!decide (x ∈ zs)))) m
 | .dat (.int x), .dat (.tuple ys), m, Q => ∃ zs : List Int, ys = zs.map .int ∧ Q (.dat (.bool (!decide (x ∈ zs)))) m
 | _, _, _, _ => False
theorem pC (x : Str) : ∀ zs : List Str, jF (.str x) (zs.map V.str) = decide (x ∈ zs)
 | [] => rfl
 | z :: zs => by
  have ih := pC x zs
  unfold jF at ih ⊢; rw [List.map_cons, List.any_cons, ih]; show (z == x || decide (x ∈ zs)) = decide (x ∈ z :: zs)
  rw [Bool.eq_iff_iff]; simp only [Bool.or_eq_true, beq_iff_eq, decide_eq_true_eq, List.mem_cons]; exact ⟨fun h => h.imp Eq.symm id, fun h => h.imp Eq.symm id⟩
theorem sE (zs : List Str) : (zs.map V.str).all fA = true := by
 rw [List.all_eq_true]; intro v hv; obtain ⟨z, _, rfl⟩ := List.mem_map.mp hv; rfl
theorem rR (x : Bool) : ∀ zs : List Bool, jF (.bl x) (zs.map V.bl) = decide (x ∈ zs)
 | [] => rfl
 | z :: zs => by
  have ih := rR x zs
  unfold jF at ih ⊢; rw [List.map_cons, List.any_cons, ih]; show (z == x || decide (x ∈ zs)) = decide (x ∈ z :: zs)
  rw [Bool.eq_iff_iff]; simp only [Bool.or_eq_true, beq_iff_eq, decide_eq_true_eq, List.mem_cons]; exact ⟨fun h => h.imp Eq.symm id, fun h => h.imp Eq.symm id⟩
theorem sR (zs : List Bool) : (zs.map V.bl).all fA = true := by
 rw [List.all_eq_true]; intro v hv; obtain ⟨z, _, rfl⟩ := List.mem_map.mp hv; rfl
theorem qU {K : PySem.W.Frag} {Z : Addr → Prop} {m : Mu} {H : Hp} : ∀ {zs : List Bool} {vs : List V}, RPs K Z m H (zs.map PyData.bool) vs → vs = zs.map V.bl
 | [], vs, h => by simpa [RPs] using h
 | z :: zs, vs, h => by
  simp only [List.map_cons, RPs] at h; obtain ⟨v, r, rfl, h1, h2⟩ := h; simp only [RP] at h1; subst h1; rw [qU h2]; rfl
theorem sD (x : Int) : ∀ zs : List Int, jF (.int x) (zs.map V.int) = decide (x ∈ zs)
 | [] => rfl
 | z :: zs => by
  have ih := sD x zs
  unfold jF at ih ⊢; rw [List.map_cons, List.any_cons, ih]; show (z == x || decide (x ∈ zs)) = decide (x ∈ z :: zs)
  rw [Bool.eq_iff_iff]; simp only [Bool.or_eq_true, beq_iff_eq, decide_eq_true_eq, List.mem_cons]; exact ⟨fun h => h.imp Eq.symm id, fun h => h.imp Eq.symm id⟩
theorem vB (zs : List Int) : (zs.map V.int).all fA = true := by
 rw [List.all_eq_true]; intro v hv; obtain ⟨z, _, rfl⟩ := List.mem_map.mp hv; rfl
theorem rE {K : PySem.W.Frag} {Z : Addr → Prop} {m : Mu} {H : Hp} : ∀ {zs : List Int} {vs : List V}, RPs K Z m H (zs.map PyData.int) vs → vs = zs.map V.int
 | [], vs, h => by simpa [RPs] using h
 | z :: zs, vs, h => by
  simp only [List.map_cons, RPs] at h; obtain ⟨v, r, rfl, h1, h2⟩ := h; simp only [RP] at h1; subst h1; rw [rE h2]; rfl
theorem He : cI X (compareOp .In) uT := by
 intro pins s σ H Z m x y dx dy v u R Q I ok rx ry r1 r2 h k; unfold uT at h
 split at h
 ·obtain ⟨zs, rfl, q⟩ := h
  cases r1.str
  simp only [RD, RP] at r2; obtain ⟨a, vs, rfl, _, h1, h2⟩ := r2
  cases kZ h2
  refine lM pins s σ H _ _ v u Q I rx ry ⟨a, _, rfl, .inl h1, rfl, sE zs, ?_⟩; rw [if_neg Bool.false_ne_true, pC]; exact k _ m _ H q Ext.refl ok .ofBl
 ·obtain ⟨zs, rfl, q⟩ := h
  cases r1.str
  simp only [RD, RP] at r2; obtain ⟨a, vs, rfl, h1, h2⟩ := r2
  cases kZ h2
  refine lM pins s σ H _ _ v u Q I rx ry ⟨a, _, rfl, .inr h1, rfl, sE zs, ?_⟩; rw [if_neg Bool.false_ne_true, pC]; exact k _ m _ H q Ext.refl ok .ofBl
 ·obtain ⟨zs, rfl, q⟩ := h
  cases r1.bl
  simp only [RD, RP] at r2; obtain ⟨a, vs, rfl, _, h1, h2⟩ := r2
  cases qU h2
  refine lM pins s σ H _ _ v u Q I rx ry ⟨a, _, rfl, .inl h1, rfl, sR zs, ?_⟩; rw [if_neg Bool.false_ne_true, rR]; exact k _ m _ H q Ext.refl ok .ofBl
 ·obtain ⟨zs, rfl, q⟩ := h
  cases r1.bl
  simp only [RD, RP] at r2; obtain ⟨a, vs, rfl, h1, h2⟩ := r2
  cases qU h2
  refine lM pins s σ H _ _ v u Q I rx ry ⟨a, _, rfl, .inr h1, rfl, sR zs, ?_⟩; rw [if_neg Bool.false_ne_true, rR]; exact k _ m _ H q Ext.refl ok .ofBl
 ·obtain ⟨zs, rfl, q⟩ := h
  cases r1.int
  simp only [RD, RP] at r2; obtain ⟨a, vs, rfl, _, h1, h2⟩ := r2
  cases rE h2
  refine lM pins s σ H _ _ v u Q I rx ry ⟨a, _, rfl, .inl h1, rfl, vB zs, ?_⟩; rw [if_neg Bool.false_ne_true, sD]; exact k _ m _ H q Ext.refl ok .ofBl
 ·obtain ⟨zs, rfl, q⟩ := h
  cases r1.int
  simp only [RD, RP] at r2; obtain ⟨a, vs, rfl, h1, h2⟩ := r2
  cases rE h2
  refine lM pins s σ H _ _ v u Q I rx ry ⟨a, _, rfl, .inr h1, rfl, vB zs, ?_⟩; rw [if_neg Bool.false_ne_true, sD]; exact k _ m _ H q Ext.refl ok .ofBl
 ·exact h.elim
theorem Tz : cI X (compareOp .NotIn) xB := by
 intro pins s σ H Z m x y dx dy v u R Q I ok rx ry r1 r2 h k; unfold xB at h
 split at h
 ·obtain ⟨zs, rfl, q⟩ := h
  cases r1.str
  simp only [RD, RP] at r2; obtain ⟨a, vs, rfl, _, h1, h2⟩ := r2
  cases kZ h2
  refine oF pins s σ H _ _ v u Q I rx ry ⟨a, _, rfl, .inl h1, rfl, sE zs, ?_⟩; rw [if_pos rfl, pC]; exact k _ m _ H q Ext.refl ok .ofBl
 ·obtain ⟨zs, rfl, q⟩ := h
  cases r1.str
  simp only [RD, RP] at r2; obtain ⟨a, vs, rfl, h1, h2⟩ := r2
  cases kZ h2
  refine oF pins s σ H _ _ v u Q I rx ry ⟨a, _, rfl, .inr h1, rfl, sE zs, ?_⟩; rw [if_pos rfl, pC]; exact k _ m _ H q Ext.refl ok .ofBl
 ·obtain ⟨zs, rfl, q⟩ := h
  cases r1.bl
  simp only [RD, RP] at r2; obtain ⟨a, vs, rfl, _, h1, h2⟩ := r2
  cases qU h2
  refine oF pins s σ H _ _ v u Q I rx ry ⟨a, _, rfl, .inl h1, rfl, sR zs, ?_⟩; rw [if_pos rfl, rR]; exact k _ m _ H q Ext.refl ok .ofBl
 ·obtain ⟨zs, rfl, q⟩ := h
  cases r1.bl
  simp only [RD, RP] at r2; obtain ⟨a, vs, rfl, h1, h2⟩ := r2
  cases qU h2
  refine oF pins s σ H _ _ v u Q I rx ry ⟨a, _, rfl, .inr h1, rfl, sR zs, ?_⟩; rw [if_pos rfl, rR]; exact k _ m _ H q Ext.refl ok .ofBl
 ·obtain ⟨zs, rfl, q⟩ := h
  cases r1.int
  simp only [RD, RP] at r2; obtain ⟨a, vs, rfl, _, h1, h2⟩ := r2
  cases rE h2
  refine oF pins s σ H _ _ v u Q I rx ry ⟨a, _, rfl, .inl h1, rfl, vB zs, ?_⟩; rw [if_pos rfl, sD]; exact k _ m _ H q Ext.refl ok .ofBl
 ·obtain ⟨zs, rfl, q⟩ := h
  cases r1.int
  simp only [RD, RP] at r2; obtain ⟨a, vs, rfl, h1, h2⟩ := r2
  cases rE h2
  refine oF pins s σ H _ _ v u Q I rx ry ⟨a, _, rfl, .inr h1, rfl, vB zs, ?_⟩; rw [if_pos rfl, sD]; exact k _ m _ H q Ext.refl ok .ofBl
 ·exact h.elim
@[simp] def gP : DC
 | [.dat (.tuple xs)], m, Q => Q (.dat (.tuple xs)) m
 | [.dat (.list xs)], m, Q => Q (.dat (.tuple xs)) m
 | [.cel c], m, Q => ∃ xs, m c = some (.l xs) ∧ Q (.dat (.tuple xs)) m
 | _, _, _ => False
theorem lR : CallD X (.type "tuple") gP := by
 intro pins s σ H Z m xs ds us R Q I ok rv rd h k; unfold gP at h
 split at h
 ·obtain ⟨v, rfl, r1⟩ := rd.one; have r0 := r1
  simp only [RD, RP] at r1; obtain ⟨a, vs, rfl, h1, h2⟩ := r1; exact Br pins s σ H _ us Q I rv ⟨a, vs, rfl, .inr ⟨h1, k _ m _ H h Ext.refl ok r0⟩⟩
 ·obtain ⟨v, rfl, r1⟩ := rd.one; simp only [RD, RP] at r1; obtain ⟨a, vs, rfl, _, h1, h2⟩ := r1; refine Br pins s σ H _ us Q I rv ⟨a, vs, rfl, .inl ⟨h1, fun l hl => ?_⟩⟩; have sm : Same H (aN H l (.tup vs)) := cW hl
  refine k _ m _ _ h (ok.ext sm) (ok.grow sm) ?_; simp only [RD, RP]; exact ⟨l, vs, rfl, .inl (.inl cZ), RPs.ext (ok.ext sm) _ _ h2⟩
 ·obtain ⟨v, rfl, r1⟩ := rd.one; obtain ⟨rfl, _⟩ := r1; obtain ⟨ys, hm, q⟩ := h; obtain ⟨vs, h1, h2⟩ := ok.l hm; refine Br pins s σ H _ us Q I rv ⟨_, vs, rfl, .inl ⟨.inl (.inl h1), fun l hl => ?_⟩⟩; have sm : Same H (aN H l (.tup vs)) := cW hl
  refine k _ m _ _ q (ok.ext sm) (ok.grow sm) ?_; simp only [RD, RP]; exact ⟨l, vs, rfl, .inl (.inl cZ), RPs.ext (ok.ext sm) _ _ h2⟩
 ·exact h.elim
theorem u6 : bootBuiltins "reversed" = some (.type "reversed") := by decide +kernel
@[simp] def tR (f : DE) : DI := fun d m Q => f d m fun x m1 => ∃ ps, x = .dat (.tuple ps) ∧ Q (ps.reverse.map .dat) m1
theorem On {tg : Expr} (hg : Gl X "reversed") (hm : X.mg "reversed" = none) (ha : PE X e (LE X.K f)) (hs : starEach [e] X.env = [(false, eval e X.env)] := by rfl) : PI X tg (.Call (.Name "reversed" p) [e] [] pos) (LI X.K (tR f)) := by
 intro pins s σ H R I h; obtain ⟨Z, d, m, ZZ, ok, rs, h, k⟩ := h; have hA := kU (X := X) ha pR (by rw [hs]; rfl) pos pins s σ H (fun vs H1 => ∃ a xs ps m1, vs = [.ref a] ∧ SqT X.K H1 a xs ∧ RPs X.K Z m1 H1 ps xs ∧ ZZ (ps.reverse.map .dat) m1 ∧ Ext X.K Z m H m1 H1 ∧ Ok X.K Z m1 H1) I ⟨Z, d, m, _, ok, rs, h, fun x m1 v H1 ⟨ps, ex, q⟩ e1 ok1 rd => by
  subst ex; simp only [RD, RP] at rd; obtain ⟨a, vs, rfl, h1, h2⟩ := rd; exact ⟨a, vs, ps, m1, rfl, h1, h2, q, e1, ok1⟩⟩
 refine Call_ (lK I hg hm u6 (PyProof.Rows.callWith_type1 (aL hA fun us s1 ⟨vs, H1, I1, r1, q1⟩ => ?_) hs rfl)); obtain ⟨a, xs, ps, m1, e, hq, rp, q, e1, ok1⟩ := q1; subst e; obtain ⟨u, rfl, ru⟩ := iL r1
 cases ru
 obtain ⟨its, rv, pt, hz⟩ := I1.tuple hq; have hl := rv.length
 have hn := iU
 refine Ti pt (by rw [List.size_toArray]; omega) ?_
 have hit : IsRv (s1.heap.push (Ae a ((its.toArray.size : Int) - 1))) s1.heap.objs.size a ((xs.length : Int) - 1 - ((0 : Nat) : Int)) := by
  refine ⟨_, Heap.get?_push_size _ rfl, rfl, ?_⟩; show Data.fields _ = Data.fields _
  rw [List.size_toArray, ← hl]; simp
 refine Mh (s := { s1 with heap := _, toks := _ }) hit ?_; refine ⟨s1.heap.objs.size, [s1.heap.objs.size], _, _, H1, rfl, I1.kept fun b o e => Heap.get?_push_of_some _ e, Tt a _ xs.length, ⟨Nat.zero_le _, hit⟩, fun b hb => ?_, k _ m1 H1 _ q e1 ok1 ?_⟩
 ·have e : b = s1.heap.objs.size := by simpa using hb
  subst e; exact I1.fpOk (Nat.le_refl _) (I1.hok.fresh (Nat.le_refl _))
 ·intro m2 H2 e2; have q1 := e2.t a xs hq
  have hlp := rp.length
  refine ⟨fun i x hx => ?_, ?_⟩
  ·obtain ⟨pp, hp, rfl⟩ := sC hx; have hlt : i < ps.length := by
    have := (List.getElem?_eq_some_iff.mp hp).1
    simpa using this
   rw [List.getElem?_reverse hlt] at hp; obtain ⟨v, hv, rv⟩ := rp.get hp; refine ⟨⟨by omega, xs, q1, rfl⟩, fun v' H3 y => .inl ⟨y.1, ?_⟩⟩
   have := y.2 xs q1
   rw [hlp] at this; rw [hv] at this
   cases this
   exact rv
  ·show (ps.reverse.map D.dat).length = xs.length
   rw [List.length_map, List.length_reverse]; exact hlp.symm
end
end DL
namespace DL
open PySem PySem.Spec PyProof.Rows L2
def chkB (scope : Scope) (env : Env) : Bool := scope.names.all fun y => (decide (y.2 ≠ .cell)) && (!decide (y.2 = .local) || decide (scope.names.lookup y.1 = some .local)) && (!decide (y.2 = .free) || decide (env.kindOf y.1 = some .cell) || decide (env.kindOf y.1 = some .free))
def chkS (N : List Str) (scope : Scope) (env : Env) : List Str → List (Option Nat) → Bool
 | [], [] => true
 | x :: xs, o :: os => (match o with | none => true | some j => decide (N[j]? = some x) && decide ((x, NameKind.free) ∈ scope.names) && (decide ((relabel scope env).names.lookup x = some .cell) || decide ((relabel scope env).names.lookup x = some .free))) && chkS N scope env xs os
 | _, _ => false
theorem chkB.ok {scope : Scope} {env : Env} (h : chkB scope env = true) : (∀ y ∈ scope.names, y.2 ≠ .cell) ∧ (∀ y ∈ scope.names, y.2 = .local → scope.names.lookup y.1 = some .local) ∧ ∀ x, (x, NameKind.free) ∈ scope.names → env.kindOf x = some .cell ∨ env.kindOf x = some .free := by
 unfold chkB at h; rw [List.all_eq_true] at h; have q : ∀ y ∈ scope.names, y.2 ≠ .cell ∧ (y.2 = .local → scope.names.lookup y.1 = some .local) ∧ (y.2 = .free → env.kindOf y.1 = some .cell ∨ env.kindOf y.1 = some .free) := fun y hy => by
  have := h y hy
  simp only [Bool.and_eq_true, Bool.or_eq_true, Bool.not_eq_true', decide_eq_true_eq, decide_eq_false_iff_not] at this; obtain ⟨⟨a, b⟩, c⟩ := this; refine ⟨a, fun e => b.resolve_left (fun n => n e), fun e => ?_⟩; rcases c with (c | c) | c
  ·exact absurd e c
  ·exact .inl c
  ·exact .inr c
 exact ⟨fun y hy => (q y hy).1, fun y hy => (q y hy).2.1, fun x hx => (q _ hx).2.2 rfl⟩
theorem chkS.ok {X : Cx} {scope : Scope} : ∀ {NC : List Str} {src : List (Option Nat)}, chkS X.N scope X.env NC src = true → mR X scope NC src
 | [], [], _ => ⟨rfl, fun i x j h => by simp at h⟩
 | [], _ :: _, h => by simp [chkS] at h
 | _ :: _, [], h => by simp [chkS] at h
 | y :: ys, o :: os, h => by
  simp only [chkS, Bool.and_eq_true] at h; obtain ⟨h1, h2⟩ := h; obtain ⟨q1, q2⟩ := chkS.ok h2; refine ⟨by rw [List.length_cons, List.length_cons, q1], fun i x j e1 e2 => ?_⟩
  cases i with
  | zero =>
   simp at e1 e2; subst e1 e2; simp only [Bool.and_eq_true, Bool.or_eq_true, decide_eq_true_eq] at h1; exact ⟨h1.1.1, h1.1.2, h1.2⟩
  | succ i => exact q2 i x j (by simpa using e1) (by simpa using e2)
section
variable {X : Cx} {tg iter elt : Expr} {ifs : List Expr} {scope : Scope} {fi : DI} {g : DG} {t : DT} {f : DE} {pos : Pos}
theorem U0 (NC : List Str) (src : List (Option Nat)) (hc : X.calm = true) (hi : PI X tg iter (LI X.K fi))
  (hg : ∀ cl C s2 H2 pins fp, PG (aW X scope cl C NC s2 H2 pins fp) tg (LG X.K g)) (ht : ∀ cl C s2 H2 pins fp, PF (aW X scope cl C NC s2 H2 pins fp) ifs (LT X.K t)) (he : ∀ cl C s2 H2 pins fp, PE (aW X scope cl C NC s2 H2 pins fp) elt (LE X.K f))
  (hkind : scope.kind = .function := by rfl) (hB : chkB scope X.env = true := by rfl) (hS : chkS X.N scope X.env NC src = true := by rfl)
  (hs : ∀ x, foldedSetIterable iter X.env x = pure x := by intro _; rfl) : PE X (.ListComp elt [⟨tg, iter, ifs, 0⟩] scope pos) (LE X.K (dY src fi g t f)) :=
 Zo (NC := NC) src hc hi hg ht he hkind (chkB.ok hB).1 (chkB.ok hB).2.1 (chkB.ok hB).2.2 (chkS.ok hS) hs
theorem C8 (i : Nat) {y : Str} {py spos : Pos} (NC : List Str) (src : List (Option Nat)) (hc : X.calm = true) (hN : X.N.Nodup) (hi : PI X tg iter (LI X.K fi))
  (hg : ∀ cl C s2 H2 pins fp, PG (aW X scope cl C NC s2 H2 pins fp) tg (LG X.K g)) (ht : ∀ cl C s2 H2 pins fp, PF (aW X scope cl C NC s2 H2 pins fp) ifs (LT X.K t)) (he : ∀ cl C s2 H2 pins fp, PE (aW X scope cl C NC s2 H2 pins fp) elt (LE X.K f))
  (hkind : scope.kind = .function := by rfl) (hB : chkB scope X.env = true := by rfl) (hS : chkS X.N scope X.env NC src = true := by rfl)
  (hi2 : X.N[i]? = some y := by rfl) (hx : fQ X.env.scope y := by first | exact Or.inl rfl | exact Or.inr rfl) (hf : X.fn y = true ∨ X.env.scope.names.lookup y = some .local := by first | exact .inl rfl | exact .inr rfl)
  (hsw : swapsWith (.ListComp elt [⟨tg, iter, ifs, 0⟩] scope pos) (some (.Name y py)) spos.line X.env = pure true := by rfl)
  (hs : ∀ x, foldedSetIterable iter X.env x = pure x := by intro _; rfl) : PS X (.Assign [.Name y py] (.ListComp elt [⟨tg, iter, ifs, 0⟩] scope pos) spos) (LS X.K (aV i (dY src fi g t f))) :=
 Sd (NC := NC) i src hc hi hg ht he hkind (chkB.ok hB).1 (chkB.ok hB).2.1 (chkB.ok hB).2.2 (chkS.ok hS) hN hi2 hx hf hsw hs
end
end DL
namespace DL
open PySem PySem.Spec PyProof.Rows L2
section
variable {prog : Program} {w : World} {A : Around} {R : Result → Shared → Prop} {s : Shared}
theorem d8 (elt tg iter tg2 iter2 : Expr) (ifs ifs2 : List Expr) (scope : Scope) (pos : Pos) (it acc : Value) (env : Env) :
  compTurn (.ListComp elt [⟨tg, iter, ifs, 0⟩, ⟨tg2, iter2, ifs2, 0⟩] scope pos) 0 it acc env = (do
   standAt iter.pos
   match ← pyNext it with
   | none => pure (.done .next)
   | some v =>
    letOwnedTupleGo tg it v
    assign tg env v
    let mut ok := true
    for c in ifs do
     if ok then ok ← isTrue c env (eval c env)
    if ok then
     let x ← eval iter2 env
     standAt iter2.pos
     let x ← foldedSetIterable iter2 env x
     let _ ← runOwn (.compStart (.ListComp elt [⟨tg, iter, ifs, 0⟩, ⟨tg2, iter2, ifs2, 0⟩] scope pos) 1 (← holding [x] (pyIter x)) acc env) env
    again (.compLoop (.ListComp elt [⟨tg, iter, ifs, 0⟩, ⟨tg2, iter2, ifs2, 0⟩] scope pos) 0 it acc env)) := by rfl
theorem V5 (elt tg iter tg2 iter2 : Expr) (ifs ifs2 : List Expr) (scope : Scope) (pos : Pos) (it acc : Value) (env : Env) :
  compTurn (.ListComp elt [⟨tg, iter, ifs, 0⟩, ⟨tg2, iter2, ifs2, 0⟩] scope pos) 1 it acc env = (do
   standAt iter2.pos
   match ← pyNext it with
   | none => pure (.done .next)
   | some v =>
    letOwnedTupleGo tg2 it v
    assign tg2 env v
    let mut ok := true
    for c in ifs2 do
     if ok then ok ← isTrue c env (eval c env)
    if ok then
     (do let _ ← call (.builtin "list.append") [acc, ← eval elt env])
    again (.compLoop (.ListComp elt [⟨tg, iter, ifs, 0⟩, ⟨tg2, iter2, ifs2, 0⟩] scope pos) 1 it acc env)) := by rfl
theorem Yh {elt tg iter tg2 iter2 : Expr} {ifs ifs2 : List Expr} {scope : Scope} {pos : Pos} {it acc : Value} {env : Env}
  (h0 : codeAny (model prog w) A (.compLoop (.ListComp elt [⟨tg, iter, ifs, 0⟩, ⟨tg2, iter2, ifs2, 0⟩] scope pos) 1 it acc env) R s)
  (h : wpAny (model prog w) A (pyIter it) (fun it' s' => codeAny (model prog w) A (.compLoop (.ListComp elt [⟨tg, iter, ifs, 0⟩, ⟨tg2, iter2, ifs2, 0⟩] scope pos) 1 it' acc env) R s')
   (notedBy (model prog w) A env fun x s' => R (.error x) s') s) :
  codeAny (model prog w) A (.compStart (.ListComp elt [⟨tg, iter, ifs, 0⟩, ⟨tg2, iter2, ifs2, 0⟩] scope pos) 1 it acc env) R s := by
 refine codeAny_of_tree ?_; show wpAny _ _ ((compStart (.ListComp elt [⟨tg, iter, ifs, 0⟩, ⟨tg2, iter2, ifs2, 0⟩] scope pos) 1 it acc env).onRaise (fun x => do noteFrame x env; standAt theWindowsPlace)) _ _ s
 refine wpAny_notedAt ?_; unfold compStart; show wpAny _ _ (ask >>= _) _ _ s
 refine wpAny_bind (wpAny_askSetting (wpAny_ite ?_))
 split
 ·first
   | exact wpAny_bind (wpAny_pure (wpAny_pure (And.intro rfl h0)))
   | exact wpAny_pure (And.intro rfl h0)
 ·first
   | exact wpAny_bind (wpAny_rule (wpAny_bind (wpAny_standAt (wpAny_bind (wpAny_mono h (fun it' s' h' => wpAny_pure (And.intro rfl h')) fun _ _ x => x)))))
   | (refine wpAny_bind (wpAny_rule ?_); show wpAny _ _ (standAt iter2.pos >>= _) _ _ s; exact wpAny_bind (wpAny_standAt (wpAny_bind (wpAny_mono h (fun it' s' h' => wpAny_pure (And.intro rfl h')) fun _ _ x => x))))
theorem Xf {elt tg iter tg2 iter2 : Expr} {ifs ifs2 : List Expr} {scope : Scope} {pos : Pos} {it acc : Value} {env : Env} (I : Nat → Shared → Prop) (hs : ∀ x, foldedSetIterable iter2 env x = pure x)
  (turn : ∀ n s, I n s → wpAny (model prog w) A (pyNext it) (fun r s₁ => match r with
   | none => R (.ok .next) s₁
   | some v => wpAny (model prog w) A (letOwnedTupleGo tg it v) (fun _ s₀ => wpAny (model prog w) A (assign tg env v) (fun _ s₂ =>
     wpAny (model prog w) A (forIn ifs true fun c r => if r = true then do let ok ← isTrue c env (eval c env); pure (ForInStep.yield ok) else pure (ForInStep.yield r)) (fun ok s₃ =>
      if ok = true then wpAny (model prog w) A (eval iter2 env) (fun x s₄ =>
       wpAny (model prog w) A (pyIter x) (fun it2 s₅ => codeAny (model prog w) A (.compStart (.ListComp elt [⟨tg, iter, ifs, 0⟩, ⟨tg2, iter2, ifs2, 0⟩] scope pos) 1 it2 acc env) (fun r s₆ => r = .ok .next ∧ ∃ m, m < n ∧ I m s₆) s₅) (fun _ _ => False) s₄) (fun _ _ => False) s₃
      else ∃ m, m < n ∧ I m s₃) (fun _ _ => False) s₂) (fun _ _ => False) s₀) (fun _ _ => False) s₁) (fun _ _ => False) s)
  (n : Nat) (h : I n s) :
  codeAny (model prog w) A (.compLoop (.ListComp elt [⟨tg, iter, ifs, 0⟩, ⟨tg2, iter2, ifs2, 0⟩] scope pos) 0 it acc env) R s := by
 have ff : ∀ {E : Value → Shared → Prop} (x : Value) (s : Shared), False → E x s := fun _ _ z => z.elim
 refine codeAny_loop rfl I (fun n s hI => ?_) n h; show wpAny _ A ((compTurn (.ListComp elt [⟨tg, iter, ifs, 0⟩, ⟨tg2, iter2, ifs2, 0⟩] scope pos) 0 it acc env).onRaise (fun x => do noteFrame x env; theTreesLotGoes x)) _ _ s
 refine wpAny_noted ?_; rw [d8]; refine wpAny_bind (wpAny_standAt (wpAny_bind (wpAny_mono (turn n s hI) (fun r s₁ h₁ => ?_) ff)))
 cases r with
 | none => exact wpAny_pure h₁
 | some v =>
  refine wpAny_bind (wpAny_mono h₁ (fun _ s₀ h₀ => ?_) ff); refine wpAny_bind (wpAny_mono h₀ (fun _ s₂ h₂ => wpAny_bind (wpAny_mono h₂ (fun ok s₃ h₃ => ?_) ff)) ff)
  cases ok with
  | true =>
   simp only [if_true] at h₃ ⊢; refine wpAny_bind (wpAny_mono h₃ (fun x s₄ h₄ => ?_) ff); refine wpAny_bind (wpAny_standAt (wpAny_bind (wpAny_of_eq (hs x) ?_))); refine wpAny_bind (wpAny_holding (wpAny_mono h₄ (fun it2 s₅ h₅ => ?_) ff)); refine wpAny_bind (wpAny_runOwn (codeAny_mono h₅ fun r s₆ ⟨hr, h₆⟩ => ?_)); subst hr; exact wpAny_pure ⟨rfl, h₆⟩
  | false =>
   simp only [Bool.false_eq_true, if_false] at h₃ ⊢; exact wpAny_pure ⟨rfl, h₃⟩
theorem J7 {elt tg iter tg2 iter2 : Expr} {ifs ifs2 : List Expr} {scope : Scope} {pos : Pos} {it acc : Value} {env : Env} {E : Value → Shared → Prop} (hE : ∀ x s, E x s → False) (I : Nat → Shared → Prop)
  (turn : ∀ n s, I n s → wpAny (model prog w) A (pyNext it) (fun r s₁ => match r with
   | none => R (.ok .next) s₁
   | some v => wpAny (model prog w) A (letOwnedTupleGo tg2 it v) (fun _ s₀ => wpAny (model prog w) A (assign tg2 env v) (fun _ s₂ =>
     wpAny (model prog w) A (forIn ifs2 true fun c r => if r = true then do let ok ← isTrue c env (eval c env); pure (ForInStep.yield ok) else pure (ForInStep.yield r)) (fun ok s₃ =>
      if ok = true then wpAny (model prog w) A (eval elt env) (fun x s₄ =>
       wpAny (model prog w) A (call (.builtin "list.append") [acc, x]) (fun _ s₅ => ∃ m, m < n ∧ I m s₅) E s₄) E s₃
      else ∃ m, m < n ∧ I m s₃) E s₂) E s₀) E s₁) E s)
  (n : Nat) (h : I n s) :
  codeAny (model prog w) A (.compLoop (.ListComp elt [⟨tg, iter, ifs, 0⟩, ⟨tg2, iter2, ifs2, 0⟩] scope pos) 1 it acc env) R s := by
 have ff : ∀ {E' : Value → Shared → Prop} (x : Value) (s : Shared), E x s → E' x s := fun x s z => (hE x s z).elim
 refine codeAny_loop rfl I (fun n s hI => ?_) n h; show wpAny _ A ((compTurn (.ListComp elt [⟨tg, iter, ifs, 0⟩, ⟨tg2, iter2, ifs2, 0⟩] scope pos) 1 it acc env).onRaise (fun x => do noteFrame x env; theTreesLotGoes x)) _ _ s
 refine wpAny_noted ?_; rw [V5]; refine wpAny_bind (wpAny_standAt (wpAny_bind (wpAny_mono (turn n s hI) (fun r s₁ h₁ => ?_) ff)))
 cases r with
 | none => exact wpAny_pure h₁
 | some v =>
  refine wpAny_bind (wpAny_mono h₁ (fun _ s₀ h₀ => ?_) ff); refine wpAny_bind (wpAny_mono h₀ (fun _ s₂ h₂ => wpAny_bind (wpAny_mono h₂ (fun ok s₃ h₃ => ?_) ff)) ff)
  cases ok with
  | true =>
   simp only [if_true] at h₃ ⊢; refine wpAny_bind (wpAny_bind (wpAny_mono h₃ (fun x s₄ h₄ => wpAny_bind (wpAny_mono h₄ (fun _ s₅ h₅ => wpAny_pure (wpAny_pure ⟨rfl, h₅⟩)) ff)) ff))
  | false =>
   simp only [Bool.false_eq_true, if_false] at h₃ ⊢; exact wpAny_pure ⟨rfl, h₃⟩
end
abbrev rZ := D → List PyData → aY → Mu → (List PyData → aY → Mu → Prop) → Prop
def cH (st : rZ) : List D → List PyData → aY → Mu → (List PyData → aY → Mu → Prop) → Prop
 | [], acc, d, m, Q => Q acc d m
 | x :: xs, acc, d, m, Q => st x acc d m fun acc' d' m' => cH st xs acc' d' m' Q
def stepI (g : DG) (t : DT) (f : DE) : rZ := fun x acc d m Q => g x d m fun d1 m1 => t d1 m1 fun b m2 => if b = true then f d1 m2 fun y m3 => ∃ p, y = .dat p ∧ acc.length < sizeLine ∧ Q (acc ++ [p]) d1 m3 else Q acc d1 m2
def fH (g : DG) (t : DT) (fi2 : DI) (st : rZ) : rZ := fun x acc d m Q => g x d m fun d1 m1 => t d1 m1 fun b m2 => if b = true then fi2 d1 m2 fun ys m3 => cH st ys acc d1 m3 Q else Q acc d1 m2
@[simp] def tX (src : List (Option Nat)) (fi : DI) (g : DG) (t : DT) (fi2 : DI) (g2 : DG) (t2 : DT) (f : DE) : DE := fun d m Q => fi d m fun xs m1 => cH (fH g t fi2 (stepI g2 t2 f)) xs [] (bT src d) m1 fun ps _ m2 => Q (.dat (.list ps)) m2
structure ExtW (K : PySem.W.Frag) (Z : Addr → Prop) (D : Addr) (m : Mu) (H : Hp) (m' : Mu) (H' : Hp) : Prop where
 t : ∀ a vs, SqT K H a vs → SqT K H' a vs
 l : ∀ a vs, (m a = none ∧ ¬ aR Z D a) → SqL K H a vs → m' a = none ∧ SqL K H' a vs
 z : ∀ a, Z a → H' a = H a
 c : ∀ a, (m a).isSome = true → (m' a).isSome = true
 fz : ∀ a o u, H a = some (.frz o u) → H' a = some (.frz o u)
 fm : ∀ a, rK (m a) = true → m' a = m a
section
variable {K : PySem.W.Frag} {Z : Addr → Prop} {m m1 m' m2 : Mu} {H H1 H' H2 : Hp} {D : Addr} {ys zs : List V}
theorem ExtW.refl : ExtW K Z D m H m H := ⟨fun _ _ h => h, fun _ _ h1 h2 => ⟨h1.1, h2⟩, fun _ _ => rfl, fun _ h => h, fun _ _ _ h => h, fun _ _ => rfl⟩
theorem ExtW.y (e : ExtW K Z D m H m' H') : ExtY K (aR Z D) m H m' H' := ⟨e.t, e.l, e.fz⟩
theorem ExtW.trans (a : ExtW K Z D m H m' H') (b : ExtW K Z D m' H' m2 H2) : ExtW K Z D m H m2 H2 :=
 ⟨fun x vs h => b.t x vs (a.t x vs h), fun x vs h1 h2 => let ⟨q1, q2⟩ := a.l x vs h1 h2; b.l x vs ⟨q1, h1.2⟩ q2, fun x h => (b.z x h).trans (a.z x h), fun x h => b.c x (a.c x h), fun x o u h => b.fz x o u (a.fz x o u h), fun x h => by
  have q := a.fm x h
  rw [b.fm x (by rw [q]; exact h), q]⟩
theorem Ext.w (e : Ext K (aR Z D) m H m' H') : ExtW K Z D m H m' H' := ⟨e.t, e.l, fun a h => e.z a (.inl h), e.c, e.fz, e.fm⟩
theorem ExtW.put (hz : ¬ Z D) (hD : H D = some (.lst ys)) : ExtW K Z D m H m (aN H D (.lst zs)) :=
 ⟨oP hD, fun a vs h1 h2 => ⟨h1.1, Bm (fun e => h1.2 (.inr e)) h2⟩, fun a h => by
  have ne : a ≠ D := by rintro rfl; exact hz h
  rw [bG ne], fun _ h => h, fun a o u h => by
  rw [bG (by rintro rfl; rw [hD] at h; cases h)]
  exact h, fun _ _ => rfl⟩
theorem ExtW.rd {x : DL.D} {v : V} (e : ExtW K Z D m H m' H') (h : RD K (aR Z D) m H x v) : RD K (aR Z D) m' H' x v := by
 cases x with
 | dat p => exact RP.tr e.t (fun a vs h1 h2 => let ⟨q1, q2⟩ := e.l a vs h1 h2; ⟨⟨q1, h1.2⟩, q2⟩) p v h
 | cel a => exact ⟨h.1, e.c a h.2⟩
theorem Qi (e : Ext K Z m1 H1 m H) (hD : H1 D = none) (hk : K.lookup D = none) (e2 : ExtW K Z D m H m' H') : Ext K Z m1 H1 m' H' :=
 ⟨fun a vs h => e2.t a vs (e.t a vs h), fun a vs h1 h2 => let ⟨q1, q2⟩ := e.l a vs h1 h2; e2.l a vs ⟨q1, fun z => z.elim h1.2 (SqL.ne hD hk h2)⟩ q2, fun a h => (e2.z a h).trans (e.z a h), fun a h => e2.c a (e.c a h), fun a o u h => e2.fz a o u (e.fz a o u h), fun a h => by
  have q := e.fm a h
  rw [e2.fm a (by rw [q]; exact h), q]⟩
end
section
variable {Y : Cx} {tg iter tg2 iter2 elt : Expr} {ifs ifs2 : List Expr} {scope : Scope} {fi2 : DI} {g2 : DG} {t2 : DT} {f : DE} {pos : Pos}
theorem X4 (hc : Y.calm = true) (hx : ∀ x s, Y.xe x s → False) (hi : PI Y tg2 iter2 (LI Y.K fi2)) (hg : PG Y tg2 (LG Y.K g2)) (ht : PF Y ifs2 (LT Y.K t2)) (he : PE Y elt (LE Y.K f))
  {pins : List (Addr × Obj)} {s : Shared} {σ : L2.St} {H : Hp} {Z : Addr → Prop} {D : Addr} {acc : List PyData} {ys : List V} {d : aY} {m : Mu} {Q : List PyData → aY → Mu → Prop}
  (I : Inv Y pins σ H s) (hz : ¬ Z D) (hD : H D = some (.lst ys)) (racc : RPs Y.K (aR Z D) m H acc ys) (ok : Ok Y.K (aR Z D) m H) (rs : RS Y.K (aR Z D) m H d σ) (h : fi2 d m fun xs m1 => cH (stepI g2 t2 f) xs acc d m1 Q) :
  wpAny (model Y.prog Y.w) Y.A (eval iter2 Y.env) (fun x s4 => wpAny (model Y.prog Y.w) Y.A (pyIter x) (fun it2 s5 => codeAny (model Y.prog Y.w) Y.A (.compStart (.ListComp elt [⟨tg, iter, ifs, 0⟩, ⟨tg2, iter2, ifs2, 0⟩] scope pos) 1 it2 (.ref D) Y.env)
   (fun r s6 => r = .ok .next ∧ ∃ σ' H' ys' acc' d' m', Inv Y pins σ' H' s6 ∧ H' D = some (.lst ys') ∧ RPs Y.K (aR Z D) m' H' acc' ys' ∧ ExtW Y.K Z D m H m' H' ∧ Ok Y.K (aR Z D) m' H' ∧ RS Y.K (aR Z D) m' H' d' σ' ∧ Q acc' d' m') s5) Y.xe s4) Y.xe s := by
 refine aL (hi pins s σ H (fun J H1 => ∃ xs m1, Ext Y.K (aR Z D) m H m1 H1 ∧ Ok Y.K (aR Z D) m1 H1 ∧ pH Y.K (aR Z D) m1 H1 xs J ∧ cH (stepI g2 t2 f) xs acc d m1 Q) I
  ⟨aR Z D, d, m, _, ok, rs, h, fun xs m1 H1 J q e1 ok1 y1 => ⟨xs, m1, e1, ok1, y1, q⟩⟩) fun xv s₁ h₁ => aL h₁ fun itv s₂ h₂ => ?_
 obtain ⟨it, fp, tn, J, H2, eit, I2, T, st2, f2, xs, m1, e1, ok1, yl, lp⟩ := h₂; subst eit; have hD2 : H2 D = some (.lst ys) := (e1.z _ (.inr rfl)).trans hD
 have stat : ∀ {H' : Hp}, (∀ b ∈ fp, H' b = none) → ∀ b ∈ fp, dR Y pins H' b := fun hn b hb => ⟨hn b hb, (f2 b hb).2⟩
 have loop : codeAny (model Y.prog Y.w) Y.A (.compLoop (.ListComp elt [⟨tg, iter, ifs, 0⟩, ⟨tg2, iter2, ifs2, 0⟩] scope pos) 1 (.ref it) (.ref D) Y.env)
   (fun r s6 => r = .ok .next ∧ ∃ σ' H' ys' acc' d' m', Inv Y pins σ' H' s6 ∧ H' D = some (.lst ys') ∧ RPs Y.K (aR Z D) m' H' acc' ys' ∧ ExtW Y.K Z D m H m' H' ∧ Ok Y.K (aR Z D) m' H' ∧ RS Y.K (aR Z D) m' H' d' σ' ∧ Q acc' d' m') s₂ := by
  refine J7 hx (fun n s' => ∃ (i : Nat) (ys : List V) (acc : List PyData) (d' : aY) (m' : Mu) (σ' : L2.St) (H' : Hp), n = xs.length - i ∧ i ≤ xs.length ∧ Inv Y pins σ' H' s' ∧ tn i s'.heap ∧ (∀ b ∈ fp, H' b = none) ∧
   H' D = some (.lst ys) ∧ RPs Y.K (aR Z D) m' H' acc ys ∧ ExtW Y.K Z D m1 H2 m' H' ∧ Ok Y.K (aR Z D) m' H' ∧ RS Y.K (aR Z D) m' H' d' σ' ∧
   cH (stepI g2 t2 f) (xs.drop i) acc d' m' Q) ?_ xs.length ⟨0, ys, acc, d, m1, σ, H2, by simp, Nat.zero_le _, I2, st2, fun b hb => (f2 b hb).1, hD2, RPs.ext e1 _ _ racc, ExtW.refl, ok1, rs.ext e1, by simpa using lp⟩
  rintro n s4 ⟨i, ys, acc, d', m', σ', H', rfl, hi', I5, st5, fr5, hDy, racc, eX, ok5, rs5, lp5⟩; obtain ⟨y1, y2⟩ := yl m' H' eX.y
  by_cases hlt : i < xs.length
  ·rw [List.drop_eq_getElem_cons hlt] at lp5; obtain ⟨go, yd⟩ := y1 i xs[i] (List.getElem?_eq_getElem hlt); refine aL (T.item Y rfl rfl rfl hc i pins s4 σ' H' Y.xe I5 (stat fr5) st5 go) fun r s5 hq0 => ?_; obtain ⟨u, hr, h5⟩ := hq0; subst hr; refine aL h5 fun _ s6 hq0 => ?_; obtain ⟨x, H6, I6, r6, yy, st6, fr6⟩ := hq0; have yy' := yd x H6 yy
   have e56 : Ext Y.K (aR Z D) m' H' m' H6 := ok5.ext yy'.same
   have rv := yy'.rd (fun d v h => eX.rd h) ok5
   have hDy := yy'.same _ _ hDy
   have racc := RPs.ext e56 _ _ racc
   have eX := eX.trans e56.w
   have rs5 := rs5.ext e56
   have ok5 := ok5.grow yy'.same
   have I6' := I6.pinned (stat fr6) (T.obj _ _ st6)
   have over : ∀ {s7 : Shared} {σ7 : L2.St} {H7 : Hp} {ys7 : List V} {acc7 : List PyData} {d7 : aY} {m7 : Mu}, Inv Y (pins ++ kF fp s6.heap) σ7 H7 s7 → H7 D = some (.lst ys7) → RPs Y.K (aR Z D) m7 H7 acc7 ys7 →
     ExtW Y.K Z D m1 H2 m7 H7 → Ok Y.K (aR Z D) m7 H7 → RS Y.K (aR Z D) m7 H7 d7 σ7 → (cH (stepI g2 t2 f) (xs.drop (i + 1)) acc7 d7 m7 Q) →
     ∃ n, n < xs.length - i ∧ ∃ (i : Nat) (ys : List V) (acc : List PyData) (d' : aY) (m' : Mu) (σ' : L2.St) (H' : Hp), n = xs.length - i ∧ i ≤ xs.length ∧ Inv Y pins σ' H' s7 ∧ tn i s7.heap ∧ (∀ b ∈ fp, H' b = none) ∧
      H' D = some (.lst ys) ∧ RPs Y.K (aR Z D) m' H' acc ys ∧ ExtW Y.K Z D m1 H2 m' H' ∧ Ok Y.K (aR Z D) m' H' ∧ RS Y.K (aR Z D) m' H' d' σ' ∧
      cH (stepI g2 t2 f) (xs.drop i) acc d' m' Q := by
    intro s7 σ7 H7 ys7 acc7 d7 m7 I7 a1 a2 a3 a4 a5 a6; refine ⟨xs.length - (i + 1), by omega, i + 1, ys7, acc7, d7, m7, σ7, H7, rfl, hlt, I7.unpinned, T.keep _ _ _ st6 fun b hb o e => (I7.pin (b, o) (List.mem_append_right _ (List.mem_append_right _ (jD hb e)))).1, fun b hb => ?_, a1, a2, a3, a4, a5, a6⟩
    obtain ⟨o, e, dd⟩ := T.obj _ _ st6 b hb; exact (I7.pin (b, o) (List.mem_append_right _ (List.mem_append_right _ (jD hb e)))).2.1
   refine aL (hg _ s6 σ' _ x u (fun σ7 H7 => ∃ d7 m7, Ext Y.K (aR Z D) m' H6 m7 H7 ∧ Ok Y.K (aR Z D) m7 H7 ∧ RS Y.K (aR Z D) m7 H7 d7 σ7 ∧
    t2 d7 m7 fun b m2 => if b = true then f d7 m2 fun y m3 => ∃ p, y = .dat p ∧ acc.length < sizeLine ∧ cH (stepI g2 t2 f) (xs.drop (i + 1)) (acc ++ [p]) d7 m3 Q else cH (stepI g2 t2 f) (xs.drop (i + 1)) acc d7 m2 Q) I6' r6
    ⟨_, xs[i], d', m', _, ok5, rs5, rv, lp5, fun d7 m7 σ7 H7 q7 e7 ok7 rs7 => ⟨d7, m7, e7, ok7, rs7, q7⟩⟩) fun _ s7 hq0 => ?_
   obtain ⟨σ7, H7, I7, d7, m7, e7, ok7, rs7, q7⟩ := hq0; refine aL (ht _ s7 σ7 H7 (fun b H8 => ∃ m8, Ext Y.K (aR Z D) m7 H7 m8 H8 ∧ Ok Y.K (aR Z D) m8 H8 ∧
    if b = true then f d7 m8 fun y m3 => ∃ p, y = .dat p ∧ acc.length < sizeLine ∧ cH (stepI g2 t2 f) (xs.drop (i + 1)) (acc ++ [p]) d7 m3 Q else cH (stepI g2 t2 f) (xs.drop (i + 1)) acc d7 m8 Q) I7
    ⟨_, d7, m7, _, ok7, rs7, q7, fun b m8 H8 q8 e8 ok8 => ⟨m8, e8, ok8, q8⟩⟩) fun b s8 hq0 => ?_
   obtain ⟨H8, I8, m8, e8, ok8, q8⟩ := hq0; have e68 := e7.trans e8
   have hD8 : H8 D = some (.lst ys) := (e68.z _ (.inr rfl)).trans hDy
   cases b with
   | false =>
    rw [if_neg Bool.false_ne_true] at q8; exact over I8 hD8 (RPs.ext e68 _ _ racc) (eX.trans e68.w) ok8 (rs7.ext e8) q8
   | true =>
    rw [if_pos rfl] at q8; refine aL (he _ s8 σ7 H8 (fun v H9 => ∃ p m9, RP Y.K (aR Z D) m9 H9 p v ∧ Ext Y.K (aR Z D) m8 H8 m9 H9 ∧ Ok Y.K (aR Z D) m9 H9 ∧ acc.length < sizeLine ∧ cH (stepI g2 t2 f) (xs.drop (i + 1)) (acc ++ [p]) d7 m9 Q) I8
     ⟨_, d7, m8, _, ok8, rs7.ext e8, q8, fun y m9 v H9 hq1 e9 ok9 r9 => by
      obtain ⟨p, ey, hz, q9⟩ := hq1; subst ey; exact ⟨p, m9, r9, e9, ok9, hz, q9⟩⟩) fun yv s9 hq0 => ?_
    obtain ⟨y, H9, I9, ry, p, m9, rp9, e9, ok9, hz9, q9⟩ := hq0; have e69 := e68.trans e9
    have hD9 : H9 D = some (.lst ys) := (e69.z _ (.inr rfl)).trans hDy
    have racc9 := RPs.ext e69 _ _ racc
    have rs9 := (rs7.ext e8).ext e9
    refine aL (Jv _ s9 σ7 H9 (.ref D) [y] (.ref D) [yv] (fun v H10 => H10 = aN H9 D (.lst (ys ++ [y]))) I9 rfl (.cons ry .nil) ⟨_, ys, y, rfl, rfl, hD9, by rw [racc9.length]; exact hz9, rfl⟩) fun rv s10 hq0 => ?_
    obtain ⟨v10, H10, I10, _, e10⟩ := hq0; subst e10; refine over I10 cZ ?_ ((eX.trans e69.w).trans (ExtW.put hz hD9)) (Ev ok9 hD9) ⟨rs9.1, fun j z hj => ?_⟩ q9
    ·exact RPs.tr (oP hD9) wM _ _ (racc9.append (by simp only [RPs]; exact ⟨y, [], rfl, rp9, rfl⟩))
    ·obtain ⟨v, a1, a2⟩ := rs9.2 j z hj; exact ⟨v, a1, Lf hD9 a2⟩
  ·have e : i = xs.length := by omega
   subst e; rw [List.drop_length] at lp5; refine aL (T.done Y rfl rfl rfl hc _ pins s4 σ' H' Y.xe I5 (stat fr5) st5 y2) fun r s5 hq0 => ?_; obtain ⟨hr, I6⟩ := hq0; subst hr; exact ⟨rfl, σ', H', ys, acc, d', m', I6, hDy, racc, (e1.w).trans eX, ok5, rs5, lp5⟩
 exact Yh loop (T.self _ 0 _ _ _ st2 loop)
end
end DL
namespace DL
open PySem PySem.Spec PyProof.Rows L2
section
variable {X : Cx} {tg iter tg2 iter2 elt : Expr} {ifs ifs2 : List Expr} {scope : Scope} {NC : List Str} {fi fi2 : DI} {g g2 : DG} {t t2 : DT} {f : DE} {pos : Pos}
theorem j8 (src : List (Option Nat)) (hc : X.calm = true) (hi : PI X tg iter (LI X.K fi))
  (hg : ∀ cl C s2 H2 pins fp, PG (aW X scope cl C NC s2 H2 pins fp) tg (LG X.K g)) (ht : ∀ cl C s2 H2 pins fp, PF (aW X scope cl C NC s2 H2 pins fp) ifs (LT X.K t)) (hi2 : ∀ cl C s2 H2 pins fp, PI (aW X scope cl C NC s2 H2 pins fp) tg2 iter2 (LI X.K fi2)) (hg2 : ∀ cl C s2 H2 pins fp, PG (aW X scope cl C NC s2 H2 pins fp) tg2 (LG X.K g2)) (ht2 : ∀ cl C s2 H2 pins fp, PF (aW X scope cl C NC s2 H2 pins fp) ifs2 (LT X.K t2))
  (he : ∀ cl C s2 H2 pins fp, PE (aW X scope cl C NC s2 H2 pins fp) elt (LE X.K f)) (hs2 : ∀ cl C x, foldedSetIterable iter2 (compEnvC scope cl C X.env) x = pure x)
  (hkind : scope.kind = .function) (hcell : ∀ y ∈ scope.names, y.2 ≠ .cell) (hnames : ∀ y ∈ scope.names, y.2 = .local → scope.names.lookup y.1 = some .local)
  (hfree : ∀ x, (x, NameKind.free) ∈ scope.names → X.env.kindOf x = some .cell ∨ X.env.kindOf x = some .free) (hsrc : mR X scope NC src)
  (hs : ∀ x, foldedSetIterable iter X.env x = pure x) {use : Option (Value → Sem Unit)} {QQ : Value → Shared → Prop} {pos' : Pos} {pins : List (Addr × Obj)} {s : Shared} {σ : L2.St} {H : Hp} {Z : Addr → Prop} {d : aY} {m : Mu} {RL : List PyData → Mu → Prop}
  (I : Inv X pins σ H s) (ok : Ok X.K Z m H) (rs : RS X.K Z m H d σ) (h : fi d m fun xs m1 => cH (fH g t fi2 (stepI g2 t2 f)) xs [] (bT src d) m1 (fun ps _ m2 => RL ps m2))
  (fin : ∀ (s5 : Shared) (C D : Addr) (H' : Hp) (m' : Mu) (ps : List PyData), RL ps m' → Ext X.K Z m H m' H' → Ok X.K Z m' H' → RD X.K Z m' H' (.dat (.list ps)) (.ref D) → (∃ mm, s5.heap.Ns C mm) → Inv X pins σ H' s5 → Off X pins H' C →
   compPost (model X.prog X.w) X.A X.xe use QQ (.ref D) C (.ok .next) s5) :
  wpAny (model X.prog X.w) X.A (comprehension (.ListComp elt [⟨tg, iter, ifs, 0⟩, ⟨tg2, iter2, ifs2, 0⟩] scope pos) scope X.env pos' (newList []) false (eval iter X.env) use) QQ X.xe s := by
 obtain ⟨cl, hclos, hcl1, hcl2⟩ := Nl (scope := scope) (env := X.env) fun x hx => I.ok.has x (hfree x hx); refine wpAny_comprehension_free (use := use) rfl hs hclos hkind hnames ?_; refine aL (hi pins s σ H (fun J H1 => ∃ xs m1, Ext X.K Z m H m1 H1 ∧ Ok X.K Z m1 H1 ∧ pH X.K Z m1 H1 xs J ∧ cH (fH g t fi2 (stepI g2 t2 f)) xs [] (bT src d) m1 (fun ps _ m2 => RL ps m2)) I
  ⟨Z, d, m, _, ok, rs, h, fun xs m1 H1 J q e1 ok1 y1 => ⟨xs, m1, e1, ok1, y1, q⟩⟩) fun xv s₁ h₁ => aL h₁ fun itv s₂ h₂ => ?_
 obtain ⟨it, fp, tn, J, H2, eit, I2, T, st2, f2, xs, m1, e1, ok1, yl, lp⟩ := h₂; subst eit; refine wpAny_newObj_type (wpAny_newFunctionEnv hcell (by intro y hy; simp at hy) (fun h₁ hns₁ hsb₁ => ?_) hkind)
 dsimp only at hns₁ hsb₁ ⊢
 generalize hH2 : s₂.heap.push { cls := .type "list", dict := none, data := .seq ([] : List Value).toArray } = HP at hns₁ hsb₁ ⊢
 have hC : HP.objs.size = s₂.heap.objs.size + 1 := by rw [← hH2, Heap.size_push]
 have leC : s₂.heap.objs.size ≤ HP.objs.size := by rw [hC]; exact Nat.le_succ _
 have old : ∀ b o, s₂.heap.get? b = some o → h₁.get? b = some o := fun b o e => hsb₁.extBut b o (Nat.ne_of_lt (Nat.lt_of_lt_of_le (Heap.lt_size e) leC)) (Heap.get?_push_of_some _ (hH2 ▸ Heap.get?_push_of_some _ e))
 have hacc : h₁.get? s₂.heap.objs.size = some { cls := .type "list", data := .seq ([] : List Value).toArray } := hsb₁.extBut _ _ (by rw [hC]; exact Nat.ne_of_lt (Nat.lt_succ_self _)) (Heap.get?_push_of_some _ (hH2 ▸ Heap.get?_push_size _ rfl))
 have hD : H2 s₂.heap.objs.size = none := I2.hok.fresh (Nat.le_refl _)
 have hkD : X.K.lookup s₂.heap.objs.size = none := by
  cases e : X.K.lookup s₂.heap.objs.size with
  | none => rfl
  | some o => exact absurd (Heap.lt_size (I2.kIn _ o e)) (Nat.lt_irrefl _)
 have obf : ∀ b ∈ fp, ∃ o, s₂.heap.get? b = some o ∧ ∀ v, o.data ≠ .cell v := T.obj 0 _ st2
 have hσ : ∀ (i : Nat) (x : Str) (v : V), NC[i]? = some x → (bT src σ)[i]? = some (some v) → jX (relabel scope X.env) x → ((relabel scope X.env).names.lookup x = some .cell ∨ (relabel scope X.env).names.lookup x = some .free) ∧ (X.env.kindOf x = some .cell ∨ X.env.kindOf x = some .free) ∧ ∃ j : Nat, X.N[j]? = some x ∧ σ[j]? = some (some v) := fun i x v h1 h2 _ => by
  obtain ⟨j, q1, q2⟩ := Ho h2; obtain ⟨a1, a2, a3⟩ := hsrc.2 i x j h1 q1; exact ⟨a3, hfree x a2, j, a1, q2⟩
 have I4 := fun tk => Hf (cl := cl) (NC := NC) (σ' := bT src σ) (tk := tk) I2 f2 obf hkind hcell hcl1 hcl2 (by unfold bT; rw [List.length_map]; exact hsrc.1.symm) hσ hC hns₁ old hacc
 have st4 : tn 0 h₁ := T.keep 0 _ _ st2 fun b _ o e => old b o e
 -- the loop
 have loop : ∀ s₃ : Shared, s₃ = { s₂ with heap := h₁, toks := s₂.toks + ([] : List (Str × Value)).length } →
   codeAny (model X.prog X.w) X.A (.compLoop (.ListComp elt [⟨tg, iter, ifs, 0⟩, ⟨tg2, iter2, ifs2, 0⟩] scope pos) 0 (.ref it) (.ref s₂.heap.objs.size) (compEnvC scope cl HP.objs.size X.env))
    (compPost (model X.prog X.w) X.A X.xe use QQ (.ref s₂.heap.objs.size) HP.objs.size) s₃ := by
  rintro s₃ rfl; refine Xf (hs := fun x => hs2 _ _ x) (fun n s' => ∃ (i : Nat) (ys : List V) (acc : List PyData) (d' : aY) (m' : Mu) (σ' : L2.St) (H' : Hp), n = xs.length - i ∧ i ≤ xs.length ∧ Inv (aW X scope cl HP.objs.size NC s₂ H2 pins fp) [] σ' H' s' ∧ tn i s'.heap ∧ (∀ b ∈ fp, H' b = none) ∧
   H' s₂.heap.objs.size = some (.lst ys) ∧ RPs X.K (aR Z s₂.heap.objs.size) m' H' acc ys ∧ Ext X.K Z m1 H2 m' H' ∧ Ok X.K (aR Z s₂.heap.objs.size) m' H' ∧ RS X.K (aR Z s₂.heap.objs.size) m' H' d' σ' ∧
   cH (fH g t fi2 (stepI g2 t2 f)) (xs.drop i) acc d' m' (fun ps _ m2 => RL ps m2)) ?_ xs.length ?_
  rotate_left
  ·have rs1 : RS X.K Z m1 H2 (bT src d) (bT src σ) := Lw src (rs.ext e1)
   refine ⟨0, [], [], bT src d, m1, bT src σ, _, by simp, Nat.zero_le _, I4 _, st4, fun b hb => ?_, cZ, by simp [RPs], ok1.ext (cW hD), Js ok1 hD hkD, ⟨rs1.1, fun i x hx => ?_⟩, by simpa using lp⟩
   ·obtain ⟨o, ho, _⟩ := obf b hb; rw [bG (Nat.ne_of_lt (Heap.lt_size ho))]; exact (f2 b hb).1
   ·obtain ⟨v, q1, q2⟩ := rs1.2 i x hx; exact ⟨v, q1, Mb hD hkD q2⟩
  rintro n s4 ⟨i, ys, acc, d', m', σ', H', rfl, hi', I5, st5, fr5, hDy, racc, eX, ok5, rs5, lp5⟩; have stat : ∀ b ∈ fp, dR (aW X scope cl HP.objs.size NC s₂ H2 pins fp) [] H' b := fun b hb => by
   obtain ⟨g0, g1, g2, g3, g4, g5⟩ := f2 b hb; obtain ⟨o, ho, _⟩ := obf b hb; refine ⟨fr5 b hb, Nat.ne_of_lt (Nat.lt_of_lt_of_le (Heap.lt_size ho) leC), fun z => ?_, .inl hb, fun x c e => g4 x c (hcl1 (x, c) (vE e)), fun p hp => ?_⟩
   ·rcases List.mem_cons.mp (I2.stkSub b z) with q | q
    ·exact g1 q
    ·exact g2 q
   ·rcases List.mem_append.mp hp with q | q
    ·exact g5 p q
    ·cases q
  obtain ⟨y1, y2⟩ := yl m' H' eX.y
  by_cases hlt : i < xs.length
  ·rw [List.drop_eq_getElem_cons hlt] at lp5; obtain ⟨go, yd⟩ := y1 i xs[i] (List.getElem?_eq_getElem hlt); refine aL (T.item (aW X scope cl HP.objs.size NC s₂ H2 pins fp) rfl rfl rfl hc i [] s4 σ' H' (fun _ _ => False) I5 stat st5 go) fun r s5 hq0 => ?_; obtain ⟨u, hr, h5⟩ := hq0; subst hr; refine aL h5 fun _ s6 hq0 => ?_; obtain ⟨x, H6, I6, r6, yy, st6, fr6⟩ := hq0; have yy' := yd x H6 yy
   have e56 : Ext X.K (aR Z s₂.heap.objs.size) m' H' m' H6 := ok5.ext yy'.same
   have rv := yy'.rd (fun d v h => Gb hD hkD eX h) ok5
   have hDy := yy'.same _ _ hDy
   have racc := RPs.ext e56 _ _ racc
   have eX := pS eX hD hkD e56
   have rs5 := rs5.ext e56
   have ok5 := ok5.grow yy'.same
   have stat : ∀ b ∈ fp, dR (aW X scope cl HP.objs.size NC s₂ H2 pins fp) [] H6 b := fun b hb => ⟨fr6 b hb, (stat b hb).2⟩
   have I6' := I6.pinned stat (T.obj _ _ st6)
   -- what stands when a turn is over
   have over : ∀ {s7 : Shared} {σ7 : L2.St} {H7 : Hp} {ys7 : List V} {acc7 : List PyData} {d7 : aY} {m7 : Mu}, Inv (aW X scope cl HP.objs.size NC s₂ H2 pins fp) ([] ++ kF fp s6.heap) σ7 H7 s7 → H7 s₂.heap.objs.size = some (.lst ys7) → RPs X.K (aR Z s₂.heap.objs.size) m7 H7 acc7 ys7 →
     Ext X.K Z m1 H2 m7 H7 → Ok X.K (aR Z s₂.heap.objs.size) m7 H7 → RS X.K (aR Z s₂.heap.objs.size) m7 H7 d7 σ7 → (cH (fH g t fi2 (stepI g2 t2 f)) (xs.drop (i + 1)) acc7 d7 m7 (fun ps _ m2 => RL ps m2)) →
     ∃ n, n < xs.length - i ∧ ∃ (i : Nat) (ys : List V) (acc : List PyData) (d' : aY) (m' : Mu) (σ' : L2.St) (H' : Hp), n = xs.length - i ∧ i ≤ xs.length ∧ Inv (aW X scope cl HP.objs.size NC s₂ H2 pins fp) [] σ' H' s7 ∧ tn i s7.heap ∧ (∀ b ∈ fp, H' b = none) ∧
      H' s₂.heap.objs.size = some (.lst ys) ∧ RPs X.K (aR Z s₂.heap.objs.size) m' H' acc ys ∧ Ext X.K Z m1 H2 m' H' ∧ Ok X.K (aR Z s₂.heap.objs.size) m' H' ∧ RS X.K (aR Z s₂.heap.objs.size) m' H' d' σ' ∧
      cH (fH g t fi2 (stepI g2 t2 f)) (xs.drop i) acc d' m' (fun ps _ m2 => RL ps m2) := by
    intro s7 σ7 H7 ys7 acc7 d7 m7 I7 a1 a2 a3 a4 a5 a6; refine ⟨xs.length - (i + 1), by omega, i + 1, ys7, acc7, d7, m7, σ7, H7, rfl, hlt, I7.unpinned, T.keep _ _ _ st6 fun b hb o e => (I7.pin (b, o) (List.mem_append_right _ (List.mem_append_right _ (jD hb e)))).1, fun b hb => ?_, a1, a2, a3, a4, a5, a6⟩
    obtain ⟨o, e, dd⟩ := T.obj _ _ st6 b hb; exact (I7.pin (b, o) (List.mem_append_right _ (List.mem_append_right _ (jD hb e)))).2.1
   refine aL (hg cl _ s₂ H2 pins fp _ s6 σ' _ x u (fun σ7 H7 => ∃ d7 m7, Ext X.K (aR Z s₂.heap.objs.size) m' H6 m7 H7 ∧ Ok X.K (aR Z s₂.heap.objs.size) m7 H7 ∧ RS X.K (aR Z s₂.heap.objs.size) m7 H7 d7 σ7 ∧
    t d7 m7 fun b m2 => if b = true then fi2 d7 m2 fun zs m3 => cH (stepI g2 t2 f) zs acc d7 m3 (fun acc' d' m' => cH (fH g t fi2 (stepI g2 t2 f)) (xs.drop (i + 1)) acc' d' m' (fun ps _ m2 => RL ps m2)) else cH (fH g t fi2 (stepI g2 t2 f)) (xs.drop (i + 1)) acc d7 m2 (fun ps _ m2 => RL ps m2)) I6' r6
    ⟨_, xs[i], d', m', _, ok5, rs5, rv, lp5, fun d7 m7 σ7 H7 q7 e7 ok7 rs7 => ⟨d7, m7, e7, ok7, rs7, q7⟩⟩) fun _ s7 hq0 => ?_
   obtain ⟨σ7, H7, I7, d7, m7, e7, ok7, rs7, q7⟩ := hq0; refine aL (ht cl _ s₂ H2 pins fp _ s7 σ7 H7 (fun b H8 => ∃ m8, Ext X.K (aR Z s₂.heap.objs.size) m7 H7 m8 H8 ∧ Ok X.K (aR Z s₂.heap.objs.size) m8 H8 ∧
    if b = true then fi2 d7 m8 fun zs m3 => cH (stepI g2 t2 f) zs acc d7 m3 (fun acc' d' m' => cH (fH g t fi2 (stepI g2 t2 f)) (xs.drop (i + 1)) acc' d' m' (fun ps _ m2 => RL ps m2)) else cH (fH g t fi2 (stepI g2 t2 f)) (xs.drop (i + 1)) acc d7 m8 (fun ps _ m2 => RL ps m2)) I7
    ⟨_, d7, m7, _, ok7, rs7, q7, fun b m8 H8 q8 e8 ok8 => ⟨m8, e8, ok8, q8⟩⟩) fun b s8 hq0 => ?_
   obtain ⟨H8, I8, m8, e8, ok8, q8⟩ := hq0; have e68 := e7.trans e8
   have hD8 : H8 s₂.heap.objs.size = some (.lst ys) := (e68.z _ (.inr rfl)).trans hDy
   cases b with
   | false =>
    rw [if_neg Bool.false_ne_true] at q8; exact over I8 hD8 (RPs.ext e68 _ _ racc) (pS eX hD hkD e68) ok8 (rs7.ext e8) q8
   | true =>
    rw [if_pos rfl] at q8; rw [if_pos rfl]; have nz : ¬ Z s₂.heap.objs.size := fun z => (ok1.z _ z).2 hD
    have ic := X4 (Y := aW X scope cl HP.objs.size NC s₂ H2 pins fp) (tg := tg) (iter := iter) (ifs := ifs) (scope := scope) (pos := pos) hc (fun _ _ z => z) (hi2 cl _ s₂ H2 pins fp) (hg2 cl _ s₂ H2 pins fp) (ht2 cl _ s₂ H2 pins fp) (he cl _ s₂ H2 pins fp) I8 nz hD8 (RPs.ext e68 _ _ racc) ok8 (rs7.ext e8) q8
    refine aL ic fun xv9 s9 h9 => aL h9 fun it9 s10 h10 => codeAny_mono h10 ?_; rintro r s11 ⟨hr, σ', H', ys', acc', d', m', I11, hD11, racc11, e11, ok11, rs11, q11⟩; exact ⟨hr, over I11 hD11 racc11 (Qi (pS eX hD hkD e68) hD hkD e11) ok11 rs11 q11⟩
  ·have e : i = xs.length := by omega
   subst e; rw [List.drop_length] at lp5; refine aL (T.done (aW X scope cl HP.objs.size NC s₂ H2 pins fp) rfl rfl rfl hc _ [] s4 σ' H' (fun _ _ => False) I5 stat st5 y2) fun r s5 hq0 => ?_; obtain ⟨hr, I6⟩ := hq0; subst hr; have IX := Hg I2 f2 I6 leC (Heap.SameBut.refl _ _)
   have nz : ¬ Z s₂.heap.objs.size := fun z => (ok1.z _ z).2 hD
   refine fin s5 HP.objs.size s₂.heap.objs.size H' m' acc lp5 (e1.trans eX) (Gg ok5) ?_ ⟨_, I6.loc.choose_spec.1⟩ IX ⟨I6.free, Nat.ne_of_gt (Nat.lt_of_lt_of_le I2.lt leC), Nat.le_trans I2.sz leC, fun x c e => ?_, fun p hp => ?_⟩
   ·simp only [RD, RP]; exact ⟨_, ys, rfl, ⟨(ok5.z _ (.inr rfl)).1, nz⟩, .inl (.inl hDy), RPs.tr (fun _ _ q => q) (fun a vs q1 q2 => ⟨⟨q1.1, fun z => q1.2 (.inl z)⟩, q2⟩) _ _ racc⟩
   ·obtain ⟨v, q⟩ := I2.cell x c e; exact Nat.ne_of_lt (Nat.lt_of_lt_of_le q.lt leC)
   ·exact Nat.ne_of_lt (Nat.lt_of_lt_of_le (Heap.lt_size (I2.pin p hp).1) leC)
 exact codeAny_compStart_list (loop _ rfl) (T.self _ 0 _ _ _ st4 (loop _ rfl))
theorem j1 (src : List (Option Nat)) (hc : X.calm = true) (hi : PI X tg iter (LI X.K fi))
  (hg : ∀ cl C s2 H2 pins fp, PG (aW X scope cl C NC s2 H2 pins fp) tg (LG X.K g)) (ht : ∀ cl C s2 H2 pins fp, PF (aW X scope cl C NC s2 H2 pins fp) ifs (LT X.K t)) (hi2 : ∀ cl C s2 H2 pins fp, PI (aW X scope cl C NC s2 H2 pins fp) tg2 iter2 (LI X.K fi2)) (hg2 : ∀ cl C s2 H2 pins fp, PG (aW X scope cl C NC s2 H2 pins fp) tg2 (LG X.K g2)) (ht2 : ∀ cl C s2 H2 pins fp, PF (aW X scope cl C NC s2 H2 pins fp) ifs2 (LT X.K t2))
  (he : ∀ cl C s2 H2 pins fp, PE (aW X scope cl C NC s2 H2 pins fp) elt (LE X.K f)) (hs2 : ∀ cl C x, foldedSetIterable iter2 (compEnvC scope cl C X.env) x = pure x)
  (hkind : scope.kind = .function) (hcell : ∀ y ∈ scope.names, y.2 ≠ .cell) (hnames : ∀ y ∈ scope.names, y.2 = .local → scope.names.lookup y.1 = some .local)
  (hfree : ∀ x, (x, NameKind.free) ∈ scope.names → X.env.kindOf x = some .cell ∨ X.env.kindOf x = some .free) (hsrc : mR X scope NC src)
  (hs : ∀ x, foldedSetIterable iter X.env x = pure x := by intro _; rfl) :
  PE X (.ListComp elt [⟨tg, iter, ifs, 0⟩, ⟨tg2, iter2, ifs2, 0⟩] scope pos) (LE X.K (tX src fi g t fi2 g2 t2 f)) := by
 intro pins s σ H Q I h; obtain ⟨Z, d, m, R, ok, rs, h, k⟩ := h; rw [eval_ListComp]; refine j8 src hc hi hg ht hi2 hg2 ht2 he hs2 hkind hcell hnames hfree hsrc hs (use := none) (QQ := EP X pins σ Q) (RL := fun ps m2 => R (.dat (.list ps)) m2) I ok rs h ?_; intro s5 C D H' m' ps q e ok' rd ⟨mm, hns⟩ I5 off; exact ⟨mm, hns, fun h' hs' => ⟨.ref D, H', off.inv I5 hs', rfl, k _ m' _ H' q e ok' rd⟩⟩
theorem Uq (NC : List Str) (src : List (Option Nat)) (hc : X.calm = true) (hi : PI X tg iter (LI X.K fi))
  (hg : ∀ cl C s2 H2 pins fp, PG (aW X scope cl C NC s2 H2 pins fp) tg (LG X.K g)) (ht : ∀ cl C s2 H2 pins fp, PF (aW X scope cl C NC s2 H2 pins fp) ifs (LT X.K t))
  (hi2 : ∀ cl C s2 H2 pins fp, PI (aW X scope cl C NC s2 H2 pins fp) tg2 iter2 (LI X.K fi2)) (hg2 : ∀ cl C s2 H2 pins fp, PG (aW X scope cl C NC s2 H2 pins fp) tg2 (LG X.K g2)) (ht2 : ∀ cl C s2 H2 pins fp, PF (aW X scope cl C NC s2 H2 pins fp) ifs2 (LT X.K t2))
  (he : ∀ cl C s2 H2 pins fp, PE (aW X scope cl C NC s2 H2 pins fp) elt (LE X.K f))
  (hkind : scope.kind = .function := by rfl) (hB : chkB scope X.env = true := by rfl) (hS : chkS X.N scope X.env NC src = true := by rfl)
  (hs2 : ∀ cl C x, foldedSetIterable iter2 (compEnvC scope cl C X.env) x = pure x := by intro _ _ _; rfl)
  (hs : ∀ x, foldedSetIterable iter X.env x = pure x := by intro _; rfl) : PE X (.ListComp elt [⟨tg, iter, ifs, 0⟩, ⟨tg2, iter2, ifs2, 0⟩] scope pos) (LE X.K (tX src fi g t fi2 g2 t2 f)) :=
 j1 (NC := NC) src hc hi hg ht hi2 hg2 ht2 he hs2 hkind (chkB.ok hB).1 (chkB.ok hB).2.1 (chkB.ok hB).2.2 (chkS.ok hS) hs
end
end DL
namespace DL
open PySem PySem.Spec PyProof.Rows L2
section
variable {prog : Program} {w : World} {A : Around} {E : Value → Shared → Prop} {s : Shared}
theorem vY {it tq : Addr} {i : Nat} {its : Array Value} {x : Value} {Q : Value → Shared → Prop} (hit : s.heap.IsTupleIter it tq i) (ht : s.heap.IsTuple tq its) (hx : its[i]? = some x)
  (hQ : ∀ h', h'.IsTupleIter it tq (i + 1) → Heap.SameBut it s.heap h' → Q x { s with heap := h' }) : wpAny (model prog w) A (Builtin.SmallTypes.nextOf (.ref it)) Q E s := by
 obtain ⟨o, ho, hc, hd⟩ := id hit; obtain ⟨ol, hol, _, nl, hdl⟩ := ht; unfold Builtin.SmallTypes.nextOf; refine wpAny_bind (wpAny_callSpecial?_slot (name := Str.ofString "__next__") hit.typeIs F.slot_tuple_iterator_next (wpAny_call_entry F.slot_tuple_iterator_next hit.typeIs F.entry_tuple_iterator_next ?_ (F.args_tuple_iterator_next_1 _))); show wpAny _ _ (field (.ref it) 0 >>= _) _ _ _; refine wpAny_bind (wpAny_field ho hd (x := .ref tq) rfl ?_)
 show wpAny _ _ (if (Value.ref tq == Value.none) = true then _ else _) _ _ s
 rw [if_neg (show ¬ ((Value.ref tq == Value.none) = true) from Bool.false_ne_true)]
 show wpAny _ _ (field (.ref it) 1 >>= _) _ _ _; refine wpAny_bind (wpAny_field ho hd (x := .int i 0) rfl ?_)
 show wpAny _ _ (seqItems? (.ref tq) >>= _) _ _ s
 refine wpAny_bind (wpAny_seqItems hol hdl ?_); simp only [Int.toNat_natCast, hx]; refine wpAny_bind (wpAny_setField ho hd (by simp) (wpAny_pure ⟨_, rfl, wpAny_pure (hQ _ ?_ (Heap.SameBut.update ..))⟩))
 refine ⟨_, Heap.get?_update_self _ ho (Obj.isFreed_of_fields (Obj.data_mapFields hd _)), (Obj.cls_mapFields ..).trans hc, ?_⟩; rw [Obj.data_mapFields hd] <;> simp [rawInt]
theorem Di {it tq : Addr} {i : Nat} {its : Array Value} {Q : Value → Shared → Prop} (hh : A.handled = none) (hit : s.heap.IsTupleIter it tq i) (ht : s.heap.IsTuple tq its) (hx : its[i]? = none)
  (hE : ∀ h' e, Heap.ExtBut it s.heap h' → (∃ o, h'.get? e = some o ∧ o.cls = .type "StopIteration") → E (.ref e) { s with heap := h' }) : wpAny (model prog w) A (Builtin.SmallTypes.nextOf (.ref it)) Q E s := by
 obtain ⟨o, ho, hc, hd⟩ := id hit; obtain ⟨ol, hol, _, nl, hdl⟩ := ht; unfold Builtin.SmallTypes.nextOf; refine wpAny_bind (wpAny_callSpecial?_slot (name := Str.ofString "__next__") hit.typeIs F.slot_tuple_iterator_next (wpAny_call_entry F.slot_tuple_iterator_next hit.typeIs F.entry_tuple_iterator_next ?_ (F.args_tuple_iterator_next_1 _))); show wpAny _ _ (field (.ref it) 0 >>= _) _ _ _; refine wpAny_bind (wpAny_field ho hd (x := .ref tq) rfl ?_)
 show wpAny _ _ (if (Value.ref tq == Value.none) = true then _ else _) _ _ s
 rw [if_neg (show ¬ ((Value.ref tq == Value.none) = true) from Bool.false_ne_true)]
 show wpAny _ _ (field (.ref it) 1 >>= _) _ _ _; refine wpAny_bind (wpAny_field ho hd (x := .int i 0) rfl ?_)
 show wpAny _ _ (seqItems? (.ref tq) >>= _) _ _ s
 refine wpAny_bind (wpAny_seqItems hol hdl ?_); simp only [Int.toNat_natCast, hx]; refine wpAny_bind (wpAny_rule (wpAny_bind (wpAny_setField ho hd (by simp) ?_))); show wpAny _ _ (newExc (.type "StopIteration") [] >>= _) _ _ _
 refine wpAny_bind ?_; simp only [newExc, newTuple]; refine wpAny_bind (wpAny_newObj_type ?_ (by size_fits))
 refine wpAny_bind (m := firstArgMember _ _) (wpAny_of_eq (a := Value.none) (by first | rfl | (simp only [firstArgMember]; rfl)) ?_); refine wpAny_newObj_type ?_ (by size_fits)
 simp only [raiseNew]; refine wpAny_bind (wpAny_handled ?_)
 (first | rw [show A.in1.handled = none from hh] | rw [hh]); refine wpAny_bind (wpAny_pure (wpAny_throw ?_))
 exact hE _ _ (((Heap.SameBut.update ..).extBut.push _).push _) ⟨_, Heap.get?_push_size _ rfl, rfl⟩
structure Zst (h : Heap) (z TI TO i1 i2 t1 t2 : Addr) (f0 : Value) (k : Nat) : Prop where
 z : IsZip h z TI TO f0
 ti : IsPair h TI (.ref i1) (.ref i2)
 to : ∃ a b, IsPair h TO a b
 a : h.IsTupleIter i1 t1 k
 b : h.IsTupleIter i2 t2 k
theorem Xp {z TI TO i1 i2 t1 t2 : Addr} {k : Nat} {xs ys : Array Value} {x y : Value} {Q : Value → Shared → Prop} (D : ZipApart z TI TO i1 i2 t1 t2) (S : Zst s.heap z TI TO i1 i2 t1 t2 .none k)
  (g1 : s.heap.IsTuple t1 xs) (g2 : s.heap.IsTuple t2 ys) (hx : xs[k]? = some x) (hy : ys[k]? = some y)
  (hQ : ∀ h', Zst h' z TI TO i1 i2 t1 t2 (rawInt s.heap.objs.size) (k + 1) → IsPair h' s.heap.objs.size x y →
   (∀ c o, c ≠ z → c ≠ TO → c ≠ i1 → c ≠ i2 → s.heap.get? c = some o → h'.get? c = some o) → Q (.ref s.heap.objs.size) { s with heap := h' }) :
  wpAny (model prog w) A (Builtin.«zip.__next__» ⟨[.ref z], []⟩) (fun fin s' => ∃ v, fin = .done (.ret v) ∧ Q v s') E s := by
 obtain ⟨hz, hTI, ⟨a, b, hTO⟩, h1, h2⟩ := S; show wpAny _ _ (field (.ref z) 2 >>= _) _ _ _; refine wpAny_bind (wpAny_field hz rfl (x := .bool false) rfl ?_)
 show wpAny _ _ (field (.ref z) 3 >>= _) _ _ _; refine wpAny_bind (wpAny_field hz rfl (x := .ref TI) rfl (wpAny_bind (wpAny_seqItems hTI rfl ?_)))
 show wpAny _ _ (Builtin.SmallTypes.ownedTupleIsFree (.ref z) >>= _) _ _ _; refine wpAny_bind ?_
 unfold Builtin.SmallTypes.ownedTupleIsFree; refine wpAny_bind (wpAny_field hz rfl (x := .none) rfl (wpAny_pure ?_)); simp only [if_true]; refine wpAny_bind (wpAny_rule (wpAny_bind (wpAny_field hz rfl (x := .ref TO) rfl ?_))); refine wpAny_bind (wpAny_setField_rec hz (by simp) fun n1 z1 c1 => ?_); replace z1 : IsZip n1 z TI TO .ellipsis := z1
 refine wpAny_bind ?_; simp only [List.zipIdx_cons, List.zipIdx_nil, List.forIn_cons, List.forIn_nil]; refine wpAny_bind (wpAny_bind (wpAny_onRaise ?_)); show wpAny _ _ (Builtin.SmallTypes.nextOf (.ref i1) >>= _) _ _ _
 refine wpAny_bind (vY (h1.at fun o e => c1.extBut _ o D.i1z e) (g1.extBut c1.extBut D.l1z) hx fun n2 b2 c2 => wpAny_pure ?_); have p2 : IsPair n2 TO a b := c2.extBut _ _ D.TOi1 (c1.extBut _ _ D.TOz hTO)
 refine wpAny_bind (wpAny_seqItems p2 rfl (wpAny_bind (wpAny_updateSeq_pair p2 fun n3 p3 c3 => ?_))); replace p3 : IsPair n3 TO x b := p3; refine wpAny_bind (wpAny_letGo (wpAny_pure (wpAny_bind (wpAny_bind (wpAny_onRaise ?_))))); show wpAny _ _ (Builtin.SmallTypes.nextOf (.ref i2) >>= _) _ _ _
 have up3 : ∀ c o, c ≠ z → c ≠ TO → c ≠ i1 → s.heap.get? c = some o → n3.get? c = some o := fun c o q1 q2 q3 e => c3.extBut _ _ q2 (c2.extBut _ _ q3 (c1.extBut _ _ q1 e))
 have g23 : n3.IsTuple t2 ys := by
  obtain ⟨o, ho, r⟩ := g2; exact ⟨o, up3 _ _ D.l2z D.l2TO D.l2i1 ho, r⟩
 refine wpAny_bind (vY (h2.at fun o e => up3 _ o D.i2z D.TOi2.symm D.i12.symm e) g23 hy fun n4 b4 c4 => wpAny_pure ?_); have p4 : IsPair n4 TO x b := c4.extBut _ _ D.TOi2 p3
 refine wpAny_bind (wpAny_seqItems p4 rfl (wpAny_bind (wpAny_updateSeq_pair p4 fun n5 p5 c5 => ?_))); replace p5 : IsPair n5 TO x y := p5; refine wpAny_bind (wpAny_letGo (wpAny_pure (wpAny_pure (wpAny_bind (wpAny_seqItems p5 rfl (wpAny_bind (wpAny_newTuple ?_))))))); have size5 : n5.objs.size = s.heap.objs.size := by rw [c5.1, c4.1, c3.1, c2.1, c1.1]
 have z5 : IsZip n5 z TI TO .ellipsis := c5.extBut _ _ D.TOz.symm (c4.extBut _ _ D.i2z.symm (c3.extBut _ _ D.TOz.symm (c2.extBut _ _ D.i1z.symm z1)))
 have up5 : ∀ c o, c ≠ z → c ≠ TO → c ≠ i1 → c ≠ i2 → s.heap.get? c = some o → n5.get? c = some o := fun c o q1 q2 q3 q4 e => c5.extBut _ _ q2 (c4.extBut _ _ q4 (up3 c o q1 q2 q3 e))
 have a5 : n5.IsTupleIter i1 t1 (k + 1) := b2.at fun o e => c5.extBut _ _ D.TOi1.symm (c4.extBut _ _ D.i12 (c3.extBut _ _ D.TOi1.symm e))
 have b5 : n5.IsTupleIter i2 t2 (k + 1) := b4.at fun o e => c5.extBut _ _ D.TOi2.symm e
 have zlt : z < n5.objs.size := Heap.lt_size z5
 show wpAny _ _ (Builtin.SmallTypes.ownedTupleHandOut (.ref z) (.ref n5.objs.size) >>= _) _ _ _; refine wpAny_bind ?_
 unfold Builtin.SmallTypes.ownedTupleHandOut; have z6 : IsZip (n5.push { cls := .type "tuple", data := .seq #[x, y] }) z TI TO .ellipsis := Heap.get?_push_of_some _ z5
 refine wpAny_bind (wpAny_setField_rec z6 (by simp) fun n7 z7 c7 => ?_); replace z7 : IsZip n7 z TI TO (rawInt n5.objs.size) := z7
 refine wpAny_setField_rec z7 (by simp) fun n8 z8 c8 => ?_; replace z8 : IsZip n8 z TI TO (rawInt n5.objs.size) := z8
 have up8 : ∀ c o, c ≠ z → n5.get? c = some o → n8.get? c = some o := fun c o q e => c8.extBut _ _ q (c7.extBut _ _ q (Heap.get?_push_of_some _ e))
 have new8 : IsPair n8 n5.objs.size x y := c8.extBut _ _ (Nat.ne_of_gt zlt) (c7.extBut _ _ (Nat.ne_of_gt zlt) (Heap.get?_push_size _ rfl))
 rw [size5] at z8 new8; refine wpAny_pure ⟨_, rfl, ?_⟩; show Q (.ref n5.objs.size) _
 rw [size5]; exact hQ n8 ⟨z8, up8 _ _ D.TIz (up5 _ _ D.TIz D.TITO D.TIi1 D.TIi2 hTI), ⟨x, y, up8 _ _ D.TOz p5⟩, a5.at fun o e => up8 _ o D.i1z e, b5.at fun o e => up8 _ o D.i2z e⟩ new8 fun c o q1 q2 q3 q4 e => up8 c o q1 (up5 c o q1 q2 q3 q4 e)
theorem N0 {z TI TO i1 i2 t1 t2 : Addr} {k : Nat} {xs ys : Array Value} {Q : Fin → Shared → Prop} (hh : A.handled = none) (D : ZipApart z TI TO i1 i2 t1 t2) (S : Zst s.heap z TI TO i1 i2 t1 t2 .none k)
  (g1 : s.heap.IsTuple t1 xs) (g2 : s.heap.IsTuple t2 ys) (hend : xs[k]? = none ∨ ys[k]? = none)
  (hE : ∀ h' e, (∀ c o, c ≠ z → c ≠ TO → c ≠ i1 → c ≠ i2 → s.heap.get? c = some o → h'.get? c = some o) → (∃ o, h'.get? e = some o ∧ o.cls = .type "StopIteration") → E (.ref e) { s with heap := h' }) :
  wpAny (model prog w) A (Builtin.«zip.__next__» ⟨[.ref z], []⟩) Q E s := by
 obtain ⟨hz, hTI, ⟨a, b, hTO⟩, h1, h2⟩ := S; show wpAny _ _ (field (.ref z) 2 >>= _) _ _ _; refine wpAny_bind (wpAny_field hz rfl (x := .bool false) rfl ?_)
 show wpAny _ _ (field (.ref z) 3 >>= _) _ _ _; refine wpAny_bind (wpAny_field hz rfl (x := .ref TI) rfl (wpAny_bind (wpAny_seqItems hTI rfl ?_)))
 show wpAny _ _ (Builtin.SmallTypes.ownedTupleIsFree (.ref z) >>= _) _ _ _; refine wpAny_bind ?_
 unfold Builtin.SmallTypes.ownedTupleIsFree; refine wpAny_bind (wpAny_field hz rfl (x := .none) rfl (wpAny_pure ?_)); simp only [if_true]; refine wpAny_bind (wpAny_rule (wpAny_bind (wpAny_field hz rfl (x := .ref TO) rfl ?_))); refine wpAny_bind (wpAny_setField_rec hz (by simp) fun n1 z1 c1 => ?_); replace z1 : IsZip n1 z TI TO .ellipsis := z1
 refine wpAny_bind ?_; simp only [List.zipIdx_cons, List.zipIdx_nil, List.forIn_cons, List.forIn_nil]; refine wpAny_bind (wpAny_bind (wpAny_onRaise ?_)); show wpAny _ _ (Builtin.SmallTypes.nextOf (.ref i1) >>= _) _ _ _
 have apart : ∀ (n : Heap) (e : Addr) (oe : Obj), IsZip n z TI TO .ellipsis → n.get? e = some oe → oe.cls = .type "StopIteration" → e ≠ z := fun n e oe q q1 q2 q3 => by
  subst q3; rw [q] at q1
  cases q1
  simp at q2
 cases hx : xs[k]? with
 | none =>
  refine wpAny_bind (Di hh (h1.at fun o e => c1.extBut _ o D.i1z e) (g1.extBut c1.extBut D.l1z) hx fun n2 e c2 he => ?_); obtain ⟨oe, q1, q2⟩ := he; have z2 : IsZip n2 z TI TO .ellipsis := c2 _ _ D.i1z.symm z1
  exact wpAny_setField_rec z2 (by simp) fun n3 _ c3 => hE n3 e (fun c o r1 _ r3 _ q => c3.extBut _ _ r1 (c2 _ _ r3 (c1.extBut _ _ r1 q))) ⟨oe, c3.extBut _ _ (apart _ _ _ z2 q1 q2) q1, q2⟩
 | some x =>
  have hy : ys[k]? = none := by
   rcases hend with h | h
   ·rw [hx] at h; cases h
   ·exact h
  refine wpAny_bind (vY (h1.at fun o e => c1.extBut _ o D.i1z e) (g1.extBut c1.extBut D.l1z) hx fun n2 b2 c2 => wpAny_pure ?_); have p2 : IsPair n2 TO a b := c2.extBut _ _ D.TOi1 (c1.extBut _ _ D.TOz hTO)
  refine wpAny_bind (wpAny_seqItems p2 rfl (wpAny_bind (wpAny_updateSeq_pair p2 fun n3 p3 c3 => ?_))); refine wpAny_bind (wpAny_letGo (wpAny_pure (wpAny_bind (wpAny_bind (wpAny_onRaise ?_))))); show wpAny _ _ (Builtin.SmallTypes.nextOf (.ref i2) >>= _) _ _ _
  have up3 : ∀ c o, c ≠ z → c ≠ TO → c ≠ i1 → s.heap.get? c = some o → n3.get? c = some o := fun c o q1 q2 q3 e => c3.extBut _ _ q2 (c2.extBut _ _ q3 (c1.extBut _ _ q1 e))
  have g23 : n3.IsTuple t2 ys := by
   obtain ⟨o, ho, r⟩ := g2; exact ⟨o, up3 _ _ D.l2z D.l2TO D.l2i1 ho, r⟩
  refine wpAny_bind (Di hh (h2.at fun o e => up3 _ o D.i2z D.TOi2.symm D.i12.symm e) g23 hy fun n4 e c4 he => ?_); obtain ⟨oe, q1, q2⟩ := he; have z4 : IsZip n4 z TI TO .ellipsis := c4 _ _ D.i2z.symm (c3.extBut _ _ D.TOz.symm (c2.extBut _ _ D.i1z.symm z1))
  exact wpAny_setField_rec z4 (by simp) fun n5 _ c5 => hE n5 e (fun c o r1 r2 r3 r4 q => c5.extBut _ _ r1 (c4 _ _ r4 (up3 c o r1 r2 r3 q))) ⟨oe, c5.extBut _ _ (apart _ _ _ z4 q1 q2) q1, q2⟩
end
end DL
namespace DL
open PySem PySem.Spec PyProof.Rows L2
section
variable {X : Cx} {pins : List (Addr × Obj)} {σ : L2.St} {H : Hp} {s : Shared} {h' : Heap}
theorem sO {t' : Nat} {ch : List Addr} (I : Inv X pins σ H s) (k : ∀ b o, b ∉ ch → s.heap.get? b = some o → h'.get? b = some o) (hf : ∀ b ∈ ch, dR X pins H b) : Inv X pins σ H { s with heap := h', toks := t' } := by
 have nit : ∀ b u, H b = some u → b ∉ ch := fun b u e z => by rw [(hf b z).1] at e; cases e
 refine I.step (g' := s.gens) (d' := s.drawn) (ch := ch) (fun b hb => ?_) (fun b o _ _ hc e _ => k b o hc e) (fun b o _ _ hc e _ => ⟨o.slots, k b o hc e⟩) (fun _ _ _ _ n => n) (fun b o hc e => ⟨o, k b o hc e⟩) (fun _ _ e => e) (fun _ _ _ e => e) (fun b ps e => ⟨#[], by rw [e]; simp⟩) (fun m hm => ?_) (fun b u e => ?_) I.bare
 ·obtain ⟨_, f1, _, f3, f4, f5⟩ := hf b hb; exact ⟨f3, f1, f4, f5⟩
 ·obtain ⟨o, es, ep, ho, r⟩ := hm; exact ⟨o, es, ep, k _ o (fun z => (hf _ z).2.1 rfl) ho, r⟩
 ·refine (I.hok b u e).stay (fun c v hc q => k c v ?_ q) (fun _ q => q) (fun _ _ q => q) fun _ _ _ q => q; rcases hc with z | z
  ·rw [z]; exact nit b u e
  ·exact nit c _ z
end
section
variable {prog : Program} {w : World} {A : Around} {E : Value → Shared → Prop} {s : Shared}
abbrev tH (h : Heap) (t1 : Addr) : Heap := h.push { cls := .type "tuple_iterator", data := .fields #[.ref t1, .int 0 0] }
abbrev uJ (h : Heap) (t1 t2 : Addr) : Heap := (tH h t1).push { cls := .type "tuple_iterator", data := .fields #[.ref t2, .int 0 0] }
abbrev wH (h : Heap) (t1 t2 : Addr) : Heap := (uJ h t1 t2).push { cls := .type "tuple", data := .seq #[.ref h.objs.size, .ref (tH h t1).objs.size] }
abbrev vL (h : Heap) (t1 t2 : Addr) : Heap := (wH h t1 t2).push { cls := .type "tuple", data := .seq #[.none, .none] }
abbrev pJ (h : Heap) (t1 t2 : Addr) : Heap := (vL h t1 t2).push { cls := .type "zip", data := .fields #[.none, .bool false, .bool false, .ref (uJ h t1 t2).objs.size, .ref (wH h t1 t2).objs.size] }
theorem Ix {h : Heap} {t : Addr} {xs : Array Value} (g : h.IsTuple t xs) (o : Obj) : (h.push o).IsTuple t xs := by
 obtain ⟨u, hu, r⟩ := g; exact ⟨u, Heap.get?_push_of_some _ hu, r⟩
theorem X1 (t1 t2 : Addr) (xs ys : Array Value) : Meets (Builtin.«zip.__new__» ⟨[.type "zip", .ref t1, .ref t2], []⟩) (fun _ R s => s.heap.IsTuple t1 xs ∧ s.heap.IsTuple t2 ys ∧
  R (.ok (.ret (.ref (vL s.heap t1 t2).objs.size))) { s with heap := pJ s.heap t1 t2 }) := .of_wp fun prog w A R s hs => by
 obtain ⟨hp, g, d, tk, os⟩ := s; obtain ⟨hl1, hl2, h⟩ := hs; have hsub := sub_zip
 have u1 : Heap.IsTuple (Shared.heap ⟨hp, g, d, tk, os⟩) t1 xs := hl1
 have u2 : Heap.IsTuple (Shared.heap ⟨hp.push { cls := .type "tuple_iterator", data := .fields #[.ref t1, .int 0 0] }, g, d, tk, os⟩) t2 ys := Ix hl2 _
 wp_walk using wpAny_pyIter_tuple u1, wpAny_pyIter_tuple u2
 exact ⟨_, rfl, h⟩
theorem Ro {t1 t2 : Addr} {xs ys : Array Value} {Q : Value → Shared → Prop} (g1 : s.heap.IsTuple t1 xs) (g2 : s.heap.IsTuple t2 ys)
  (h : ∀ h' n, n = s.heap.objs.size → Zst h' (n + 4) (n + 2) (n + 3) n (n + 1) t1 t2 .none 0 → (∀ c o, s.heap.get? c = some o → h'.get? c = some o) → Q (.ref (n + 4)) { s with heap := h' }) : wpAny (model prog w) A (call (.type "zip") [.ref t1, .ref t2]) Q E s := by
 refine callType_new F.called_zip (by decide) (F.typeCall_zip_2 _ _) (F.newCall_zip_2 _ _) (fun obj => F.args_object_init_3 obj _ _) F.entry_zip_new (X1 t1 t2 xs ys) ⟨g1, g2, ?_⟩
 have z1 : (tH s.heap t1).objs.size = s.heap.objs.size + 1 := Heap.size_push ..
 have z2 : (uJ s.heap t1 t2).objs.size = s.heap.objs.size + 2 := by rw [Heap.size_push, z1]
 have z3 : (wH s.heap t1 t2).objs.size = s.heap.objs.size + 3 := by rw [Heap.size_push, z2]
 have z4 : (vL s.heap t1 t2).objs.size = s.heap.objs.size + 4 := by rw [Heap.size_push, z3]
 have a5 : (pJ s.heap t1 t2).get? (vL s.heap t1 t2).objs.size = some _ := Heap.get?_push_size _ rfl
 have a4 : (pJ s.heap t1 t2).get? (wH s.heap t1 t2).objs.size = some _ := Heap.get?_push_of_some _ (Heap.get?_push_size _ rfl)
 have a3 : (pJ s.heap t1 t2).get? (uJ s.heap t1 t2).objs.size = some _ := Heap.get?_push_of_some _ (Heap.get?_push_of_some _ (Heap.get?_push_size _ rfl))
 have a2 : (pJ s.heap t1 t2).get? (tH s.heap t1).objs.size = some _ := Heap.get?_push_of_some _ (Heap.get?_push_of_some _ (Heap.get?_push_of_some _ (Heap.get?_push_size _ rfl)))
 have a1 : (pJ s.heap t1 t2).get? s.heap.objs.size = some _ := Heap.get?_push_of_some _ (Heap.get?_push_of_some _ (Heap.get?_push_of_some _ (Heap.get?_push_of_some _ (Heap.get?_push_size _ rfl))))
 show _ ∧ _
 rw [z2, z3, z4] at a5; rw [z1, z2] at a3; rw [z3] at a4; rw [z1] at a2; rw [z4]; exact ⟨⟨_, a5, rfl⟩, h _ _ rfl ⟨a5, a3, ⟨_, _, a4⟩, ⟨_, a1, rfl, rfl⟩, ⟨_, a2, rfl, rfl⟩⟩ fun c o x => Heap.get?_push_of_some _ (Heap.get?_push_of_some _ (Heap.get?_push_of_some _ (Heap.get?_push_of_some _ (Heap.get?_push_of_some _ x))))⟩
end
def O0 (K : PySem.W.Frag) (t1 t2 : Addr) (n : Nat) : It :=
 ⟨fun i H => i < n ∧ ∃ xs ys, SqT K H t1 xs ∧ SqT K H t2 ys ∧ n = min xs.length ys.length, fun i H v H' => ∃ p x y, v = .ref p ∧ H p = none ∧ H' = aN H p (.tup [x, y]) ∧ ∀ xs ys, SqT K H t1 xs → SqT K H t2 ys → xs[i]? = some x ∧ ys[i]? = some y,
  fun i H => i = n ∧ ∃ xs ys, SqT K H t1 xs ∧ SqT K H t2 ys ∧ n = min xs.length ys.length⟩
theorem Pc {P : Program} {w : World} {K : PySem.W.Frag} {elts : List Expr} {j : Nat} {pos : Pos} {z TI TO i1 i2 t1 t2 : Addr} {n : Nat} (D : ZipApart z TI TO i1 i2 t1 t2) :
  Turn P w K (.Tuple elts j pos) (O0 K t1 t2 n) [z, TI, TO, i1, i2] z (fun i h => Zst h z TI TO i1 i2 t1 t2 .none i) where
 mem := by simp
 obj := fun i h st b hb => by
  obtain ⟨h1, h2, ⟨a, c, h3⟩, ⟨o4, e4, _, d4⟩, ⟨o5, e5, _, d5⟩⟩ := st; simp only [List.mem_cons, List.not_mem_nil, or_false] at hb; rcases hb with rfl | rfl | rfl | rfl | rfl
  ·exact ⟨_, h1, fun v q => nomatch q⟩
  ·exact ⟨_, h2, fun v q => nomatch q⟩
  ·exact ⟨_, h3, fun v q => nomatch q⟩
  ·exact ⟨_, e4, fun v q => by rw [d4] at q; cases q⟩
  ·exact ⟨_, e5, fun v q => by rw [d5] at q; cases q⟩
 keep := fun i h h' st k => by
  obtain ⟨h1, h2, ⟨a, c, h3⟩, h4, h5⟩ := st; exact ⟨k z (by simp) _ h1, k TI (by simp) _ h2, ⟨a, c, k TO (by simp) _ h3⟩, h4.at fun o e => k i1 (by simp) o e, h5.at fun o e => k i2 (by simp) o e⟩
 item := by
  intro X hP hw hK hc i pins s σ H E I hf st hg; subst hP hw hK; obtain ⟨hi, xs, ys, q1, q2, hn⟩ := hg; obtain ⟨its1, r1, p1, l1⟩ := I.tuple q1; obtain ⟨its2, r2, p2, l2⟩ := I.tuple q2; have e1 : xs[i]? = some (xs[i]'(by omega)) := List.getElem?_eq_getElem (by omega)
  have e2 : ys[i]? = some (ys[i]'(by omega)) := List.getElem?_eq_getElem (by omega)
  obtain ⟨u1, hu1, ru1⟩ := r1.get e1; obtain ⟨u2, hu2, ru2⟩ := r2.get e2; have hT : s.TypeIs (.ref z) "zip" := ⟨_, st.z, rfl⟩
  have hp : H s.heap.objs.size = none := I.hok.fresh (Nat.le_refl _)
  unfold pyNext; refine wpAny_bind (wpAny_attempt (wpAny_callSpecial?_slot (name := Str.ofString "__next__") hT F.slot_zip_next (wpAny_call_entry F.slot_zip_next hT F.entry_zip_next (Xp D st (show s.heap.IsTuple t1 its1.toArray from p1) (show s.heap.IsTuple t2 its2.toArray from p2) (by simpa using hu1) (by simpa using hu2) fun h' st' np k => wpAny_pure ?_) (F.args_zip_next_1 _))))
  refine ⟨_, rfl, ?_⟩; refine wpAny_letOwnedTupleGo_zip (s := { s with heap := h' }) st'.z fun h2 z2 c2 => ?_; have I1 : Inv X pins σ (aN H s.heap.objs.size (.tup [_, _])) { s with heap := s.heap.push { cls := .type "tuple", data := .seq #[u1, u2] } } :=
   I.laid (t' := s.toks) (fun b o e => Heap.get?_push_of_some _ e) (Nat.le_refl _) (show ObjOk X.prog X.w _ _ _ (.tup [_, _]) from ⟨⟨by show 2 ≤ sizeLine; rw [sizeLine_eq]; decide, NoD.new _ _ _⟩, [u1, u2], .cons ru1 (.cons ru2 .nil), IsTup.new _ _⟩)
  have lt : ∀ {c o}, s.heap.get? c = some o → c ≠ s.heap.objs.size := fun e => Nat.ne_of_lt (Heap.lt_size e)
  have zne : s.heap.objs.size ≠ z := fun e => lt st.z e.symm
  have hf' : ∀ b ∈ [z, TI, TO, i1, i2], dR X pins (aN H s.heap.objs.size (.tup [xs[i]'(by omega), ys[i]'(by omega)])) b := fun b hb => by
   obtain ⟨f0, f1, f2, f3, f4, f5⟩ := hf b hb; refine ⟨?_, f1, f2, f3, f4, f5⟩; rw [bG]
   ·exact f0
   ·obtain ⟨h1, h2, ⟨a, c, h3⟩, ⟨o4, e4, _⟩, ⟨o5, e5, _⟩⟩ := st; simp only [List.mem_cons, List.not_mem_nil, or_false] at hb; rcases hb with rfl | rfl | rfl | rfl | rfl
    ·exact lt h1
    ·exact lt h2
    ·exact lt h3
    ·exact lt e4
    ·exact lt e5
  have kk : ∀ b o, b ∉ [z, TI, TO, i1, i2] → (s.heap.push { cls := .type "tuple", data := .seq #[u1, u2] }).get? b = some o → h2.get? b = some o := fun b o hb e => by
   simp only [List.mem_cons, List.not_mem_nil, or_false, not_or] at hb; obtain ⟨n1, n2, n3, n4, n5⟩ := hb; refine c2.extBut _ _ n1 ?_; rcases Heap.get?_push_cases e with ⟨rfl, rfl⟩ | e
   ·exact np
   ·exact k b o n1 n3 n4 n5 e
  have I2 := sO (s := { s with heap := s.heap.push { cls := .type "tuple", data := .seq #[u1, u2] } }) (h' := h2) (t' := s.toks) (ch := [z, TI, TO, i1, i2]) I1 kk hf'
  refine ⟨.ref s.heap.objs.size, aN H s.heap.objs.size (.tup [xs[i]'(by omega), ys[i]'(by omega)]), I2, rfl, ⟨_, _, _, rfl, hp, rfl, fun xs' ys' g1 g2 => ?_⟩, ?_, fun b hb => (hf' b hb).1⟩
  ·rw [I.tuple_inj g1 q1, I.tuple_inj g2 q2]; exact ⟨e1, e2⟩
  ·obtain ⟨h1, h2', ⟨a, c, h3⟩, h4, h5⟩ := st'; exact ⟨z2, c2.extBut _ _ D.TIz h2', ⟨a, c, c2.extBut _ _ D.TOz h3⟩, h4.at fun o e => c2.extBut _ _ D.i1z e, h5.at fun o e => c2.extBut _ _ D.i2z e⟩
 done := by
  intro X hP hw hK hc i pins s σ H E I hf st hg; subst hP hw hK; obtain ⟨hi, xs, ys, q1, q2, hn⟩ := hg; obtain ⟨its1, r1, p1, l1⟩ := I.tuple q1; obtain ⟨its2, r2, p2, l2⟩ := I.tuple q2; have m1 := r1.length
  have m2 := r2.length
  have hT : s.TypeIs (.ref z) "zip" := ⟨_, st.z, rfl⟩
  unfold pyNext; refine wpAny_bind (wpAny_attempt (wpAny_callSpecial?_slot (name := Str.ofString "__next__") hT F.slot_zip_next (wpAny_call_entry F.slot_zip_next hT F.entry_zip_next (N0 (I.ok.hd hc) D st (show s.heap.IsTuple t1 its1.toArray from p1) (show s.heap.IsTuple t2 its2.toArray from p2) ?_ fun h' e k he => ?_) (F.args_zip_next_1 _))))
  ·by_cases c : xs.length ≤ ys.length
   ·left
    simp; omega
   ·right
    simp; omega
  ·obtain ⟨o, ho, hce⟩ := he; refine wpAny_bind (wpAny_isInstance (T := "StopIteration") (b := true) ⟨o, ho, hce⟩ isSubtype_stop ?_); refine wpAny_pure ⟨rfl, sO (t' := s.toks) (ch := [z, TI, TO, i1, i2]) I (fun b o hb e => ?_) hf⟩; simp only [List.mem_cons, List.not_mem_nil, or_false, not_or] at hb; exact k b o hb.1 hb.2.2.1 hb.2.2.2.1 hb.2.2.2.2 e
 self := fun _ _ _ _ _ st h => wpAny_pyIter_zip st.z h
theorem Gy (n a1 a2 : Nat) (h1 : a1 < n) (h2 : a2 < n) : ZipApart (n + 4) (n + 2) (n + 3) n (n + 1) a1 a2 := by
 constructor <;> exact fun e => absurd (show (_ : Nat) = _ from e) (by omega)
theorem Ll : bootBuiltins "zip" = some (.type "zip") := by decide +kernel
@[simp] def wQ (f g : DE) : DI := fun d m Q => f d m fun x m1 => g d m1 fun y m2 => ∃ ps qs, x = .dat (.tuple ps) ∧ y = .dat (.tuple qs) ∧ Q ((ps.zip qs).map fun z => .dat (.tuple [z.1, z.2])) m2
section
variable {X : Cx} {a b : Expr} {elts : List Expr} {j : Nat} {f g : DE} {pos p p2 : Pos}
theorem Ov (hg : Gl X "zip") (hm : X.mg "zip" = none) (ha : PE X a (LE X.K f)) (hb : PE X b (LE X.K g)) (hs : starEach [a, b] X.env = [(false, eval a X.env), (false, eval b X.env)] := by rfl) (hs2 : starEach [b] X.env = [(false, eval b X.env)] := by rfl) :
  PI X (.Tuple elts j p2) (.Call (.Name "zip" p) [a, b] [] pos) (LI X.K (wQ f g)) := by
 intro pins s σ H R I h; obtain ⟨Z, d, m, ZZ, ok, rs, h, k⟩ := h; have hA := rG (X := X) ha (rG hb Cz (by rw [hs2]; rfl)) (by rw [hs, hs2]) pos pins s σ H (fun vs H1 => ∃ a1 a2 xs ys ps qs m1, vs = [.ref a1, .ref a2] ∧ SqT X.K H1 a1 xs ∧ SqT X.K H1 a2 ys ∧ RPs X.K Z m1 H1 ps xs ∧ RPs X.K Z m1 H1 qs ys ∧
   ZZ ((ps.zip qs).map fun z => .dat (.tuple [z.1, z.2])) m1 ∧ Ext X.K Z m H m1 H1 ∧ Ok X.K Z m1 H1) I ⟨Z, d, m, fun ds m1 => match ds with | [x, y] => ∃ ps qs, x = .dat (.tuple ps) ∧ y = .dat (.tuple qs) ∧ ZZ ((ps.zip qs).map fun z => .dat (.tuple [z.1, z.2])) m1 | _ => False, ok, rs, h, fun xs m1 vs H1 q e1 ok1 rd => ?_⟩
 ·refine Call_ (lK I hg hm Ll (PyProof.Rows.callWith_type1 (aL hA fun us s1 ⟨vs, H1, I1, r1, q1⟩ => ?_) (by rw [hs, hs2]) (by rw [hs2]; rfl)))
  obtain ⟨a1, a2, xs, ys, ps, qs, m1, e, h1, h2, rp, rq, q, e1, ok1⟩ := q1; subst e; obtain ⟨u1, u2, rfl, ru1, ru2⟩ := vR r1
  cases ru1
  cases ru2
  obtain ⟨its1, rv1, pt1, l1⟩ := I1.tuple h1; obtain ⟨its2, rv2, pt2, l2⟩ := I1.tuple h2; refine Ro (show s1.heap.IsTuple a1 its1.toArray from pt1) (show s1.heap.IsTuple a2 its2.toArray from pt2) fun h' n hn st kp => ?_
  have D : ZipApart (n + 4) (n + 2) (n + 3) n (n + 1) a1 a2 := Gy n a1 a2 (by obtain ⟨o, ho, _⟩ := pt1; rw [hn]; exact Heap.lt_size ho) (by obtain ⟨o, ho, _⟩ := pt2; rw [hn]; exact Heap.lt_size ho)
  refine wpAny_pyIter_zip (s := { s1 with heap := h' }) st.z ?_; refine ⟨n + 4, [n + 4, n + 2, n + 3, n, n + 1], _, _, H1, rfl, I1.kept (t' := s1.toks) kp, Pc (n := min xs.length ys.length) D, st, fun c hc => ?_, k _ m1 H1 _ q e1 ok1 ?_⟩
  ·have hle : s1.heap.objs.size ≤ c := by
    simp only [List.mem_cons, List.not_mem_nil, or_false] at hc; subst hn; rcases hc with rfl | rfl | rfl | rfl | rfl
    ·exact Nat.le_add_right _ 4
    ·exact Nat.le_add_right _ 2
    ·exact Nat.le_add_right _ 3
    ·exact Nat.le_refl _
    ·exact Nat.le_add_right _ 1
   exact I1.fpOk hle (I1.hok.fresh hle)
  ·intro m2 H2 e2; have q1 := e2.t a1 xs h1
   have q2 := e2.t a2 ys h2
   have lp := rp.length
   have lq := rq.length
   refine ⟨fun i x hx => ?_, ?_, xs, ys, q1, q2, rfl⟩
   ·rw [List.getElem?_map] at hx
    cases ez : (ps.zip qs)[i]? with
    | none => rw [ez] at hx; cases hx
    | some z =>
     rw [ez] at hx
     cases hx
     obtain ⟨z1, z2⟩ := z; obtain ⟨ea, eb⟩ := List.getElem?_zip_eq_some.mp ez; obtain ⟨v1, hv1, rv1'⟩ := rp.get ea; obtain ⟨v2, hv2, rv2'⟩ := rq.get eb; have b1 := (List.getElem?_eq_some_iff.mp hv1).1
     have b2 := (List.getElem?_eq_some_iff.mp hv2).1
     refine ⟨⟨by omega, xs, ys, q1, q2, rfl⟩, fun v H3 ⟨pp, x', y', ev, hp, eH, al⟩ => ?_⟩
     obtain ⟨w1, w2⟩ := al xs ys q1 q2; rw [hv1] at w1; rw [hv2] at w2
     cases w1
     cases w2
     refine .inr ⟨pp, [z1, z2], [_, _], rfl, ev, hp, eH, ?_⟩; simp only [RPs]; exact ⟨_, _, rfl, rv1', _, _, rfl, rv2', rfl⟩
   ·show ((ps.zip qs).map _).length = min xs.length ys.length
    rw [List.length_map, List.length_zip, lp, lq]
 ·match xs, q, rd with
  | [], q, _ => exact q.elim
  | [_], q, _ => exact q.elim
  | _ :: _ :: _ :: _, q, _ => exact q.elim
  | [x, y], q, rd =>
  obtain ⟨ps, qs, rfl, rfl, q⟩ := q; obtain ⟨v, w, rfl, g1, g2⟩ := rd.two; simp only [RD, RP] at g1 g2; obtain ⟨a1, xs, rfl, h1, h2⟩ := g1; obtain ⟨a2, ys, rfl, h3, h4⟩ := g2; exact ⟨a1, a2, xs, ys, ps, qs, m1, rfl, h1, h3, h2, h4, q, e1, ok1⟩
end
end DL
namespace DL
open PySem PySem.Spec PyProof.Rows L2
section
variable {X : Cx} {a e o : Expr} {es : List Expr} {f g : DE} {ga : DA} {pos p p1 p2 : Pos}
theorem G9 (x : Str) (l u : Option (Int × Tok)) : (slicePicked x l u none).length ≤ x.length := by
 unfold slicePicked Builtin.Str.strSliceIndices sliceRange; simp only [List.length_map, List.length_range, Option.map_none, Option.getD_none]; have h1 : (1 : Int) > 0 := by decide
 simp only [h1, if_true]
 cases l <;> cases u <;> simp only [Option.map_none, Option.map_some] <;> repeat' split <;> omega
theorem Gs {α β : Type} (f : α → Option β) : ∀ xs : List α, (xs.filterMap f).length ≤ xs.length
 | [] => Nat.le_refl _
 | x :: xs => by
  rw [List.filterMap_cons]; have := Gs f xs
  cases f x with
  | none => exact Nat.le_succ_of_le this
  | some y => exact Nat.succ_le_succ this
def Zd : V → Option Int → Option Int → Hp → VK → Prop := fun x lo hi H Q => ∃ z : Str, x = .str z ∧ z.length ≤ sizeLine ∧ ∀ y : Str, y.length ≤ z.length → Q (.str y) H
theorem Hh {v : Value} {lo : Option Int} (h : IsPart v lo) : ∃ l, v = partValue l := by
 cases h with
 | none => exact ⟨none, rfl⟩
 | int i t => exact ⟨some (i, t), rfl⟩
theorem i6 : SlR X Zd := by
 intro pins s σ H x v vl vu lo hi sl Q I rx hs pl pu h; obtain ⟨z, rfl, hz, q⟩ := h; obtain ⟨t, rfl⟩ := rx; obtain ⟨l, rfl⟩ := Hh pl; obtain ⟨u, rfl⟩ := Hh pu; refine ⟨"str", _, PySem.F.slot_str_getitem.lookup, typeIs_str s z t, ?_⟩; refine wpAny_getItem_str_slice (l := l) (u := u) (st := none) hs rfl ?_; unfold sliceMade
 split
 ·exact ⟨.str z, H, I, ⟨_, rfl⟩, q z (Nat.le_refl _)⟩
 ·have hl : (⟨((slicePicked z l u none).filterMap (z.cps[·]?)).toArray⟩ : Str).length ≤ z.length := by
   show ((slicePicked z l u none).filterMap (z.cps[·]?)).toArray.size ≤ z.length
   rw [List.size_toArray]; exact Nat.le_trans (Gs _ _) (G9 z l u)
  exact ⟨Nat.le_trans hl hz, .str _, H, I.tok _, ⟨_, rfl⟩, q _ hl⟩
@[simp] def jO (f : DE) (lo hi : DO) : DE := fun d m Q => f d m fun x m1 => lo d m1 fun l m2 => hi d m2 fun u m3 =>
 (∃ xs, x = .dat (.tuple xs) ∧ Q (.dat (.tuple (cC xs l u))) m3) ∨ (∃ xs, x = .dat (.list xs) ∧ Q (.dat (.list (cC xs l u))) m3) ∨ (∃ z : Str, x = .dat (.str z) ∧ z.length ≤ sizeLine ∧ ∀ y : Str, y.length ≤ z.length → Q (.dat (.str y)) m3)
theorem O4 {lo hi : Option Expr} {tl th : DO} (ha : PE X a (LE X.K f)) (hl : PO X lo (LO X.K tl)) (hu : PO X hi (LO X.K th)) : PE X (.Subscript a (.Slice lo hi none p2) pos) (LE X.K (jO f tl th)) :=
 PE.imp (Ye (Tp.or (M6.or (Vn.or i6))) ha hl hu) fun s H Q h => by
  obtain ⟨Z, d, m, R, ok, rs, h, k⟩ := h; refine ⟨Z, d, m, _, ok, rs, h, fun x m1 v H1 q e1 ok1 rx => ⟨Z, d, m1, _, ok1, rs.ext e1, q, fun l m2 H2 q2 e2 ok2 => ⟨Z, d, m2, _, ok2, (rs.ext e1).ext e2, q2, fun u m3 H3 q3 e3 ok3 => ?_⟩⟩⟩; have e13 := e1.trans (e2.trans e3)
  have rx3 := rx.ext (e2.trans e3)
  rcases q3 with ⟨xs, rfl, q4⟩ | ⟨xs, rfl, q4⟩ | ⟨z, rfl, hz, q4⟩
  ·simp only [RD, RP] at rx3; obtain ⟨a, vs, rfl, h1, h2⟩ := rx3
   by_cases hw : HT.sIx vs.length 0 l = 0 ∧ HT.sIx vs.length vs.length u = vs.length
   ·refine .inr (.inl ⟨a, vs, rfl, h1, hw, k _ m3 _ H3 q4 e13 ok3 ?_⟩); rw [h2.length] at hw; rw [Pl xs hw]; simp only [RD, RP]; exact ⟨a, vs, rfl, h1, h2⟩
   ·refine .inl ⟨a, vs, rfl, h1, hw, fun p hp => ?_⟩; have sm : Same H3 (aN H3 p (.tup (fZ vs l u))) := cW hp
    refine k _ m3 _ _ q4 (e13.trans (ok3.ext sm)) (ok3.grow sm) ?_; simp only [RD, RP]; exact ⟨p, _, rfl, .inl (.inl cZ), RPs.ext (ok3.ext sm) _ _ h2.cut⟩
  ·simp only [RD, RP] at rx3; obtain ⟨a, vs, rfl, h0, h1, h2⟩ := rx3; refine .inr (.inr (.inl ⟨a, vs, rfl, h1, fun p hp => ?_⟩)); have sm : Same H3 (aN H3 p (.lst (fZ vs l u))) := cW hp
   refine k _ m3 _ _ q4 (e13.trans (ok3.ext sm)) (ok3.grow sm) ?_; simp only [RD, RP]; exact ⟨p, _, rfl, jA ok3 hp, .inl (.inl cZ), RPs.ext (ok3.ext sm) _ _ h2.cut⟩
  ·cases rx3.str
   exact .inr (.inr (.inr ⟨z, rfl, hz, fun y hy => k _ m3 _ H3 (q4 y hy) e13 ok3 .ofStr⟩))
end
end DL
namespace DL
open PySem PySem.Spec PyProof.Rows L2
def dS {κ : Type} [DecidableEq κ] (kvs : List (κ × PyData)) (k : κ) : Option PyData := (kvs.find? fun kv => decide (kv.1 = k)).map (·.2)
def oO {κ : Type} [DecidableEq κ] (kvs : List (κ × PyData)) (k : κ) (p : PyData) : List (κ × PyData) :=
 if (kvs.any fun kv => decide (kv.1 = k)) = true then kvs.map (fun kv => if kv.1 = k then (kv.1, p) else kv) else kvs ++ [(k, p)]
section
variable {κ : Type} [DecidableEq κ] {K : PySem.W.Frag} {Z : Addr → Prop} {m : Mu} {H : Hp}
theorem RKV.length : ∀ {kvs : List (κ × PyData)} {vs : List (κ × V)}, RKV K Z m H kvs vs → vs.length = kvs.length
 | [], _, h => by cases (show _ = [] from h); rfl
 | _ :: _, _, ⟨v, r, h1, _, h3⟩ => by subst h1; rw [List.length_cons, List.length_cons, RKV.length h3]
theorem RKV.val {k : κ} {p : PyData} : ∀ {kvs : List (κ × PyData)} {vs : List (κ × V)}, RKV K Z m H kvs vs → dS kvs k = some p → ∃ v, bW vs k = some v ∧ RP K Z m H p v
 | [], _, _, e => by simp [dS] at e
 | (j, q) :: xs, _, ⟨v, r, h1, h2, h3⟩, e => by
  subst h1; unfold dS at e; unfold bW
  by_cases c : j = k
  ·simp [List.find?_cons, c] at e ⊢; exact e ▸ h2
  ·simp [List.find?_cons, c] at e ⊢; have := RKV.val (k := k) (p := p) h3 (by unfold dS; simpa using e)
   unfold bW at this; simpa using this
theorem RKV.any {k : κ} : ∀ {kvs : List (κ × PyData)} {vs : List (κ × V)}, RKV K Z m H kvs vs → (vs.any fun kv => decide (kv.1 = k)) = (kvs.any fun kv => decide (kv.1 = k))
 | [], _, h => by cases (show _ = [] from h); rfl
 | _ :: _, _, ⟨v, r, h1, _, h3⟩ => by subst h1; rw [List.any_cons, List.any_cons, RKV.any h3]
theorem RKV.repl {k : κ} {p : PyData} {v : V} (hp : RP K Z m H p v) : ∀ {kvs : List (κ × PyData)} {vs : List (κ × V)}, RKV K Z m H kvs vs → RKV K Z m H (kvs.map fun kv => if kv.1 = k then (kv.1, p) else kv) (vs.map fun kv => if kv.1 = k then (kv.1, v) else kv)
 | [], _, h => by cases (show _ = [] from h); exact (rfl : ([] : List (κ × V)) = [])
 | (j, q) :: xs, _, ⟨w, r, h1, h2, h3⟩ => by
  subst h1; rw [List.map_cons, List.map_cons]
  by_cases c : j = k
  ·rw [if_pos c, if_pos c]; exact ⟨v, _, rfl, hp, RKV.repl hp h3⟩
  ·rw [if_neg c, if_neg c]; exact ⟨w, _, rfl, h2, RKV.repl hp h3⟩
theorem RKV.snoc {k : κ} {p : PyData} {v : V} (hp : RP K Z m H p v) : ∀ {kvs : List (κ × PyData)} {vs : List (κ × V)}, RKV K Z m H kvs vs → RKV K Z m H (kvs ++ [(k, p)]) (vs ++ [(k, v)])
 | [], _, h => by cases (show _ = [] from h); exact ⟨v, [], rfl, hp, rfl⟩
 | _ :: _, _, ⟨w, r, h1, h2, h3⟩ => by subst h1; exact ⟨w, _, rfl, h2, RKV.snoc hp h3⟩
theorem RKV.put {k : κ} {p : PyData} {v : V} {kvs : List (κ × PyData)} {vs : List (κ × V)} (h : RKV K Z m H kvs vs) (hp : RP K Z m H p v) : RKV K Z m H (oO kvs k p) (cT vs k v) := by
 unfold oO cT; rw [h.any]
 split
 ·exact h.repl hp
 ·exact h.snoc hp
end
@[simp] def oZ : D → Option aS
 | .dat (.str z) => some (.inr z)
 | .dat (.int i) => some (.inl i)
 | _ => none
theorem RD.key {K : PySem.W.Frag} {Z : Addr → Prop} {m : Mu} {H : Hp} {x : D} {v : V} {k : aS} (h : RD K Z m H x v) (e : oZ x = some k) : v = kV k := by
 unfold oZ at e
 split at e
 ·cases e; cases h.str; rfl
 ·cases e; cases h.int; rfl
 ·cases e
section
variable {X : Cx} {o i e : Expr} {fo fi f : DE} {pos tpos : Pos}
@[simp] def Ay : DE := fun _ m Q => ∀ a, m a = none → Q (.cel a) (bN m a (.d []))
theorem Wi : PE X (.Dict [] [] pos) (LE X.K Ay) := by
 intro pins s σ H Q I h; obtain ⟨Z, d, m, R, ok, rs, h, k⟩ := h; have hp : H s.heap.objs.size = none := I.hok.fresh (Nat.le_refl _)
 have hk : X.K.lookup s.heap.objs.size = none := by
  cases e : X.K.lookup s.heap.objs.size with
  | none => rfl
  | some o => exact absurd (Heap.lt_size (I.kIn _ o e)) (Nat.lt_irrefl _)
 refine wpAny_Dict_empty ⟨.ref s.heap.objs.size, _, I.laid (a := s.heap.objs.size) (o := .dK []) (t' := s.toks) (fun _ _ q => Heap.get?_push_of_some _ q) (Nat.le_refl _) (S6 s.heap I.big), rfl, ?_⟩; exact k _ _ _ _ (h _ (jA ok hp).1) (Ext.cell ok hp hk) (ok.cell hp hk (show RKV _ _ _ _ _ _ from rfl)) ⟨rfl, by rw [cX]; rfl⟩
@[simp] def yD (fo fi f : DE) : DS := fun E d m => f d m fun x m1 => fo d m1 fun o m2 => fi d m2 fun y m3 => ∃ c k kvs p, o = .cel c ∧ oZ y = some k ∧ x = .dat p ∧ m3 c = some (.d kvs) ∧ kvs.length < sizeLine ∧ E.nx d (bN m3 c (.d (oO kvs k p)))
theorem L5 (hu : X.A.units + 100 < cLine) (he : PE X e (LE X.K f)) (ho : PE X o (LE X.K fo)) (hi : PE X i (LE X.K fi)) (hs : swapsWith e (some (.Subscript o i tpos)) pos.line X.env = pure false := by rfl) :
  PS X (.Assign [.Subscript o i tpos] e pos) (LS X.K (yD fo fi f)) := PS.imp (P6 (by omega) ho hi he hs) fun E s H h => by
 obtain ⟨Z, d, m, R, ok, rs, h, k, _⟩ := h; refine ⟨Z, d, m, _, ok, rs, h, fun x m1 v H1 q e1 ok1 r1 => ⟨Z, d, m1, _, ok1, rs.ext e1, q, fun o m2 w H2 q2 e2 ok2 r2 => ⟨Z, d, m2, _, ok2, (rs.ext e1).ext e2, q2, fun y m3 z H3 q3 e3 ok3 r3 => ?_⟩⟩⟩; obtain ⟨c, ky, kvs, p, rfl, hk, rfl, hm, hl, q⟩ := q3
 cases r3.key hk
 obtain ⟨rfl, _⟩ := r2.ext e3; obtain ⟨vs, g1, g2⟩ := ok3.d hm; have r1' := r1.ext (e2.trans e3)
 refine ⟨c, _, rfl, .inl ⟨vs, ky, g1, rfl, by rw [g2.length]; exact hl, rfl⟩, ?_⟩
 have e4 : Ext X.K Z m3 H3 (bN m3 c (.d (oO kvs ky p))) (aN H3 c (.dK (cT vs ky v))) := Ext.put ok3 hm g1
 exact k d _ s _ q (e1.trans (e2.trans (e3.trans e4))) (ok3.put hm g1 (show RKV _ _ _ _ _ _ from g2.put r1')) ((rs.ext e1).ext (e2.trans (e3.trans e4)))
end
end DL
namespace DL
open PySem PySem.Spec PyProof.Rows L2
def KEnt (w : World) : List DictEntry → List (Str × V) → Prop
 | [], [] => True
 | e :: es, (z, v) :: kvs => e.hash = PyData.keyHash w.params z ∧ (∃ t, e.key = .str z t) ∧ RelV v e.val ∧ KEnt w es kvs
 | _, _ => False
def KDt (K : PySem.W.Frag) (w : World) (a : Addr) (kvs : List (Str × V)) : Prop :=
 ∃ (o : Obj) (es : Array DictEntry) (ep : Nat), K.lookup a = some o ∧ o.cls = .type "dict" ∧ o.dict = none ∧ o.slots = #[] ∧ o.data = .dict es ep ∧ KEnt w es.toList kvs ∧ (kvs.map (·.1)).Nodup ∧ (a == sysModules) = false
def KD (K : PySem.W.Frag) (w : World) (a : Addr) (kvs : List (Str × PyData)) : Prop := ∃ vs : List (Str × V), KDt K w a vs ∧ ∀ (Z : Addr → Prop) (m : Mu) (H : Hp), RKV K Z m H kvs vs
def jE {α : Type} (kvs : List (Str × α)) : List (aS × α) := kvs.map fun kv => (.inr kv.1, kv.2)
theorem KEnt.out {P : Program} {w : World} : ∀ {es : List DictEntry} {kvs : List (Str × V)}, KEnt w es kvs → ∃ vs : List (Str × Value), KV (jE kvs) (jE vs) ∧ Pairs (cR P w) es (jE vs) ∧ (∀ e ∈ es, ∃ k, (cR P w).is k e.key = true ∧ e.hash = (cR P w).hash k) ∧ vs.map (·.1) = kvs.map (·.1)
 | [], [], _ => ⟨[], .nil, .nil, by simp, rfl⟩
 | e :: es, (z, v) :: kvs, ⟨h1, ⟨t, h2⟩, h3, h4⟩ => by
  obtain ⟨vs, q1, q2, q3, q4⟩ := KEnt.out (P := P) h4; have hk : (cR P w).is (.inr z) e.key = true := by
   rw [h2]; exact decide_eq_true (rfl : z = z)
  refine ⟨(z, e.val) :: vs, .cons ⟨rfl, h3⟩ q1, .cons hk rfl q2, fun x hx => ?_, by simp [q4]⟩
  rcases List.mem_cons.mp hx with rfl | hx
  ·exact ⟨_, hk, h1⟩
  ·exact q3 x hx
 | [], _ :: _, h => h.elim
 | _ :: _, [], h => h.elim
theorem KDt.dictOf {K : PySem.W.Frag} {P : Program} {w : World} {a : Addr} {kvs : List (Str × V)} {h : Heap} (q : KDt K w a kvs) (hK : K.In h) : ∃ vs : List (aS × Value), KV (jE kvs) vs ∧ h.DictOf (cR P w) a vs := by
 obtain ⟨o, es, ep, h1, h2, h3, h4, h5, h6, h7, _⟩ := q; obtain ⟨vs, q1, q2, q3, q4⟩ := KEnt.out (P := P) h6; refine ⟨_, q1, o, es, ep, hK _ _ h1, ⟨h2, h3, h4⟩, h5, fun e he => q3 e (by simpa using he), q2, ?_⟩
 have e : (jE vs).map (·.1) = (kvs.map (·.1)).map Sum.inr := by
  rw [← q4]; simp [jE, Function.comp_def]
 rw [e]; exact List.Pairwise.map _ (fun a b hab h => hab (Sum.inr.inj h)) h7
theorem Jc {z : Str} : ∀ kvs : List (Str × V), bW (jE kvs) (.inr z) = bW kvs z
 | [] => rfl
 | (y, v) :: kvs => by
  have ih := Jc (z := z) kvs
  unfold bW jE at *
  by_cases c : y = z
  ·simp [List.find?_cons, c]
  ·simp only [List.map_cons, List.find?_cons, c, decide_false, Sum.inr.injEq]; exact ih
theorem RKV.val_none {κ : Type} [DecidableEq κ] {K : PySem.W.Frag} {Z : Addr → Prop} {m : Mu} {H : Hp} {k : κ} : ∀ {kvs : List (κ × PyData)} {vs : List (κ × V)}, RKV K Z m H kvs vs → dS kvs k = none → bW vs k = none
 | [], _, h, _ => by cases (show _ = [] from h); rfl
 | (j, q) :: xs, _, ⟨v, r, h1, h2, h3⟩, e => by
  subst h1; unfold dS at e; unfold bW
  by_cases c : j = k
  ·simp [List.find?_cons, c] at e
  ·simp [List.find?_cons, c] at e ⊢; have := RKV.val_none (k := k) h3 (by unfold dS; simpa using e)
   unfold bW at this; simpa using this
theorem eP {K : PySem.W.Frag} {Z : Addr → Prop} {m : Mu} {H : Hp} {a : Addr} {is : List Int} (h : SqT K H a (is.map V.int)) : RP K Z m H (.tuple (is.map PyData.int)) (.ref a) := by
 simp only [RP]; exact ⟨a, _, rfl, h, Bx is⟩
section
variable {X : Cx} {i e g : Expr} {fi f fg : DE} {p pos apos cpos : Pos}
@[simp] def kH (kvs : List (Str × PyData)) (fi : DE) : DE := fun d m Q => fi d m fun y m1 => ∃ (z : Str) (q : PyData), y = .dat (.str z) ∧ dS kvs z = some q ∧ Q (.dat q) m1
theorem P8 {x : Str} {c : Addr} {kvs : List (Str × PyData)} (hg : Gl X x) (hm : X.mg x = some (.ref c)) (hk : KD X.K X.w c kvs) (hi : PE X i (LE X.K fi)) (hd : (x == ("__debug__" : Str)) = false := by decide) (hs : rC i := by exact fun _ _ => rfl) :
  PE X (.Subscript (.Name x p) i pos) (LE X.K (kH kvs fi)) := by
 intro pins s σ H Q I h; obtain ⟨Z, d, m, R, ok, rs, h, k⟩ := h; obtain ⟨vs, kd, rk⟩ := hk; refine Nu PySem.F.slot_dict_getitem.lookup hs (aL (wL (v := .ref c) hg hm rfl hd pins s σ H (fun x H1 => x = .ref c ∧ H1 = H) I ⟨rfl, rfl⟩) fun u s1 ⟨x, H1, I1, rx, ex, eH⟩ => ?_); subst ex; subst eH; obtain rfl : u = Value.ref c := rx; refine aL (hi pins s1 σ _ (fun v H2 => ∃ (z : Str) (w : V), v = .str z ∧ bW vs z = some w ∧ Q w H2) I1 ⟨Z, d, m, _, ok, rs, h, fun y m1 v H1 ⟨z, q, ey, hv, hq⟩ e1 ok1 r1 => ?_⟩) fun iv s2 ⟨y, H2, I2, ry, z, w, ey, hw, q2⟩ => ?_
 ·subst ey
  cases r1.str
  obtain ⟨w, hw, rw'⟩ := (rk Z m1 H1).val hv; exact ⟨z, w, rfl, hw, k _ m1 _ H1 hq e1 ok1 rw'⟩
 ·subst ey; obtain ⟨ws, rel, dd⟩ := kd.dictOf (P := X.prog) I2.kIn; obtain ⟨w', hw', rw'⟩ := RelO.some_of (v := w) (o := valueAt ws (.inr z)) (by rw [← hw, ← Jc]; exact rel.val _)
  exact ⟨dd.typeIs, wpAny_getItem_of (uY (k := .inr z) ry) dd.mapOf hw' ⟨w, H2, I2.tok _, rw', q2⟩⟩
end
end DL
namespace DL
open PySem PySem.Spec PyProof.Rows L2
@[simp] def wC : List D → Option (List aS)
 | [] => some []
 | x :: xs => match oZ x, wC xs with
  | some k, some ks => some (k :: ks)
  | _, _ => none
theorem RDs.keys {K : PySem.W.Frag} {Z : Addr → Prop} {m : Mu} {H : Hp} : ∀ {xs : List D} {vs : List V} {ks : List aS}, RDs K Z m H xs vs → wC xs = some ks → vs = ks.map kV
 | [], vs, ks, h, e => by
  cases e
  exact h
 | x :: xs, vs, ks, h, e => by
  obtain ⟨v, r, rfl, h1, h2⟩ := h; unfold wC at e
  cases e1 : oZ x with
  | none => rw [e1] at e; cases e
  | some k =>
   cases e2 : wC xs with
   | none => rw [e1, e2] at e; cases e
   | some ks' =>
    rw [e1, e2] at e
    cases e
    rw [h1.key e1, RDs.keys h2 e2]; rfl
end DL
namespace DL
open PySem PySem.Spec PyProof.Rows L2
def KTEnt (K : PySem.W.Frag) (w : World) : List DictEntry → List (List Str × Addr × V) → Prop
 | [], [] => True
 | e :: es, (zs, a, v) :: xs => e.hash = reduceHash (Builtin.Tuple.tupleHashOf (zs.map (PyData.keyHash w.params))) ∧ e.key = .ref a ∧ RelV v e.val ∧ KT K a zs ∧ KTEnt K w es xs
 | _, _ => False
def KTDt (K : PySem.W.Frag) (w : World) (c : Addr) (xs : List (List Str × Addr × V)) : Prop :=
 ∃ (o : Obj) (es : Array DictEntry) (ep : Nat), K.lookup c = some o ∧ o.cls = .type "dict" ∧ o.dict = none ∧ o.slots = #[] ∧ o.data = .dict es ep ∧ KTEnt K w es.toList xs ∧ (xs.map (·.1)).Nodup ∧ (c == sysModules) = false
def wF (K : PySem.W.Frag) (w : World) (c : Addr) (kvs : List (List Str × PyData)) : Prop := ∃ xs : List (List Str × Addr × V), KTDt K w c xs ∧ ∀ (Z : Addr → Prop) (m : Mu) (H : Hp), RKV K Z m H kvs (xs.map fun x => (x.1, x.2.2))
theorem Qw (zs : List Str) : (zs.map (Sum.inr : Str → aS)).map kV = zs.map V.str := by
 rw [List.map_map]; rfl
section
variable {X : Cx} {pins : List (Addr × Obj)} {σ : L2.St} {H : Hp} {s : Shared}
theorem Hx {a : Addr} {zs : List Str} (I : Inv X pins σ H s) (h : SqT X.K H a (zs.map V.str)) : (tupleKind (cR X.prog X.w)).is s.heap (zs.map Sum.inr) a := by
 obtain ⟨its, r, ⟨o, h1, h2, n, h3⟩, _⟩ := I.tuple h; rw [← Qw] at r; exact ⟨o, its.toArray, n, h1, h2, h3, by simpa using Dl r⟩
theorem KTEnt.out (I : Inv X pins σ H s) : ∀ {es : List DictEntry} {xs : List (List Str × Addr × V)}, KTEnt X.K X.w es xs → ∃ ys : List (List aS × Addr × Value), es = ys.map (entryOfKey (tupleKind (cR X.prog X.w))) ∧ (∀ y ∈ ys, (tupleKind (cR X.prog X.w)).is s.heap y.1 y.2.1) ∧ ys.map (·.1) = xs.map (fun x => x.1.map Sum.inr) ∧
  ∀ zs : List Str, RelO (bW (xs.map fun x => (x.1, x.2.2)) zs) ((atKey ys (zs.map Sum.inr)).map (·.2))
 | [], [], _ => ⟨[], rfl, by simp, rfl, fun _ => True.intro⟩
 | e :: es, (zs, a, v) :: xs, ⟨h1, h2, h3, h4, h5⟩ => by
  obtain ⟨ys, q1, q2, q3, q4⟩ := KTEnt.out I h5; refine ⟨(zs.map Sum.inr, a, e.val) :: ys, ?_, fun y hy => ?_, by simp [q3], fun z => ?_⟩
  ·rw [List.map_cons, ← q1]
   congr 1
   obtain ⟨eh, ek, ev⟩ := e; simp only at h1 h2; subst h1 h2; unfold entryOfKey
   congr 1
   show _ = reduceHash (Builtin.Tuple.tupleHashOf ((zs.map Sum.inr).map (cR X.prog X.w).hash))
   rw [List.map_map]; rfl
  ·rcases List.mem_cons.mp hy with rfl | hy
   ·exact Hx I h4.sq
   ·exact q2 y hy
  ·by_cases c : zs = z
   ·subst c; unfold bW atKey; simp only [List.map_cons, List.find?_cons, decide_true, Option.map_some]; exact h3
   ·have c' : ¬ zs.map (Sum.inr : Str → aS) = z.map Sum.inr := fun h => c ((List.map_inj_right (fun _ _ q => Sum.inr.inj q)).mp h)
    have := q4 z
    unfold bW atKey at this ⊢; simp only [List.map_cons, List.find?_cons, decide_eq_false c, decide_eq_false c']; exact this
 | [], _ :: _, h => h.elim
 | _ :: _, [], h => h.elim
theorem KTDt.out {c : Addr} {xs : List (List Str × Addr × V)} (I : Inv X pins σ H s) (q : KTDt X.K X.w c xs) : (c == sysModules) = false ∧ ∃ ys : List (List aS × Addr × Value), s.heap.DictOfH (tupleKind (cR X.prog X.w)) c ys ∧
  ∀ zs : List Str, RelO (bW (xs.map fun x => (x.1, x.2.2)) zs) ((atKey ys (zs.map Sum.inr)).map (·.2)) := by
 obtain ⟨o, es, ep, h1, h2, h3, h4, h5, h6, h7, h8⟩ := q; obtain ⟨ys, q1, q2, q3, q4⟩ := KTEnt.out I h6; refine ⟨h8, ys, ⟨o, es, ep, I.kIn _ _ h1, ⟨h2, h3, h4⟩, h5, q1, q2, ?_⟩, q4⟩; rw [q3]; have e : xs.map (fun x => x.1.map (Sum.inr : Str → aS)) = (xs.map (·.1)).map (fun z => z.map Sum.inr) := by simp
 rw [e]; exact List.Pairwise.map _ (fun a b hab h => hab ((List.map_inj_right (fun _ _ q => Sum.inr.inj q)).mp h)) h7
end
theorem KT.rp {K : PySem.W.Frag} {a : Addr} {zs : List Str} {Z : Addr → Prop} {m : Mu} {H : Hp} (h : KT K a zs) : RP K Z m H (.tuple (zs.map PyData.str)) (.ref a) := by
 simp only [RP]; exact ⟨a, _, rfl, h.sq, An zs⟩
section
variable {X : Cx} {e g : Expr} {fi fg : DE} {p apos cpos : Pos}
@[simp] def sF (kvs : List (List Str × PyData)) (fi fg : DE) : DE := fun d m Q => fi d m fun y m1 => ∃ zs : List Str, y = .dat (.tuple (zs.map .str)) ∧ fg d m1 fun x m2 => Q (match dS kvs zs with | some q => .dat q | none => x) m2
theorem K7 {x : Str} {c : Addr} {kvs : List (List Str × PyData)} (hu : X.A.units + 100 < cLine) (hg : Gl X x) (hm : X.mg x = some (.ref c)) (hk : wF X.K X.w c kvs) (he : PE X e (LE X.K fi)) (hf : PE X g (LE X.K fg)) (hd : (x == ("__debug__" : Str)) = false := by decide)
  (hbase : attributeBase (.Name x p) "get" X.env (eval (.Name x p) X.env) = eval (.Name x p) X.env := by rfl)
  (hfew : ((backTo cpos (starEach [e, g] X.env)).all (fun x => !x.1) && (backToKw cpos (keywordEach [] X.env)).all (fun x => x.1.isSome) && decide (([e, g] : List Expr).length + ([] : List Keyword).length + (if ([] : List Keyword).isEmpty then 0 else 1) < 30)) = true := by rfl)
  (hline : (apos.endLine == cpos.line) = true := by rfl) (hs : backTo cpos (starEach [e, g] X.env) = [(false, eval e X.env), (false, eval g X.env)] := by rfl) :
  PE X (.Call (.Attribute (.Name x p) "get" apos) [e, g] [] cpos) (LE X.K (sF kvs fi fg)) := by
 intro pins s σ H Q I h; obtain ⟨Z, d, m, R, ok, rs, h, k⟩ := h; obtain ⟨xs, kd, rk⟩ := hk; refine wpAny_Call_method hbase hfew hline PySem.F.plainAttrs_dict PySem.F.slot_dict_get PySem.F.type_dict_get (aL (wL (v := .ref c) hg hm rfl hd pins s σ H (fun x H1 => x = .ref c ∧ H1 = H) I ⟨rfl, rfl⟩) fun u s1 ⟨x, H1, I1, rx, ex, eH⟩ => ?_); subst ex; subst eH; obtain rfl : u = Value.ref c := rx; obtain ⟨_, ws1, dd1, _⟩ := kd.out I1; refine ⟨dd1.typeIs, fun b q => ?_, ?_⟩
 ·cases q
  obtain ⟨ob, _, _, h1, h2, _⟩ := dd1; exact ⟨ob, h1, h2.2.1⟩
 rw [hs]; refine Calls.callWith_builtin rfl (Calls.evalArgs_plain (Calls.spliced_cons (aL (he pins s1 σ _ (fun v H2 => ∃ (zs : List Str) (b : Addr), v = .ref b ∧ LE X.K fg σ H2 fun v2 H3 => SqT X.K H3 b (zs.map V.str) ∧ Q ((bW (xs.map fun x => (x.1, x.2.2)) zs).getD v2) H3) I1 ⟨Z, d, m, _, ok, rs, h, fun y m1 v H1 ⟨zs, ey, hq⟩ e1 ok1 r1 => ?_⟩) fun iv s2 ⟨y, H2, I2, ry, zs, b, ey, q2⟩ =>
  Calls.spliced_cons (aL (hf pins s2 σ H2 _ I2 q2) fun fv s3 ⟨v2, H3, I3, rz, sq, q3⟩ => Calls.spliced_nil ?_))))
 ·subst ey; have r1' := r1
  simp only [RD, RP] at r1'; obtain ⟨b, vs, rfl, _, _⟩ := r1'; refine ⟨zs, b, rfl, Z, d, m1, _, ok1, rs.ext e1, hq, fun x m2 v2 H2 hq2 e2 ok2 r2 => ⟨?_, ?_⟩⟩
  ·have r3 := r1.ext e2
   simp only [RD, RP] at r3; obtain ⟨b', vs', e', h1, h2⟩ := r3
   cases e'
   cases kZ h2
   exact h1
  ·cases hv : dS kvs zs with
   | none =>
    rw [hv] at hq2; rw [(rk Z m2 H2).val_none hv]; exact k _ m2 _ H2 hq2 (e1.trans e2) ok2 r2
   | some q =>
    rw [hv] at hq2; obtain ⟨w, hw, rw'⟩ := (rk Z m2 H2).val hv; rw [hw]; exact k _ m2 _ H2 hq2 (e1.trans e2) ok2 rw'
 ·subst ey
  cases (show iv = Value.ref b from ry)
  obtain ⟨sy, ys, dd, rel⟩ := kd.out I3; exact call_meetsIn PySem.F.slot_dict_get dd.typeIs PySem.F.entry_dict_get (PySem.F.args_dict_get_3 _ _ _) (meetsH_dict_get_default (tupleKind (cR X.prog X.w)) c b sy fv) ⟨tupleKind_room_in1 (by omega), zs.map Sum.inr, ys, Hx I3 sq, dd, ⟨_, H3, I3.tok _, (rel zs).getD rz, q3⟩⟩
end
end DL
namespace DL
open PySem PySem.Spec PyProof.Rows L2
section
variable {prog : Program} {w : World} {A : Around} {E : Value → Shared → Prop} {s : Shared}
structure Zsl (h : Heap) (z TI TO i1 i2 t1 t2 : Addr) (f0 : Value) (k : Nat) : Prop where
 z : IsZip h z TI TO f0
 ti : IsPair h TI (.ref i1) (.ref i2)
 to : ∃ a b, IsPair h TO a b
 a : h.IsListIter i1 t1 k
 b : h.IsTupleIter i2 t2 k
theorem Qz {z TI TO i1 i2 t1 t2 : Addr} {k : Nat} {xs ys : Array Value} {x y : Value} {Q : Value → Shared → Prop} (D : ZipApart z TI TO i1 i2 t1 t2) (S : Zsl s.heap z TI TO i1 i2 t1 t2 .none k)
  (g1 : s.heap.IsList t1 xs) (g2 : s.heap.IsTuple t2 ys) (hx : xs[k]? = some x) (hy : ys[k]? = some y)
  (hQ : ∀ h', Zsl h' z TI TO i1 i2 t1 t2 (rawInt s.heap.objs.size) (k + 1) → IsPair h' s.heap.objs.size x y →
   (∀ c o, c ≠ z → c ≠ TO → c ≠ i1 → c ≠ i2 → s.heap.get? c = some o → h'.get? c = some o) → Q (.ref s.heap.objs.size) { s with heap := h' }) :
  wpAny (model prog w) A (Builtin.«zip.__next__» ⟨[.ref z], []⟩) (fun fin s' => ∃ v, fin = .done (.ret v) ∧ Q v s') E s := by
 obtain ⟨hz, hTI, ⟨a, b, hTO⟩, h1, h2⟩ := S; show wpAny _ _ (field (.ref z) 2 >>= _) _ _ _; refine wpAny_bind (wpAny_field hz rfl (x := .bool false) rfl ?_)
 show wpAny _ _ (field (.ref z) 3 >>= _) _ _ _; refine wpAny_bind (wpAny_field hz rfl (x := .ref TI) rfl (wpAny_bind (wpAny_seqItems hTI rfl ?_)))
 show wpAny _ _ (Builtin.SmallTypes.ownedTupleIsFree (.ref z) >>= _) _ _ _; refine wpAny_bind ?_
 unfold Builtin.SmallTypes.ownedTupleIsFree; refine wpAny_bind (wpAny_field hz rfl (x := .none) rfl (wpAny_pure ?_)); simp only [if_true]; refine wpAny_bind (wpAny_rule (wpAny_bind (wpAny_field hz rfl (x := .ref TO) rfl ?_))); refine wpAny_bind (wpAny_setField_rec hz (by simp) fun n1 z1 c1 => ?_); replace z1 : IsZip n1 z TI TO .ellipsis := z1
 refine wpAny_bind ?_; simp only [List.zipIdx_cons, List.zipIdx_nil, List.forIn_cons, List.forIn_nil]; refine wpAny_bind (wpAny_bind (wpAny_onRaise ?_)); show wpAny _ _ (Builtin.SmallTypes.nextOf (.ref i1) >>= _) _ _ _
 refine wpAny_bind (wpAny_nextOf_list_item (h1.at fun o e => c1.extBut _ o D.i1z e) (g1.extBut c1.extBut D.l1z) hx fun n2 b2 c2 => wpAny_pure ?_); have p2 : IsPair n2 TO a b := c2.extBut _ _ D.TOi1 (c1.extBut _ _ D.TOz hTO)
 refine wpAny_bind (wpAny_seqItems p2 rfl (wpAny_bind (wpAny_updateSeq_pair p2 fun n3 p3 c3 => ?_))); replace p3 : IsPair n3 TO x b := p3; refine wpAny_bind (wpAny_letGo (wpAny_pure (wpAny_bind (wpAny_bind (wpAny_onRaise ?_))))); show wpAny _ _ (Builtin.SmallTypes.nextOf (.ref i2) >>= _) _ _ _
 have up3 : ∀ c o, c ≠ z → c ≠ TO → c ≠ i1 → s.heap.get? c = some o → n3.get? c = some o := fun c o q1 q2 q3 e => c3.extBut _ _ q2 (c2.extBut _ _ q3 (c1.extBut _ _ q1 e))
 have g23 : n3.IsTuple t2 ys := by
  obtain ⟨o, ho, r⟩ := g2; exact ⟨o, up3 _ _ D.l2z D.l2TO D.l2i1 ho, r⟩
 refine wpAny_bind (vY (h2.at fun o e => up3 _ o D.i2z D.TOi2.symm D.i12.symm e) g23 hy fun n4 b4 c4 => wpAny_pure ?_); have p4 : IsPair n4 TO x b := c4.extBut _ _ D.TOi2 p3
 refine wpAny_bind (wpAny_seqItems p4 rfl (wpAny_bind (wpAny_updateSeq_pair p4 fun n5 p5 c5 => ?_))); replace p5 : IsPair n5 TO x y := p5; refine wpAny_bind (wpAny_letGo (wpAny_pure (wpAny_pure (wpAny_bind (wpAny_seqItems p5 rfl (wpAny_bind (wpAny_newTuple ?_))))))); have size5 : n5.objs.size = s.heap.objs.size := by rw [c5.1, c4.1, c3.1, c2.1, c1.1]
 have z5 : IsZip n5 z TI TO .ellipsis := c5.extBut _ _ D.TOz.symm (c4.extBut _ _ D.i2z.symm (c3.extBut _ _ D.TOz.symm (c2.extBut _ _ D.i1z.symm z1)))
 have up5 : ∀ c o, c ≠ z → c ≠ TO → c ≠ i1 → c ≠ i2 → s.heap.get? c = some o → n5.get? c = some o := fun c o q1 q2 q3 q4 e => c5.extBut _ _ q2 (c4.extBut _ _ q4 (up3 c o q1 q2 q3 e))
 have a5 : n5.IsListIter i1 t1 (k + 1) := b2.at fun o e => c5.extBut _ _ D.TOi1.symm (c4.extBut _ _ D.i12 (c3.extBut _ _ D.TOi1.symm e))
 have b5 : n5.IsTupleIter i2 t2 (k + 1) := b4.at fun o e => c5.extBut _ _ D.TOi2.symm e
 have zlt : z < n5.objs.size := Heap.lt_size z5
 show wpAny _ _ (Builtin.SmallTypes.ownedTupleHandOut (.ref z) (.ref n5.objs.size) >>= _) _ _ _; refine wpAny_bind ?_
 unfold Builtin.SmallTypes.ownedTupleHandOut; have z6 : IsZip (n5.push { cls := .type "tuple", data := .seq #[x, y] }) z TI TO .ellipsis := Heap.get?_push_of_some _ z5
 refine wpAny_bind (wpAny_setField_rec z6 (by simp) fun n7 z7 c7 => ?_); replace z7 : IsZip n7 z TI TO (rawInt n5.objs.size) := z7
 refine wpAny_setField_rec z7 (by simp) fun n8 z8 c8 => ?_; replace z8 : IsZip n8 z TI TO (rawInt n5.objs.size) := z8
 have up8 : ∀ c o, c ≠ z → n5.get? c = some o → n8.get? c = some o := fun c o q e => c8.extBut _ _ q (c7.extBut _ _ q (Heap.get?_push_of_some _ e))
 have new8 : IsPair n8 n5.objs.size x y := c8.extBut _ _ (Nat.ne_of_gt zlt) (c7.extBut _ _ (Nat.ne_of_gt zlt) (Heap.get?_push_size _ rfl))
 rw [size5] at z8 new8; refine wpAny_pure ⟨_, rfl, ?_⟩; show Q (.ref n5.objs.size) _
 rw [size5]; exact hQ n8 ⟨z8, up8 _ _ D.TIz (up5 _ _ D.TIz D.TITO D.TIi1 D.TIi2 hTI), ⟨x, y, up8 _ _ D.TOz p5⟩, a5.at fun o e => up8 _ o D.i1z e, b5.at fun o e => up8 _ o D.i2z e⟩ new8 fun c o q1 q2 q3 q4 e => up8 c o q1 (up5 c o q1 q2 q3 q4 e)
theorem Qe {z TI TO i1 i2 t1 t2 : Addr} {k : Nat} {xs ys : Array Value} {Q : Fin → Shared → Prop} (hh : A.handled = none) (D : ZipApart z TI TO i1 i2 t1 t2) (S : Zsl s.heap z TI TO i1 i2 t1 t2 .none k)
  (g1 : s.heap.IsList t1 xs) (g2 : s.heap.IsTuple t2 ys) (hend : xs[k]? = none ∨ ys[k]? = none)
  (hE : ∀ h' e, (∀ c o, c ≠ z → c ≠ TO → c ≠ i1 → c ≠ i2 → s.heap.get? c = some o → h'.get? c = some o) → (∃ o, h'.get? e = some o ∧ o.cls = .type "StopIteration") → E (.ref e) { s with heap := h' }) :
  wpAny (model prog w) A (Builtin.«zip.__next__» ⟨[.ref z], []⟩) Q E s := by
 obtain ⟨hz, hTI, ⟨a, b, hTO⟩, h1, h2⟩ := S; show wpAny _ _ (field (.ref z) 2 >>= _) _ _ _; refine wpAny_bind (wpAny_field hz rfl (x := .bool false) rfl ?_)
 show wpAny _ _ (field (.ref z) 3 >>= _) _ _ _; refine wpAny_bind (wpAny_field hz rfl (x := .ref TI) rfl (wpAny_bind (wpAny_seqItems hTI rfl ?_)))
 show wpAny _ _ (Builtin.SmallTypes.ownedTupleIsFree (.ref z) >>= _) _ _ _; refine wpAny_bind ?_
 unfold Builtin.SmallTypes.ownedTupleIsFree; refine wpAny_bind (wpAny_field hz rfl (x := .none) rfl (wpAny_pure ?_)); simp only [if_true]; refine wpAny_bind (wpAny_rule (wpAny_bind (wpAny_field hz rfl (x := .ref TO) rfl ?_))); refine wpAny_bind (wpAny_setField_rec hz (by simp) fun n1 z1 c1 => ?_); replace z1 : IsZip n1 z TI TO .ellipsis := z1
 refine wpAny_bind ?_; simp only [List.zipIdx_cons, List.zipIdx_nil, List.forIn_cons, List.forIn_nil]; refine wpAny_bind (wpAny_bind (wpAny_onRaise ?_)); show wpAny _ _ (Builtin.SmallTypes.nextOf (.ref i1) >>= _) _ _ _
 have apart : ∀ (n : Heap) (e : Addr) (oe : Obj), IsZip n z TI TO .ellipsis → n.get? e = some oe → oe.cls = .type "StopIteration" → e ≠ z := fun n e oe q q1 q2 q3 => by
  subst q3; rw [q] at q1
  cases q1
  simp at q2
 cases hx : xs[k]? with
 | none =>
  refine wpAny_bind (wpAny_nextOf_list_end hh (h1.at fun o e => c1.extBut _ o D.i1z e) (g1.extBut c1.extBut D.l1z) hx fun n2 e c2 he => ?_); obtain ⟨oe, q1, q2⟩ := he; have z2 : IsZip n2 z TI TO .ellipsis := c2 _ _ D.i1z.symm z1
  exact wpAny_setField_rec z2 (by simp) fun n3 _ c3 => hE n3 e (fun c o r1 _ r3 _ q => c3.extBut _ _ r1 (c2 _ _ r3 (c1.extBut _ _ r1 q))) ⟨oe, c3.extBut _ _ (apart _ _ _ z2 q1 q2) q1, q2⟩
 | some x =>
  have hy : ys[k]? = none := by
   rcases hend with h | h
   ·rw [hx] at h; cases h
   ·exact h
  refine wpAny_bind (wpAny_nextOf_list_item (h1.at fun o e => c1.extBut _ o D.i1z e) (g1.extBut c1.extBut D.l1z) hx fun n2 b2 c2 => wpAny_pure ?_); have p2 : IsPair n2 TO a b := c2.extBut _ _ D.TOi1 (c1.extBut _ _ D.TOz hTO)
  refine wpAny_bind (wpAny_seqItems p2 rfl (wpAny_bind (wpAny_updateSeq_pair p2 fun n3 p3 c3 => ?_))); refine wpAny_bind (wpAny_letGo (wpAny_pure (wpAny_bind (wpAny_bind (wpAny_onRaise ?_))))); show wpAny _ _ (Builtin.SmallTypes.nextOf (.ref i2) >>= _) _ _ _
  have up3 : ∀ c o, c ≠ z → c ≠ TO → c ≠ i1 → s.heap.get? c = some o → n3.get? c = some o := fun c o q1 q2 q3 e => c3.extBut _ _ q2 (c2.extBut _ _ q3 (c1.extBut _ _ q1 e))
  have g23 : n3.IsTuple t2 ys := by
   obtain ⟨o, ho, r⟩ := g2; exact ⟨o, up3 _ _ D.l2z D.l2TO D.l2i1 ho, r⟩
  refine wpAny_bind (Di hh (h2.at fun o e => up3 _ o D.i2z D.TOi2.symm D.i12.symm e) g23 hy fun n4 e c4 he => ?_); obtain ⟨oe, q1, q2⟩ := he; have z4 : IsZip n4 z TI TO .ellipsis := c4 _ _ D.i2z.symm (c3.extBut _ _ D.TOz.symm (c2.extBut _ _ D.i1z.symm z1))
  exact wpAny_setField_rec z4 (by simp) fun n5 _ c5 => hE n5 e (fun c o r1 r2 r3 r4 q => c5.extBut _ _ r1 (c4 _ _ r4 (up3 c o r1 r2 r3 q))) ⟨oe, c5.extBut _ _ (apart _ _ _ z4 q1 q2) q1, q2⟩
abbrev vN (h : Heap) (t1 : Addr) : Heap := h.push { cls := .type "list_iterator", data := .fields #[.ref t1, .int 0 0] }
abbrev tV (h : Heap) (t1 t2 : Addr) : Heap := (vN h t1).push { cls := .type "tuple_iterator", data := .fields #[.ref t2, .int 0 0] }
abbrev sG (h : Heap) (t1 t2 : Addr) : Heap := (tV h t1 t2).push { cls := .type "tuple", data := .seq #[.ref h.objs.size, .ref (vN h t1).objs.size] }
abbrev tP (h : Heap) (t1 t2 : Addr) : Heap := (sG h t1 t2).push { cls := .type "tuple", data := .seq #[.none, .none] }
abbrev nD (h : Heap) (t1 t2 : Addr) : Heap := (tP h t1 t2).push { cls := .type "zip", data := .fields #[.none, .bool false, .bool false, .ref (tV h t1 t2).objs.size, .ref (sG h t1 t2).objs.size] }
theorem t7 (t1 t2 : Addr) (xs ys : Array Value) : Meets (Builtin.«zip.__new__» ⟨[.type "zip", .ref t1, .ref t2], []⟩) (fun _ R s => s.heap.IsList t1 xs ∧ s.heap.IsTuple t2 ys ∧
  R (.ok (.ret (.ref (tP s.heap t1 t2).objs.size))) { s with heap := nD s.heap t1 t2 }) := .of_wp fun prog w A R s hs => by
 obtain ⟨hp, g, d, tk, os⟩ := s; obtain ⟨hl1, hl2, h⟩ := hs; have hsub := sub_zip
 have u1 : Heap.IsList (Shared.heap ⟨hp, g, d, tk, os⟩) t1 xs := hl1
 have u2 : Heap.IsTuple (Shared.heap ⟨hp.push { cls := .type "list_iterator", data := .fields #[.ref t1, .int 0 0] }, g, d, tk, os⟩) t2 ys := Ix hl2 _
 wp_walk using wpAny_pyIter_list u1, wpAny_pyIter_tuple u2
 exact ⟨_, rfl, h⟩
theorem J2 {t1 t2 : Addr} {xs ys : Array Value} {Q : Value → Shared → Prop} (g1 : s.heap.IsList t1 xs) (g2 : s.heap.IsTuple t2 ys)
  (h : ∀ h' n, n = s.heap.objs.size → Zsl h' (n + 4) (n + 2) (n + 3) n (n + 1) t1 t2 .none 0 → (∀ c o, s.heap.get? c = some o → h'.get? c = some o) → Q (.ref (n + 4)) { s with heap := h' }) : wpAny (model prog w) A (call (.type "zip") [.ref t1, .ref t2]) Q E s := by
 refine callType_new F.called_zip (by decide) (F.typeCall_zip_2 _ _) (F.newCall_zip_2 _ _) (fun obj => F.args_object_init_3 obj _ _) F.entry_zip_new (t7 t1 t2 xs ys) ⟨g1, g2, ?_⟩
 have z1 : (vN s.heap t1).objs.size = s.heap.objs.size + 1 := Heap.size_push ..
 have z2 : (tV s.heap t1 t2).objs.size = s.heap.objs.size + 2 := by rw [Heap.size_push, z1]
 have z3 : (sG s.heap t1 t2).objs.size = s.heap.objs.size + 3 := by rw [Heap.size_push, z2]
 have z4 : (tP s.heap t1 t2).objs.size = s.heap.objs.size + 4 := by rw [Heap.size_push, z3]
 have a5 : (nD s.heap t1 t2).get? (tP s.heap t1 t2).objs.size = some _ := Heap.get?_push_size _ rfl
 have a4 : (nD s.heap t1 t2).get? (sG s.heap t1 t2).objs.size = some _ := Heap.get?_push_of_some _ (Heap.get?_push_size _ rfl)
 have a3 : (nD s.heap t1 t2).get? (tV s.heap t1 t2).objs.size = some _ := Heap.get?_push_of_some _ (Heap.get?_push_of_some _ (Heap.get?_push_size _ rfl))
 have a2 : (nD s.heap t1 t2).get? (vN s.heap t1).objs.size = some _ := Heap.get?_push_of_some _ (Heap.get?_push_of_some _ (Heap.get?_push_of_some _ (Heap.get?_push_size _ rfl)))
 have a1 : (nD s.heap t1 t2).get? s.heap.objs.size = some _ := Heap.get?_push_of_some _ (Heap.get?_push_of_some _ (Heap.get?_push_of_some _ (Heap.get?_push_of_some _ (Heap.get?_push_size _ rfl))))
 show _ ∧ _
 rw [z2, z3, z4] at a5; rw [z1, z2] at a3; rw [z3] at a4; rw [z1] at a2; rw [z4]; exact ⟨⟨_, a5, rfl⟩, h _ _ rfl ⟨a5, a3, ⟨_, _, a4⟩, ⟨_, a1, rfl, rfl⟩, ⟨_, a2, rfl, rfl⟩⟩ fun c o x => Heap.get?_push_of_some _ (Heap.get?_push_of_some _ (Heap.get?_push_of_some _ (Heap.get?_push_of_some _ (Heap.get?_push_of_some _ x))))⟩
end
def rP (K : PySem.W.Frag) (t1 t2 : Addr) (n : Nat) : It :=
 ⟨fun i H => i < n ∧ ∃ xs ys, SqL K H t1 xs ∧ SqT K H t2 ys ∧ n = min xs.length ys.length, fun i H v H' => ∃ p x y, v = .ref p ∧ H p = none ∧ H' = aN H p (.tup [x, y]) ∧ ∀ xs ys, SqL K H t1 xs → SqT K H t2 ys → xs[i]? = some x ∧ ys[i]? = some y,
  fun i H => i = n ∧ ∃ xs ys, SqL K H t1 xs ∧ SqT K H t2 ys ∧ n = min xs.length ys.length⟩
theorem Wl {P : Program} {w : World} {K : PySem.W.Frag} {elts : List Expr} {j : Nat} {pos : Pos} {z TI TO i1 i2 t1 t2 : Addr} {n : Nat} (D : ZipApart z TI TO i1 i2 t1 t2) :
  Turn P w K (.Tuple elts j pos) (rP K t1 t2 n) [z, TI, TO, i1, i2] z (fun i h => Zsl h z TI TO i1 i2 t1 t2 .none i) where
 mem := by simp
 obj := fun i h st b hb => by
  obtain ⟨h1, h2, ⟨a, c, h3⟩, ⟨o4, e4, _, d4⟩, ⟨o5, e5, _, d5⟩⟩ := st; simp only [List.mem_cons, List.not_mem_nil, or_false] at hb; rcases hb with rfl | rfl | rfl | rfl | rfl
  ·exact ⟨_, h1, fun v q => nomatch q⟩
  ·exact ⟨_, h2, fun v q => nomatch q⟩
  ·exact ⟨_, h3, fun v q => nomatch q⟩
  ·exact ⟨_, e4, fun v q => by rw [d4] at q; cases q⟩
  ·exact ⟨_, e5, fun v q => by rw [d5] at q; cases q⟩
 keep := fun i h h' st k => by
  obtain ⟨h1, h2, ⟨a, c, h3⟩, h4, h5⟩ := st; exact ⟨k z (by simp) _ h1, k TI (by simp) _ h2, ⟨a, c, k TO (by simp) _ h3⟩, h4.at fun o e => k i1 (by simp) o e, h5.at fun o e => k i2 (by simp) o e⟩
 item := by
  intro X hP hw hK hc i pins s σ H E I hf st hg; subst hP hw hK; obtain ⟨hi, xs, ys, q1, q2, hn⟩ := hg; obtain ⟨its1, r1, p1, l1⟩ := I.list q1; obtain ⟨its2, r2, p2, l2⟩ := I.tuple q2; have e1 : xs[i]? = some (xs[i]'(by omega)) := List.getElem?_eq_getElem (by omega)
  have e2 : ys[i]? = some (ys[i]'(by omega)) := List.getElem?_eq_getElem (by omega)
  obtain ⟨u1, hu1, ru1⟩ := r1.get e1; obtain ⟨u2, hu2, ru2⟩ := r2.get e2; have hT : s.TypeIs (.ref z) "zip" := ⟨_, st.z, rfl⟩
  have hp : H s.heap.objs.size = none := I.hok.fresh (Nat.le_refl _)
  unfold pyNext; refine wpAny_bind (wpAny_attempt (wpAny_callSpecial?_slot (name := Str.ofString "__next__") hT F.slot_zip_next (wpAny_call_entry F.slot_zip_next hT F.entry_zip_next (Qz D st p1.isList (show s.heap.IsTuple t2 its2.toArray from p2) (by simpa using hu1) (by simpa using hu2) fun h' st' np k => wpAny_pure ?_) (F.args_zip_next_1 _))))
  refine ⟨_, rfl, ?_⟩; refine wpAny_letOwnedTupleGo_zip (s := { s with heap := h' }) st'.z fun h2 z2 c2 => ?_; have I1 : Inv X pins σ (aN H s.heap.objs.size (.tup [_, _])) { s with heap := s.heap.push { cls := .type "tuple", data := .seq #[u1, u2] } } :=
   I.laid (t' := s.toks) (fun b o e => Heap.get?_push_of_some _ e) (Nat.le_refl _) (show ObjOk X.prog X.w _ _ _ (.tup [_, _]) from ⟨⟨by show 2 ≤ sizeLine; rw [sizeLine_eq]; decide, NoD.new _ _ _⟩, [u1, u2], .cons ru1 (.cons ru2 .nil), IsTup.new _ _⟩)
  have lt : ∀ {c o}, s.heap.get? c = some o → c ≠ s.heap.objs.size := fun e => Nat.ne_of_lt (Heap.lt_size e)
  have zne : s.heap.objs.size ≠ z := fun e => lt st.z e.symm
  have hf' : ∀ b ∈ [z, TI, TO, i1, i2], dR X pins (aN H s.heap.objs.size (.tup [xs[i]'(by omega), ys[i]'(by omega)])) b := fun b hb => by
   obtain ⟨f0, f1, f2, f3, f4, f5⟩ := hf b hb; refine ⟨?_, f1, f2, f3, f4, f5⟩; rw [bG]
   ·exact f0
   ·obtain ⟨h1, h2, ⟨a, c, h3⟩, ⟨o4, e4, _⟩, ⟨o5, e5, _⟩⟩ := st; simp only [List.mem_cons, List.not_mem_nil, or_false] at hb; rcases hb with rfl | rfl | rfl | rfl | rfl
    ·exact lt h1
    ·exact lt h2
    ·exact lt h3
    ·exact lt e4
    ·exact lt e5
  have kk : ∀ b o, b ∉ [z, TI, TO, i1, i2] → (s.heap.push { cls := .type "tuple", data := .seq #[u1, u2] }).get? b = some o → h2.get? b = some o := fun b o hb e => by
   simp only [List.mem_cons, List.not_mem_nil, or_false, not_or] at hb; obtain ⟨n1, n2, n3, n4, n5⟩ := hb; refine c2.extBut _ _ n1 ?_; rcases Heap.get?_push_cases e with ⟨rfl, rfl⟩ | e
   ·exact np
   ·exact k b o n1 n3 n4 n5 e
  have I2 := sO (s := { s with heap := s.heap.push { cls := .type "tuple", data := .seq #[u1, u2] } }) (h' := h2) (t' := s.toks) (ch := [z, TI, TO, i1, i2]) I1 kk hf'
  refine ⟨.ref s.heap.objs.size, aN H s.heap.objs.size (.tup [xs[i]'(by omega), ys[i]'(by omega)]), I2, rfl, ⟨_, _, _, rfl, hp, rfl, fun xs' ys' g1 g2 => ?_⟩, ?_, fun b hb => (hf' b hb).1⟩
  ·rw [I.list_inj g1 q1, I.tuple_inj g2 q2]; exact ⟨e1, e2⟩
  ·obtain ⟨h1, h2', ⟨a, c, h3⟩, h4, h5⟩ := st'; exact ⟨z2, c2.extBut _ _ D.TIz h2', ⟨a, c, c2.extBut _ _ D.TOz h3⟩, h4.at fun o e => c2.extBut _ _ D.i1z e, h5.at fun o e => c2.extBut _ _ D.i2z e⟩
 done := by
  intro X hP hw hK hc i pins s σ H E I hf st hg; subst hP hw hK; obtain ⟨hi, xs, ys, q1, q2, hn⟩ := hg; obtain ⟨its1, r1, p1, l1⟩ := I.list q1; obtain ⟨its2, r2, p2, l2⟩ := I.tuple q2; have m1 := r1.length
  have m2 := r2.length
  have hT : s.TypeIs (.ref z) "zip" := ⟨_, st.z, rfl⟩
  unfold pyNext; refine wpAny_bind (wpAny_attempt (wpAny_callSpecial?_slot (name := Str.ofString "__next__") hT F.slot_zip_next (wpAny_call_entry F.slot_zip_next hT F.entry_zip_next (Qe (I.ok.hd hc) D st p1.isList (show s.heap.IsTuple t2 its2.toArray from p2) ?_ fun h' e k he => ?_) (F.args_zip_next_1 _))))
  ·by_cases c : xs.length ≤ ys.length
   ·left
    simp; omega
   ·right
    simp; omega
  ·obtain ⟨o, ho, hce⟩ := he; refine wpAny_bind (wpAny_isInstance (T := "StopIteration") (b := true) ⟨o, ho, hce⟩ isSubtype_stop ?_); refine wpAny_pure ⟨rfl, sO (t' := s.toks) (ch := [z, TI, TO, i1, i2]) I (fun b o hb e => ?_) hf⟩; simp only [List.mem_cons, List.not_mem_nil, or_false, not_or] at hb; exact k b o hb.1 hb.2.2.1 hb.2.2.2.1 hb.2.2.2.2 e
 self := fun _ _ _ _ _ st h => wpAny_pyIter_zip st.z h
@[simp] def tT (f g : DE) : DI := fun d m Q => f d m fun x m1 => g d m1 fun y m2 => ∃ ps qs, x = .dat (.list ps) ∧ y = .dat (.tuple qs) ∧ Q ((ps.zip qs).map fun z => .dat (.tuple [z.1, z.2])) m2
section
variable {X : Cx} {a b : Expr} {elts : List Expr} {j : Nat} {f g : DE} {pos p p2 : Pos}
theorem O7 (hg : Gl X "zip") (hm : X.mg "zip" = none) (ha : PE X a (LE X.K f)) (hb : PE X b (LE X.K g)) (hs : starEach [a, b] X.env = [(false, eval a X.env), (false, eval b X.env)] := by rfl) (hs2 : starEach [b] X.env = [(false, eval b X.env)] := by rfl) :
  PI X (.Tuple elts j p2) (.Call (.Name "zip" p) [a, b] [] pos) (LI X.K (tT f g)) := by
 intro pins s σ H R I h; obtain ⟨Z, d, m, ZZ, ok, rs, h, k⟩ := h; have hA := rG (X := X) ha (rG hb Cz (by rw [hs2]; rfl)) (by rw [hs, hs2]) pos pins s σ H (fun vs H1 => ∃ a1 a2 xs ys ps qs m1, vs = [.ref a1, .ref a2] ∧ (m1 a1 = none ∧ ¬ Z a1) ∧ SqL X.K H1 a1 xs ∧ SqT X.K H1 a2 ys ∧ RPs X.K Z m1 H1 ps xs ∧ RPs X.K Z m1 H1 qs ys ∧
   ZZ ((ps.zip qs).map fun z => .dat (.tuple [z.1, z.2])) m1 ∧ Ext X.K Z m H m1 H1 ∧ Ok X.K Z m1 H1) I ⟨Z, d, m, fun ds m1 => match ds with | [x, y] => ∃ ps qs, x = .dat (.list ps) ∧ y = .dat (.tuple qs) ∧ ZZ ((ps.zip qs).map fun z => .dat (.tuple [z.1, z.2])) m1 | _ => False, ok, rs, h, fun xs m1 vs H1 q e1 ok1 rd => ?_⟩
 ·refine Call_ (lK I hg hm Ll (PyProof.Rows.callWith_type1 (aL hA fun us s1 ⟨vs, H1, I1, r1, q1⟩ => ?_) (by rw [hs, hs2]) (by rw [hs2]; rfl)))
  obtain ⟨a1, a2, xs, ys, ps, qs, m1, e, h0, h1, h2, rp, rq, q, e1, ok1⟩ := q1; subst e; obtain ⟨u1, u2, rfl, ru1, ru2⟩ := vR r1
  cases ru1
  cases ru2
  obtain ⟨its1, rv1, pt1, l1⟩ := I1.list h1; obtain ⟨its2, rv2, pt2, l2⟩ := I1.tuple h2; refine J2 pt1.isList (show s1.heap.IsTuple a2 its2.toArray from pt2) fun h' n hn st kp => ?_
  have D : ZipApart (n + 4) (n + 2) (n + 3) n (n + 1) a1 a2 := Gy n a1 a2 (by obtain ⟨o, ho, _⟩ := pt1.isList; rw [hn]; exact Heap.lt_size ho) (by obtain ⟨o, ho, _⟩ := pt2; rw [hn]; exact Heap.lt_size ho)
  refine wpAny_pyIter_zip (s := { s1 with heap := h' }) st.z ?_; refine ⟨n + 4, [n + 4, n + 2, n + 3, n, n + 1], _, _, H1, rfl, I1.kept (t' := s1.toks) kp, Wl (n := min xs.length ys.length) D, st, fun c hc => ?_, k _ m1 H1 _ q e1 ok1 ?_⟩
  ·have hle : s1.heap.objs.size ≤ c := by
    simp only [List.mem_cons, List.not_mem_nil, or_false] at hc; subst hn; rcases hc with rfl | rfl | rfl | rfl | rfl
    ·exact Nat.le_add_right _ 4
    ·exact Nat.le_add_right _ 2
    ·exact Nat.le_add_right _ 3
    ·exact Nat.le_refl _
    ·exact Nat.le_add_right _ 1
   exact I1.fpOk hle (I1.hok.fresh hle)
  ·intro m2 H2 e2; obtain ⟨_, q1⟩ := e2.l a1 xs h0 h1; have q2 := e2.t a2 ys h2
   have lp := rp.length
   have lq := rq.length
   refine ⟨fun i x hx => ?_, ?_, xs, ys, q1, q2, rfl⟩
   ·rw [List.getElem?_map] at hx
    cases ez : (ps.zip qs)[i]? with
    | none => rw [ez] at hx; cases hx
    | some z =>
     rw [ez] at hx
     cases hx
     obtain ⟨z1, z2⟩ := z; obtain ⟨ea, eb⟩ := List.getElem?_zip_eq_some.mp ez; obtain ⟨v1, hv1, rv1'⟩ := rp.get ea; obtain ⟨v2, hv2, rv2'⟩ := rq.get eb; have b1 := (List.getElem?_eq_some_iff.mp hv1).1
     have b2 := (List.getElem?_eq_some_iff.mp hv2).1
     refine ⟨⟨by omega, xs, ys, q1, q2, rfl⟩, fun v H3 ⟨pp, x', y', ev, hp, eH, al⟩ => ?_⟩
     obtain ⟨w1, w2⟩ := al xs ys q1 q2; rw [hv1] at w1; rw [hv2] at w2
     cases w1
     cases w2
     refine .inr ⟨pp, [z1, z2], [_, _], rfl, ev, hp, eH, ?_⟩; simp only [RPs]; exact ⟨_, _, rfl, rv1', _, _, rfl, rv2', rfl⟩
   ·show ((ps.zip qs).map _).length = min xs.length ys.length
    rw [List.length_map, List.length_zip, lp, lq]
 ·match xs, q, rd with
  | [], q, _ => exact q.elim
  | [_], q, _ => exact q.elim
  | _ :: _ :: _ :: _, q, _ => exact q.elim
  | [x, y], q, rd =>
  obtain ⟨ps, qs, rfl, rfl, q⟩ := q; obtain ⟨v, w, rfl, g1, g2⟩ := rd.two; simp only [RD, RP] at g1 g2; obtain ⟨a1, xs, rfl, h0, h1, h2⟩ := g1; obtain ⟨a2, ys, rfl, h3, h4⟩ := g2; exact ⟨a1, a2, xs, ys, ps, qs, m1, rfl, h0, h1, h3, h2, h4, q, e1, ok1⟩
end
end DL
namespace DL
open PySem PySem.Spec PyProof.Rows L2
section
variable {K : PySem.W.Frag} {Z : Addr → Prop} {m m' : Mu} {H : Hp}
def mH (m : Mu) (a : Addr) : Mu := fun b => if b = a then none else m b
theorem yT {a b : Addr} (h : m b = none) : mH m a b = none := by unfold mH; split <;> first | rfl | exact h
end
end DL
namespace DL
open PySem PySem.Spec PyProof.Rows L2
section
variable {X : Cx} {pins : List (Addr × Obj)} {σ : L2.St}
def PairsH (H : Hp) (xs ys : List V) (ps : List Addr) : Prop := ∀ (j : Nat) (p : Addr), ps[j]? = some p → ∃ x y, xs[j]? = some x ∧ ys[j]? = some y ∧ H p = some (.tup [x, y])
theorem PairsH.same {H H' : Hp} {xs ys : List V} {ps : List Addr} (h : PairsH H xs ys ps) (e : Same H H') : PairsH H' xs ys ps := fun j p q => let ⟨x, y, h1, h2, h3⟩ := h j p q; ⟨x, y, h1, h2, e _ _ h3⟩
theorem PairsH.snoc {H : Hp} {xs ys : List V} {ps : List Addr} {a : Addr} {x y : V} (h : PairsH H xs ys ps) (hx : xs[ps.length]? = some x) (hy : ys[ps.length]? = some y) (ha : H a = some (.tup [x, y])) : PairsH H xs ys (ps ++ [a]) := fun j p q => by
 rcases Nat.lt_or_ge j ps.length with c | c
 ·rw [List.getElem?_append_left c] at q; exact h j p q
 ·rw [List.getElem?_append_right c] at q; have : j - ps.length = 0 := by
   rcases Nat.eq_zero_or_pos (j - ps.length) with z | z
   ·exact z
   ·rw [List.getElem?_eq_none (by simp; omega)] at q; cases q
  rw [this] at q
  cases q
  have e : j = ps.length := by omega
  subst e; exact ⟨x, y, hx, hy, ha⟩
end
end DL
namespace DL
open PySem PySem.Spec PyProof.Rows L2
section
variable {X : Cx} {o e : Expr} {f g : DE}
@[simp] def Hr : PyData → Bool
 | .none => true
 | _ => false
@[simp] def vW : D2
 | .dat p, .dat .none, m, Q => Q (.dat (.bool (!Hr p))) m
 | _, _, _, _ => False
theorem Ot {K : PySem.W.Frag} {Z : Addr → Prop} {m : Mu} {H : Hp} {p : PyData} {x : V} (h : RP K Z m H p x) : decide (x = .non) = Hr p := by
 cases p with
 | none => simp only [RP] at h; subst h; rfl
 | bool b => simp only [RP] at h; subst h; rfl
 | int i => simp only [RP] at h; subst h; rfl
 | str z => simp only [RP] at h; subst h; rfl
 | tuple xs => simp only [RP] at h; obtain ⟨a, vs, rfl, _⟩ := h; rfl
 | list xs => simp only [RP] at h; obtain ⟨a, vs, rfl, _⟩ := h; rfl
 | dict _ => simp only [RP] at h
theorem Mp : cI X (compareOp .IsNot) vW := by
 intro pins s σ H Z m x y dx dy v u R Q I ok rx ry r1 r2 h k; unfold vW at h
 split at h
 ·have e : y = .non := by simpa only [RD, RP] using r2
  refine Up pins s σ H _ _ v u Q I rx ry ⟨e, ?_⟩; rw [Ot r1]; exact k _ m _ H h Ext.refl ok .ofBl
 ·exact h.elim
@[simp] def Dt : D2
 | .dat (.str x), .cel c, m, Q => ∃ zs : List Str, m c = some (.l (zs.map .str)) ∧ Q (.dat (.bool (decide (x ∈ zs)))) m
 | _, _, _, _ => False
theorem M9 : cI X (compareOp .In) Dt := by
 intro pins s σ H Z m x y dx dy v u R Q I ok rx ry r1 r2 h k; unfold Dt at h
 split at h
 ·obtain ⟨zs, hm, q⟩ := h
  cases r1.str
  obtain ⟨rfl, _⟩ := r2; obtain ⟨vs, h1, h2⟩ := ok.l hm
  cases kZ h2
  refine lM pins s σ H _ _ v u Q I rx ry ⟨_, _, rfl, .inl (.inl (.inl h1)), rfl, sE zs, ?_⟩; rw [if_neg Bool.false_ne_true, pC]; exact k _ m _ H q Ext.refl ok .ofBl
 ·exact h.elim
end
end DL
namespace DL
open PySem PySem.Spec PyProof.Rows L2
section
variable {K : PySem.W.Frag} {Z : Addr → Prop} {m m1 : Mu} {H H1 : Hp}
theorem Ok.off {a : Addr} (ok : Ok K Z m H) : Ok K Z (mH m a) H :=
 ⟨fun b c h => by
  unfold mH at h
  split at h
  ·cases h
  ·obtain ⟨o, h1, h2⟩ := ok.g b c h; exact ⟨o, h1, h2.lift fun p v q => RP.tr (fun _ _ q => q) (fun b ws q1 q2 => ⟨⟨yT q1.1, q1.2⟩, q2⟩) p v q⟩, fun b hz => ⟨yT (ok.z b hz).1, (ok.z b hz).2⟩⟩
theorem Ext.off {a : Addr} (e : Ext K Z m H m1 H1) (h : m a = none) : Ext K Z m H (mH m1 a) H1 :=
 ⟨e.t, fun b vs h1 h2 => let ⟨q1, q2⟩ := e.l b vs h1 h2; ⟨yT q1, q2⟩, e.z, fun b hb => by
  unfold mH
  split
  ·rename_i q; rw [q, h] at hb; cases hb
  ·exact e.c b hb, e.fz, fun b hb => by
  unfold mH
  split
  ·rename_i q; rw [q, h] at hb; cases hb
  ·exact e.fm b hb⟩
end
end DL
namespace DL
open PySem PySem.Spec PyProof.Rows L2
section
variable {X : Cx} {pos : Pos}
@[simp] def zG : D2
 | x, .cel c, m, Q => ∃ k kvs, oZ x = some k ∧ m c = some (.d kvs) ∧ Q (.dat (.bool (dS kvs k).isSome)) m
 | _, _, _, _ => False
theorem P7 {K : PySem.W.Frag} {Z : Addr → Prop} {m : Mu} {H : Hp} {k : aS} {kvs : List (aS × PyData)} {vs : List (aS × V)} (h : RKV K Z m H kvs vs) : (bW vs k).isSome = (dS kvs k).isSome := by
 cases e : dS kvs k with
 | none => rw [h.val_none e]; rfl
 | some p =>
  obtain ⟨v, hv, _⟩ := h.val e; rw [hv]; rfl
theorem Tn (hu : X.A.units + 100 < cLine) : cI X (compareOp .In) zG := by
 intro pins s σ H Z m x y dx dy v u R Q I ok rx ry r1 r2 h k; unfold zG at h
 split at h
 ·obtain ⟨ky, kvs, hk, hm, q⟩ := h
  cases r1.key hk
  obtain ⟨rfl, _⟩ := r2; obtain ⟨vs, g1, g2⟩ := ok.d hm; obtain rfl := (show u = Value.ref _ from ry)
  refine M5 (by omega) I (.inl ⟨vs, ky, .inl g1, rfl, rfl⟩) rx fun s3 I3 => ⟨.bl ((bW vs ky).isSome), H, I3, rfl, ?_⟩
  rw [P7 g2]; exact k _ m _ H q Ext.refl ok .ofBl
 ·exact h.elim
variable {o e : Expr} {f g : DE}
end
end DL
namespace DL
open PySem PySem.Spec PyProof.Rows L2
section
variable {X : Cx} {a b c : Expr} {f g h : DE} {pos : Pos}
@[simp] def Xl (r r' : D2) (f g h : DE) : DE := fun d m Q => f d m fun x m1 => g d m1 fun y m2 => r x y m2 fun z m3 => ∃ k, z = .dat (.bool k) ∧ (if k = true then h d m3 fun w m4 => r' y w m4 Q else Q (.dat (.bool false)) m3)
theorem lT {op op' : CmpOp} {r r' : D2} (ho : cI X (compareOp op) r) (ho' : cI X (compareOp op') r') (ha : PE X a (LE X.K f)) (hb : PE X b (LE X.K g)) (hc : PE X c (LE X.K h))
  (hm : lastMarks [op, op'] [b, c] = false := by with_unfolding_all rfl) : PT X (.Compare a [op, op'] [b, c] pos) (LT X.K (bH (Xl r r' f g h))) := by
 intro pins s σ H Q I hh; obtain ⟨Z, d, m, R, ok, rs, hf, k⟩ := hh.le; refine isTrue_chain (aL (ha pins s σ H (fun x H1 => ∃ (dx : D) (m1 : Mu), RD X.K Z m1 H1 dx x ∧ (g d m1 fun y m2 => r dx y m2 fun z m3 => ∃ k, z = .dat (.bool k) ∧ (if k = true then h d m3 fun w m4 => r' y w m4 R else R (.dat (.bool false)) m3)) ∧ Ext X.K Z m H m1 H1 ∧ Ok X.K Z m1 H1) I
  ⟨Z, d, m, _, ok, rs, hf, fun x m1 v H1 q e1 ok1 rd => ⟨x, m1, rd, q, e1, ok1⟩⟩) fun v s1 ⟨x, H1, I1, r1, dx, m1, rd, q, e1, ok1⟩ => test_link (aL (hb pins s1 σ H1 (fun y H2 => ∃ (dy : D) (m2 : Mu), RD X.K Z m2 H2 dy y ∧ (r dx dy m2 fun z m3 => ∃ k, z = .dat (.bool k) ∧ (if k = true then h d m3 fun w m4 => r' dy w m4 R else R (.dat (.bool false)) m3)) ∧ Ext X.K Z m1 H1 m2 H2 ∧ Ok X.K Z m2 H2) I1
  ⟨Z, d, m1, _, ok1, rs.ext e1, q, fun y m2 w H2 q2 e2 ok2 rd2 => ⟨y, m2, rd2, q2, e2, ok2⟩⟩) fun u s2 ⟨y, H2, I2, r2, dy, m2, rd2, q2, e2, ok2⟩ =>
  aL (ho pins s2 σ H2 Z m2 x y dx dy v u _ (fun z H3 => ∃ (kk : Bool) (m3 : Mu), z = .bl kk ∧ (if kk = true then h d m3 fun w m4 => r' dy w m4 R else R (.dat (.bool false)) m3) ∧ Ext X.K Z m2 H2 m3 H3 ∧ Ok X.K Z m3 H3) I2 ok2 r1 r2 (rd.ext e2) rd2 q2 (fun z m3 v3 H3 ⟨kk, ez, q3⟩ e3 ok3 rd3 => by subst ez; exact ⟨kk, m3, by simpa only [RD, RP] using rd3, q3, e3, ok3⟩))
   fun cv s3 ⟨z, H3, I3, r3, kk, m3, ez, q3, e3, ok3⟩ => ?_)) hm
 subst ez
 cases r3
 refine wpAny_truthy_bool ?_
 cases kk with
 | false =>
  obtain ⟨k', e', q'⟩ := k (.dat (.bool false)) m3 (.bl false) H3 (by simpa using q3) (e1.trans (e2.trans e3)) ok3 .ofBl
  cases e'
  exact ite_ff ⟨H3, I3, q'⟩
 | true =>
  refine ite_tt (test_last (aL (hc pins s3 σ H3 (fun w H4 => ∃ (dw : D) (m4 : Mu), RD X.K Z m4 H4 dw w ∧ r' dy dw m4 R ∧ Ext X.K Z m3 H3 m4 H4 ∧ Ok X.K Z m4 H4) I3 ⟨Z, d, m3, _, ok3, ((rs.ext e1).ext e2).ext e3, by simpa using q3, fun w m4 v4 H4 q4 e4 ok4 rd4 => ⟨w, m4, rd4, q4, e4, ok4⟩⟩)
   fun w' s4 ⟨z', H4, I4, r4, dw, m4, rd4, q4, e4, ok4⟩ => ?_))
  refine aL (ho' pins s4 σ H4 Z m4 y z' dy dw u w' R (fun x H' => ∃ k, x = .bl k ∧ Q k H') I4 ok4 r2 r4 (rd2.ext (e3.trans e4)) rd4 q4 fun d' m' v' H' h1 h2 h3 h4 => k d' m' v' H' h1 (e1.trans (e2.trans (e3.trans (e4.trans h2)))) h3 h4) fun d' s5 ⟨z2, H5, I5, r5, k2, e5, q5⟩ => ?_; subst e5
  cases r5
  exact wpAny_truthy_bool ⟨H5, I5, q5⟩
end
end DL
namespace DL
open PySem PySem.Spec PyProof.Rows L2
theorem Paired.at {α β : Type} {r : α → β → Prop} : ∀ {xs : List α} {ys : List β} {i : Nat} {x : α}, Paired r xs ys → xs[i]? = some x → ∃ y, ys[i]? = some y ∧ r x y
 | _, _, _, _, .nil, e => by simp at e
 | _, _, 0, x, .cons h _, e => by
  simp at e; subst e; exact ⟨_, rfl, h⟩
 | _, _, i + 1, x, .cons _ h, e => by
  obtain ⟨y, h1, h2⟩ := Paired.at (i := i) h (by simpa using e)
  exact ⟨y, by simpa using h1, h2⟩
theorem Paired.len {α β : Type} {r : α → β → Prop} : ∀ {xs : List α} {ys : List β}, Paired r xs ys → xs.length = ys.length
 | _, _, .nil => rfl
 | _, _, .cons _ h => by rw [List.length_cons, List.length_cons, Paired.len h]
section
variable {X : Cx} {o : Expr} {es : List Expr} {fo : DE} {fa : DA} {pos ipos : Pos} {j : Nat}
theorem Ok.ft {K : PySem.W.Frag} {Z : Addr → Prop} {m : Mu} {H : Hp} {a : Addr} {xs : List (List aS × PyData)} (ok : Ok K Z m H) (h : m a = some (.ft xs)) : ∃ ob vs, H a = some (.frz ob (.dT vs)) ∧ RKV K Z m H xs vs := by
 obtain ⟨o, h1, h2⟩ := ok.g a _ h
 cases o with
 | frz ob u => cases u <;> first | exact ⟨_, _, h1, h2⟩ | exact h2.elim
 | _ => exact h2.elim
end
end DL
namespace DL
open PySem PySem.Spec PyProof.Rows L2
def Lk (kas : List (aS × Addr)) : List (aS × V) := kas.map fun x => (x.1, V.ref x.2)
theorem Ok.dl {K : PySem.W.Frag} {Z : Addr → Prop} {m : Mu} {H : Hp} {a : Addr} {kas : List (aS × Addr)} (ok : Ok K Z m H) (h : m a = some (.dl kas)) : H a = some (.dK (Lk kas)) := by
 obtain ⟨o, h1, h2⟩ := ok.g a _ h
 cases o <;> first | (cases (show _ = Lk kas from h2); exact h1) | exact h2.elim
end DL
namespace DL
open PySem PySem.Spec PyProof.Rows L2
def bZ (n lo st : Nat) : Nat := if lo < n then (n - lo - 1) / st + 1 else 0
def bS (n lo st : Nat) : List Nat := (List.range (bZ n lo st)).map fun k => lo + k * st
def pick {α : Type} (xs : List α) (is : List Nat) : List α := is.filterMap fun i => xs[i]?
theorem Jn {α : Type} (xs : List α) (is : List Nat) : (pick xs is).length ≤ is.length := List.length_filterMap_le _ _
theorem Hy (n lo st : Nat) : bZ n lo st ≤ n := by
 unfold bZ
 split
 ·have := Nat.div_le_self (n - lo - 1) st
  omega
 ·omega
theorem Vals.at {xs : List V} {us : List Value} : ∀ {i : Nat} {x : V}, Vals xs us → xs[i]? = some x → ∃ u, us[i]? = some u ∧ RelV x u := fun h e => h.get e
theorem Vals.pick {xs : List V} {us : List Value} (h : Vals xs us) : ∀ is : List Nat, Vals (pick xs is) (DL.pick us is)
 | [] => .nil
 | i :: is => by
  have ih := Vals.pick h is
  unfold DL.pick at ih ⊢; rw [List.filterMap_cons, List.filterMap_cons]
  cases e : xs[i]? with
  | none =>
   have : us[i]? = none := by
    rw [List.getElem?_eq_none_iff] at e ⊢; rw [← h.length]; exact e
   rw [this]; exact ih
  | some x =>
   obtain ⟨u, hu, r⟩ := h.get e; rw [hu]; exact .cons r ih
theorem RPs.pick {K : PySem.W.Frag} {Z : Addr → Prop} {m : Mu} {H : Hp} {xs : List PyData} {vs : List V} (h : RPs K Z m H xs vs) : ∀ is : List Nat, RPs K Z m H (pick xs is) (DL.pick vs is)
 | [] => by simp [DL.pick, RPs]
 | i :: is => by
  have ih := RPs.pick h is
  unfold DL.pick at ih ⊢; rw [List.filterMap_cons, List.filterMap_cons]
  cases e : xs[i]? with
  | none =>
   have : vs[i]? = none := by
    rw [List.getElem?_eq_none_iff] at e ⊢; rw [h.length]; exact e
   rw [this]; exact ih
  | some x =>
   obtain ⟨u, hu, r⟩ := h.get e; rw [hu]; simp only [RPs]; exact ⟨u, _, rfl, r, ih⟩
section
variable {prog : Program} {w : World} {A : Around} {E : Value → Shared → Prop} {s : Shared}
theorem Wb {n lo st : Nat} (hl : lo ≤ n) (hs : 0 < st) : Builtin.Slice.sliceAdjust (some (lo : Int)) none (st : Int) (n : Int) = ((lo : Int), (n : Int)) := by
 unfold Builtin.Slice.sliceAdjust; have h1 : ¬ ((st : Int) < 0) := by omega
 have h2 : ¬ ((lo : Int) < 0) := by omega
 simp only [h1, h2, if_false]
 congr 1
 omega
theorem O6 {n lo st : Nat} (hl : lo ≤ n) (hs : 0 < st) : Builtin.Slice.slicePlaces (lo : Int) (n : Int) (st : Int) = bZ n lo st := by
 unfold Builtin.Slice.slicePlaces bZ; rw [if_pos (show (st : Int) > 0 by omega)]
 by_cases c : lo < n
 ·rw [if_pos (by omega), if_pos c]
  have e : ((n : Int) - lo - 1) / (st : Int) = (((n - lo - 1) / st : Nat) : Int) := by
   rw [show ((n : Int) - lo - 1) = ((n - lo - 1 : Nat) : Int) by omega]
   rfl
  rw [e]; obtain ⟨q, hq⟩ : ∃ q, (n - lo - 1) / st = q := ⟨_, rfl⟩; rw [hq]; omega
 ·rw [if_neg (by omega), if_neg c]
  rfl
theorem R5 {sl : Addr} {t t2 : Tok} {n lo st : Nat} {Q : Int × Int × Nat → Shared → Prop} (hs : s.heap.IsSliceOf sl (.int lo t) .none (.int st t2)) (hl : lo ≤ n) (h0 : 0 < st)
  (h : Q ((lo : Int), (st : Int), bZ n lo st) s) : wpAny (model prog w) A (Builtin.Slice.sliceApplied (.ref sl) (pure (n : Int))) Q E s := by
 obtain ⟨os, hos, hcs, hds⟩ := id hs; unfold Builtin.Slice.sliceApplied Builtin.Slice.sliceFields; refine wpAny_bind (wpAny_bind (wpAny_field hos hds (x := .int lo t) rfl (wpAny_bind (wpAny_field hos hds (x := .none) rfl (wpAny_bind (wpAny_field hos hds (x := .int st t2) rfl (wpAny_pure ?_))))))); refine wpAny_bind (slicePart_int ?_); show wpAny _ _ (if ((st : Int) == 0) = true then _ else _) _ _ s
 rw [if_neg (by rw [beq_iff_eq]; omega)]
 refine wpAny_bind (slicePart_int (wpAny_bind (slicePart_none (wpAny_bind (wpAny_pure ?_))))); show wpAny _ _ (match Builtin.Slice.sliceAdjust (some (lo : Int)) none (st : Int) (n : Int) with | (lo', hi) => pure (lo', (st : Int), Builtin.Slice.slicePlaces lo' hi (st : Int))) _ _ s
 rw [Wb hl h0]; show wpAny _ _ (pure ((lo : Int), (st : Int), Builtin.Slice.slicePlaces (lo : Int) (n : Int) (st : Int))) _ _ s
 rw [O6 hl h0]; exact wpAny_pure h
theorem Qd (xs : Array Value) (lo st : Nat) : ((List.range (bZ xs.size lo st)).filterMap fun (k : Nat) => xs[((lo : Int) + (k : Int) * (st : Int)).toNat]?) = pick xs.toList (bS xs.size lo st) := by
 unfold pick bS; rw [List.filterMap_map]
 congr 1
 funext k
 have e : ((lo : Int) + (k : Int) * (st : Int)).toNat = lo + k * st := by
  rw [show ((lo : Int) + (k : Int) * (st : Int)) = ((lo + k * st : Nat) : Int) by push_cast; rfl]
  rfl
 rw [e]; show _ = xs.toList[lo + k * st]?
 rw [Array.getElem?_toList]
theorem Pf (n : Nat) : bS n 0 1 = List.range n := by
 unfold bS bZ
 cases n with
 | zero => rfl
 | succ n => simp
theorem Qm {α : Type} : ∀ xs : List α, pick xs (List.range xs.length) = xs := fun xs => by
 unfold pick; exact List.filterMap_getElem?_range_length xs
theorem Yx {t sl : Addr} {items : Array Value} {tk tk2 : Tok} {lo st : Nat} {Q : Value → Shared → Prop} (ht : IsTup s.heap t items) (hs : s.heap.IsSliceOf sl (.int lo tk) .none (.int st tk2)) (hl : lo ≤ items.size) (h0 : 0 < st)
  (hw : lo = 0 → st = 1 → Q (.ref t) s)
  (h : ¬ (lo = 0 ∧ st = 1) → Q (.ref s.heap.objs.size) { s with heap := s.heap.push { cls := .type "tuple", data := .seq (pick items.toList (bS items.size lo st)).toArray } })
  (hsz : items.size ≤ sizeLine) : wpAny (model prog w) A (getItem (.ref t) (.ref sl)) Q E s := by
 have htake : sizeOk (.seq (pick items.toList (bS items.size lo st)).toArray) := by
  show (pick items.toList (bS items.size lo st)).toArray.size ≤ sizeLine
  have q := Jn items.toList (bS items.size lo st)
  have q2 := Hy items.size lo st
  unfold bS at q; rw [List.length_map, List.length_range] at q; rw [List.size_toArray]; unfold bS; omega
 obtain ⟨os, hos, hcs, hds⟩ := id hs; have hTs : s.TypeIs (.ref sl) "slice" := ⟨os, hos, hcs⟩
 unfold getItem
 try with_reducible refine wpAny_holding ?_
 first | refine wpAny_bind (wpAny_pure ?_) | skip
 refine wpAny_bind (wpAny_sequenceKey ht.typeIs (by decide) ?_)
 refine wpAny_bind (wpAny_callSpecial?_slot (name := Str.ofString "__getitem__") ht.typeIs PyProof.Rows.slot_tuple_getitem
  (wpAny_call_entry PyProof.Rows.slot_tuple_getitem ht.typeIs entry_tuple_getitem ?_ (args_tuple_getitem _ _)))
 show wpAny _ _ (Builtin.Tuple.tupleItemsOf (.ref t) >>= _) _ _ s
 refine wpAny_bind (tupleItemsOf_ ht ?_); refine wpAny_bind (wpAny_typeOf hTs ?_); rw [if_pos (by decide)]
 refine wpAny_bind (R5 hs hl h0 ?_); show wpAny _ _ (if ((lo : Int) == 0 && (st : Int) == 1 && bZ items.size lo st == items.size) = true then _ else _) _ _ s
 by_cases c : lo = 0 ∧ st = 1
 ·obtain ⟨rfl, rfl⟩ := c; have e : bZ items.size 0 1 = items.size := by
   unfold bZ
   by_cases q : 0 < items.size
   ·rw [if_pos q, Nat.div_one]; omega
   ·rw [if_neg q]; omega
  rw [if_pos (by rw [e]; simp)]
  obtain ⟨⟨cls, dd, data, sl'⟩, ho, hc, n, hd⟩ := id ht; simp only at hc hd; subst hc hd; show wpAny _ _ (Builtin.Tuple.tupleIsExact (.ref t) >>= _) _ _ _
  refine wpAny_bind ?_; unfold Builtin.Tuple.tupleIsExact; refine wpAny_bind (wpAny_typeOf ⟨_, ho, rfl⟩ (wpAny_pure ?_)); show wpAny _ _ (if ((Value.type "tuple" == Value.type "tuple") = true) then _ else _) _ _ _
  rw [if_pos (by decide)]
  refine wpAny_bind (wpAny_rule ?_); exact wpAny_pure ⟨_, rfl, wpAny_pure (hw rfl rfl)⟩
 ·rw [if_neg (by
   intro q; rw [Bool.and_eq_true, Bool.and_eq_true, beq_iff_eq, beq_iff_eq] at q; exact c ⟨by omega, by omega⟩), Qd]
  have h := h c
  first
   | exact wpAny_bind (m := Builtin.Tuple.tupleExact _) (wpAny_newObj_type (wpAny_pure ⟨_, rfl, wpAny_pure h⟩) htake)
   | exact wpAny_bind (m := Builtin.Tuple.tupleExact _) (wpAny_newObj_type (wpAny_bind (wpAny_pure (wpAny_pure ⟨_, rfl, wpAny_pure h⟩))) htake)
   | exact wpAny_bind (wpAny_bind (m := Builtin.Tuple.tupleExact _) (wpAny_newObj_type (wpAny_pure (wpAny_pure ⟨_, rfl, wpAny_pure h⟩)) htake))
   | exact wpAny_bind (wpAny_bind (m := Builtin.Tuple.tupleExact _) (wpAny_newObj_type (wpAny_pure ⟨_, rfl, wpAny_pure h⟩) htake))
end
section
variable {X : Cx} {a lo st : Expr} {f g h : DE} {pos p2 : Pos}
@[simp] def uH (f g h : DE) : DE := fun d m Q => f d m fun x m1 => g d m1 fun y m2 => h d m2 fun z m3 => ∃ (xs : List PyData) (i j : Nat), x = .dat (.tuple xs) ∧ y = .dat (.int i) ∧ z = .dat (.int j) ∧ i ≤ xs.length ∧ 0 < j ∧ Q (.dat (.tuple (pick xs (bS xs.length i j)))) m3
theorem Z4 (ha : PE X a (LE X.K f)) (hl : PE X lo (LE X.K g)) (hs : PE X st (LE X.K h)) : PE X (.Subscript a (.Slice (some lo) none (some st) p2) pos) (LE X.K (uH f g h)) := by
 intro pins s σ H Q I hh; obtain ⟨Z, d, m, R, ok, rs, hf, k⟩ := hh; refine Subscript_ (aL (ha pins s σ H (fun x H1 => ∃ (dx : D) (m1 : Mu), RD X.K Z m1 H1 dx x ∧ (g d m1 fun y m2 => h d m2 fun z m3 => ∃ (xs : List PyData) (i j : Nat), dx = .dat (.tuple xs) ∧ y = .dat (.int i) ∧ z = .dat (.int j) ∧ i ≤ xs.length ∧ 0 < j ∧ R (.dat (.tuple (pick xs (bS xs.length i j)))) m3) ∧ Ext X.K Z m H m1 H1 ∧ Ok X.K Z m1 H1) I
  ⟨Z, d, m, _, ok, rs, hf, fun x m1 v H1 q e1 ok1 rd => ⟨x, m1, rd, q, e1, ok1⟩⟩) fun v s1 ⟨x, H1, I1, r1, dx, m1, rd, q, e1, ok1⟩ => ?_)
 refine wpAny_Slice ?_; rw [evalPart_some]; refine aL (hl pins s1 σ H1 (fun y H2 => ∃ (dy : D) (m2 : Mu), RD X.K Z m2 H2 dy y ∧ (h d m2 fun z m3 => ∃ (xs : List PyData) (i j : Nat), dx = .dat (.tuple xs) ∧ dy = .dat (.int i) ∧ z = .dat (.int j) ∧ i ≤ xs.length ∧ 0 < j ∧ R (.dat (.tuple (pick xs (bS xs.length i j)))) m3) ∧ Ext X.K Z m1 H1 m2 H2 ∧ Ok X.K Z m2 H2) I1
  ⟨Z, d, m1, _, ok1, rs.ext e1, q, fun y m2 u H2 q e2 ok2 rd2 => ⟨y, m2, rd2, q, e2, ok2⟩⟩) fun v2 s2 ⟨y, H2, I2, r2, dy, m2, rd2, q2, e2, ok2⟩ => ?_
 rw [evalPart_none, evalPart_some]; refine wpAny_pure ?_; refine aL (hs pins s2 σ H2 (fun z H3 => ∃ (m3 : Mu) (xs : List PyData) (i j : Nat), dx = .dat (.tuple xs) ∧ dy = .dat (.int i) ∧ z = .int j ∧ i ≤ xs.length ∧ 0 < j ∧ R (.dat (.tuple (pick xs (bS xs.length i j)))) m3 ∧ Ext X.K Z m2 H2 m3 H3 ∧ Ok X.K Z m3 H3) I2
  ⟨Z, d, m2, _, ok2, (rs.ext e1).ext e2, q2, fun z m3 u H3 ⟨xs, i, j, ex, ey, ez, hi, hj, q⟩ e3 ok3 rd3 => by subst ez; exact ⟨m3, xs, i, j, ex, ey, rd3.int, hi, hj, q, e3, ok3⟩⟩) fun v3 s3 ⟨z, H3, I3, r3, m3, xs, i, j, ex, ey, ez, hi, hj, q3, e3, ok3⟩ => ?_
 subst ex ey ez
 cases rd2.int
 obtain ⟨t2, rfl⟩ := r2; obtain ⟨t3, rfl⟩ := r3; have rd' := rd.ext (e2.trans e3)
 have rd0 := rd'
 simp only [RD, RP] at rd'; obtain ⟨a', vs, rfl, hq, hv⟩ := rd'
 cases r1
 have hvl := hv.length
 have I4 : Inv X pins σ H3 { s3 with heap := s3.heap.push { cls := .type "slice", data := .fields #[.int i t2, .none, .int j t3] } } := I3.kept (t' := s3.toks) fun b ob q => Heap.get?_push_of_some _ q
 obtain ⟨its, r, ht, hz⟩ := I4.tuple hq; have hlen := r.length
 refine tail_any (ops := [.ref a', .ref s3.heap.objs.size]) ht.typeIs PyProof.Rows.slot_tuple_getitem.lookup (Yx ht (Heap.IsSliceOf.new ..) (by rw [List.size_toArray]; omega) hj (fun c1 c2 => ?_) (fun c => ?_) (by rw [List.size_toArray]; omega)) (by with_unfolding_all rfl)
 ·subst c1 c2; rw [Pf, Qm] at q3; exact ⟨.ref a', H3, I4, rfl, k _ m3 _ _ q3 (e1.trans (e2.trans e3)) ok3 rd0⟩
 ·have zl : (pick vs (bS vs.length i j)).length ≤ sizeLine := by
   have q1 := Jn vs (bS vs.length i j)
   have q2 := Hy vs.length i j
   unfold bS at q1; rw [List.length_map, List.length_range] at q1; unfold bS; omega
  have pe : pick its.toArray.toList (bS its.toArray.size i j) = pick its (bS vs.length i j) := by rw [List.size_toArray, ← hlen]
  have hpk : RPs X.K Z m3 H3 (pick xs (bS xs.length i j)) (pick vs (bS vs.length i j)) := by
   rw [hvl]; exact hv.pick _
  refine ⟨.ref _, aN H3 _ (.tup (pick vs (bS vs.length i j))), I4.laid (t' := s3.toks) (fun b ob q => Heap.get?_push_of_some _ q) (Nat.le_refl _) ?_, rfl, ?_⟩
  ·rw [pe]; exact ⟨⟨zl, NoD.new _ _ _⟩, _, Vals.pick r _, IsTup.new _ _⟩
  ·have hp := I4.hok.fresh (Nat.le_refl _)
   have sm := cW (o := .tup (pick vs (bS vs.length i j))) hp
   refine k _ m3 _ _ q3 (e1.trans (e2.trans (e3.trans (ok3.ext sm)))) (ok3.grow sm) ?_; simp only [RD, RP]; refine ⟨_, _, rfl, .inl (.inl cZ), ?_⟩; exact RPs.ext (ok3.ext sm) _ _ hpk
end
end DL
namespace DL
open PySem PySem.Spec PyProof.Rows L2
def TSet (P : Program) (w : World) (h : Heap) (a : Addr) (zs : List Str) : Prop :=
 ∃ o es ep t, h.get? a = some o ∧ o.ExactSet ∧ o.data = .set es ep t ∧ ElemsOf (cR P w) es.toList ∧ (∃ vs, StrsAre (es.toList.map (·.2)) vs ∧ vs.Perm zs) ∧ zs.Nodup ∧ es.size < scanBound ∧ t.fits es.size = true ∧ t.led = !w.params.followText "set-order" ∧ (zs ≠ [] → t.plain = false)
theorem StrsAre.snoc : ∀ {l : List Value} {vs : List Str} (z : Str) (tk : Tok), StrsAre l vs → StrsAre (l ++ [.str z tk]) (vs ++ [z])
 | _, _, z, tk, .nil => .cons z tk .nil
 | _, _, z, tk, .cons x t h => .cons x t (StrsAre.snoc z tk h)
section
variable {P : Program} {w : World} {A : Around} {E : Value → Shared → Prop} {s : Shared} {a : Addr} {zs : List Str} {z : Str} {tk : Tok}
theorem TSet.len {h : Heap} (T : TSet P w h a zs) : ∃ o es ep t, h.get? a = some o ∧ o.data = .set es ep t ∧ es.size = zs.length := by
 obtain ⟨o, es, ep, t, h1, _, h3, _, ⟨vs, h5, h6⟩, _⟩ := T; refine ⟨o, es, ep, t, h1, h3, ?_⟩; have q1 := congrArg List.length h5.strs
 have q2 := h6.length_eq
 simp at q1; omega
end
end DL
namespace DL
open PySem PySem.Spec PyProof.Rows L2
section
variable {P : Program} {w : World} {A : Around} {R : Result → Shared → Prop} {I : Addr} {fp wr : List Addr} {G : Array GenState → Array GenState → Prop} {n : Nat} {Pv : Nat → Value → Prop} {St : Nat → Shared → Prop}
theorem TSet.at {h h' : Heap} {a : Addr} {zs : List Str} (T : TSet P w h a zs) (k : ∀ o, h.get? a = some o → h'.get? a = some o) : TSet P w h' a zs := by
 obtain ⟨o, es, ep, t, ho, rest⟩ := T; exact ⟨o, es, ep, t, k o ho, rest⟩
end
end DL
namespace DL
open PySem PySem.Spec PyProof.Rows L2
section
variable {P : Program} {w : World} {A : Around} {E : Value → Shared → Prop} {s : Shared} {S : Addr} {zs : List Str}
theorem TSet.type {h : Heap} (T : TSet P w h S zs) : ∃ o, h.get? S = some o ∧ o.cls = .type "set" := let ⟨o, _, _, _, ho, hx, _⟩ := T; ⟨o, ho, hx.1⟩
end
end DL
namespace DL
open PySem PySem.Spec PyProof.Rows L2
section
variable {K : PySem.W.Frag} {Z : Addr → Prop} {m : Mu} {H : Hp}
theorem RD.rw {x : D} {v : V} (h : RD K Z m H x v) : RW K Z m H x v := by
 cases x with
 | dat p => exact h
 | cel a => exact h.1
theorem RW.rd {x : D} {v : V} (h : RW K Z m H x v) (hc : ∀ a, x = .cel a → (m a).isSome = true) : RD K Z m H x v := by
 cases x with
 | dat p => exact h
 | cel a => exact ⟨h, hc a rfl⟩
theorem RKW.length {κ : Type} : ∀ {fs : List (κ × D)} {vs : List (κ × V)}, RKW K Z m H fs vs → vs.length = fs.length
 | [], _, h => by cases (show _ = [] from h); rfl
 | (_, _) :: _, _, ⟨v, r, h1, _, h3⟩ => by subst h1; rw [List.length_cons, List.length_cons, h3.length]
theorem RKW.look {f : Str} : ∀ {fs : List (Str × D)} {vs : List (Str × V)}, RKW K Z m H fs vs → (∀ x, fs.lookup f = some x → ∃ v, vs.lookup f = some v ∧ RW K Z m H x v) ∧ (fs.lookup f = none → vs.lookup f = none)
 | [], _, h => by cases (show _ = [] from h); exact ⟨fun x e => (nomatch e), fun _ => rfl⟩
 | (g, y) :: fs, _, ⟨v, r, h1, h2, h3⟩ => by
  subst h1; obtain ⟨i1, i2⟩ := h3.look (f := f)
  by_cases e : f = g
  ·have b : (f == g) = true := beq_iff_eq.mpr e
   simp only [List.lookup, b]; exact ⟨fun x q => by cases q; exact ⟨v, rfl, h2⟩, fun q => (nomatch q)⟩
  ·have b : (f == g) = false := beq_eq_false_iff_ne.mpr e
   simp only [List.lookup, b]; exact ⟨i1, i2⟩
def putO (f : Str) (v : D) : List (Str × D) → List (Str × D)
 | [] => [(f, v)]
 | (g, x) :: r => if g = f then (g, v) :: r else (g, x) :: putO f v r
theorem RKW.putO {f : Str} {x : D} {v : V} (hx : RW K Z m H x v) : ∀ {fs : List (Str × D)} {vs : List (Str × V)}, RKW K Z m H fs vs → RKW K Z m H (DL.putO f x fs) (dI f v vs)
 | [], _, h => by cases (show _ = [] from h); exact ⟨v, [], rfl, hx, rfl⟩
 | (g, y) :: fs, _, ⟨w, r, h1, h2, h3⟩ => by
  subst h1; unfold DL.putO dI
  by_cases e : g = f
  ·rw [if_pos e, if_pos e]; exact ⟨v, r, rfl, hx, h3⟩
  ·rw [if_neg e, if_neg e]; exact ⟨w, _, rfl, h2, h3.putO hx⟩
theorem Ok.o {a : Addr} {N : Str} {fs : List (Str × D)} (ok : Ok K Z m H) (h : m a = some (.o N fs)) : ∃ C dx vs, H a = some (.ins C dx vs) ∧ PySem.W.nsIn K mainGlobals N = some (some (.ref C)) ∧ RKW K Z m H fs vs := by
 obtain ⟨o, h1, h2⟩ := ok.g a _ h
 cases o <;> first | exact ⟨_, _, _, h1, h2⟩ | exact h2.elim
end
section
variable {X : Cx} {o e : Expr} {es : List Expr} {fo fe : DE} {ga : DA} {pos pos' tpos apos p : Pos} {N f : Str} {C : Addr}
@[simp] def jU (N f : Str) (fo : DE) : DE := fun d m Q => fo d m fun x m1 => ∃ a fs y, x = .cel a ∧ m1 a = some (.o N fs) ∧ fs.lookup f = some y ∧ (∀ b, y = .cel b → (m1 b).isSome = true) ∧ Q y m1
theorem Ub (g : PySem.W.nsIn X.K mainGlobals N = some (some (.ref C))) (c : Cls X.K C) (n : NoAttr X.K C f) (ho : PE X o (LE X.K fo)) (hb : attributeBase o f X.env (eval o X.env) = eval o X.env := by rfl) : PE X (.Attribute o f pos) (LE X.K (jU N f fo)) :=
 PE.imp (Tq ho hb) fun s H Q h => by
  obtain ⟨Z, d, m, R, ok, rs, h, k⟩ := h; refine ⟨Z, d, m, _, ok, rs, h, fun x m1 v H1 q e1 ok1 rd => ?_⟩; obtain ⟨a, fs, y, rfl, hm, hl, hc, q⟩ := q; obtain ⟨C', dx, vs, h1, h2, h3⟩ := ok1.o hm; rw [g] at h2
  cases h2
  obtain ⟨v', l1, l2⟩ := h3.look.1 _ hl; obtain ⟨rfl, _⟩ := rd; exact ⟨a, C, dx, vs, v', rfl, h1, c, n, l1, k y m1 v' H1 q e1 ok1 (l2.rd hc)⟩
@[simp] def vM (N f : Str) (fo fe : DE) : DS := fun E d m => fe d m fun y m1 => fo d m1 fun x m2 => ∃ a fs, x = .cel a ∧ m2 a = some (.o N fs) ∧ fs.length < 1000 ∧ E.nx d (bN m2 a (.o N (putO f y fs)))
theorem R9 (g : PySem.W.nsIn X.K mainGlobals N = some (some (.ref C))) (c : Cls X.K C) (n : NoAttr X.K C f) (he : PE X e (LE X.K fe)) (ho : PE X o (LE X.K fo)) (hs : swapsWith e (some (.Attribute o f pos')) pos.line X.env = pure false := by rfl) :
  PS X (.Assign [.Attribute o f pos'] e pos) (LS X.K (vM N f fo fe)) := PS.imp (Ur ho he hs) fun E s H h => by
 obtain ⟨Z, d, m, R, ok, rs, h, k, _⟩ := h; refine ⟨Z, d, m, _, ok, rs, h, fun y m1 v H1 q e1 ok1 r1 => ⟨Z, d, m1, _, ok1, rs.ext e1, q, fun x m2 w H2 q2 e2 ok2 r2 => ?_⟩⟩; obtain ⟨a, fs, rfl, hm, hl, q⟩ := q2; obtain ⟨C', dx, vs, h1, h2, h3⟩ := ok2.o hm; rw [g] at h2
 cases h2
 obtain ⟨rfl, _⟩ := r2; refine ⟨a, C, dx, vs, rfl, h1, c, n, by rw [h3.length]; exact hl, ?_⟩
 have e3 : Ext X.K Z m2 H2 (bN m2 a (.o N (putO f y fs))) (aN H2 a (.ins C dx (dI f v vs))) := Ext.put ok2 hm h1
 exact k d _ s _ q (e1.trans (e2.trans e3)) (ok2.put hm h1 ⟨g, h3.putO (r1.ext e2).rw⟩) ((rs.ext e1).ext (e2.trans e3))
@[simp] def nV (N mn : Str) (n : Nat) (sp : DC) (fo : DE) (ga : DA) : DE := fun d m Q => fo d m fun x m1 => ∃ a fs, x = .cel a ∧ m1 a = some (.o N fs) ∧ fs.lookup mn = none ∧ ga d m1 fun xs m2 => (x :: xs).length = n ∧ sp (x :: xs) m2 Q
theorem s0 {k n : Nat} {fa : Addr} {fd : FuncData} {ps : List Str} {sp : DC} (g : PySem.W.nsIn X.K mainGlobals N = some (some (.ref C))) (c : Cls X.K C) (hm : Meth X.K C f fa) (F : FnOk X.prog X.w X.K X.mg X.base aT k fa fd ps (LSp X.K n sp)) (hr : Room k X.A) (hb : Binds X.K fd ps [])
  (hx : X.xe = fun _ _ => False) (ho : PE X o (LE X.K fo)) (ha : PA X (e :: es) (LA X.K ga))
  (hst : starEach (e :: es) X.env = (false, eval e X.env) :: starEach es X.env := by rfl) (hpl : (backTo pos (starEach es X.env)).any (·.1) = false := by rfl) {pl : Sem Bool}
  (ht : eval (.Call (.Attribute o f apos) (e :: es) [] pos) X.env = (do
   let ov ← eval o X.env
   standAt apos.atName
   let (f, first) ← holding [ov] (getMethod ov f pl)
   callWith pos f first (backTo pos (starEach (e :: es) X.env)) (backToKw pos (keywordEach [] X.env))) := by rfl) :
  PE X (.Call (.Attribute o f apos) (e :: es) [] pos) (LE X.K (nV N f n sp fo ga)) :=
 PE.imp (M0 (pl := pl) ho c hm F hr hb .nil (Gv (X := X)) ha hst hpl ht) fun s H Q h => by
  obtain ⟨Z, d, m, R, ok, rs, h, k⟩ := h; refine ⟨Z, d, m, _, ok, rs, h, fun x m1 v H1 q e1 ok1 rd => ?_⟩; obtain ⟨a, fs, rfl, hm, hl, q⟩ := q; obtain ⟨C', dx, vs, h1, h2, h3⟩ := ok1.o hm; rw [g] at h2
  cases h2
  obtain ⟨rfl, hsome⟩ := rd; refine ⟨a, dx, vs, rfl, h1, h3.look.2 hl, Z, d, m1, _, ok1, rs.ext e1, q, fun xs m2 ws H2 ⟨hl2, q2⟩ e2 ok2 rd2 => ?_⟩; exact ⟨Z, .cel a :: xs, m2, R, ok2, ⟨.ref a, ws, by simp, ⟨rfl, e2.c _ hsome⟩, rd2⟩, hl2, q2, fun d' m' v' H' h1 h2 h3 h4 => k d' m' v' H' h1 (e1.trans (e2.trans h2)) h3 h4⟩
theorem O1 {k : Nat} {f : Addr} {fd : FuncData} {ps : List Str} {sp : Sp} {pins : List (Addr × Obj)} {σ : L2.St} {H : Hp} {s : Shared} {Q : VK} {us : List Value} {vs : List V} (M : Mk X.K C f) (F : FnOk X.prog X.w X.K X.mg X.base aT k f fd ps sp) (hr : Room (k + 1) X.A) (hb : Binds X.K fd ps [])
  (I : Inv X pins σ H s) (r : Vals vs us)
  (h : ∀ x dx, H x = none → H dx = none → dx ≠ x → X.K.lookup x = none → X.K.lookup dx = none → sp (.ref x :: vs) (aN (aN H dx (.own x)) x (.ins C dx [])) (fun v H2 => v = .non ∧ Q (.ref x) H2) E0) :
  wpAny (model X.prog X.w) X.A (call (.ref C) us) (EP X pins σ Q) X.xe s := by
 have hk : ∀ a, s.heap.objs.size ≤ a → X.K.lookup a = none := fun a ha => by
  cases e : X.K.lookup a with
  | none => rfl
  | some o => exact absurd (Heap.lt_size (I.kIn _ o e)) (Nat.not_lt.mpr ha)
 have hq := h (s.heap.objs.size + 1) s.heap.objs.size (I.hok.fresh (Nat.le_succ _)) (I.hok.fresh (Nat.le_refl _)) (Nat.ne_of_lt (Nat.lt_succ_self _)) (hk _ (Nat.le_succ _)) (hk _ (Nat.le_refl _))
 have I2 := Inv.made (C := C) I
 have r2 : Vals (V.ref (s.heap.objs.size + 1) :: vs) (Value.ref (s.heap.objs.size + 1) :: us) := .cons rfl r
 have hl : (Value.ref (s.heap.objs.size + 1) :: us ++ []).length = ps.length := by
  have e := r2.length
  rw [F.len _ _ _ _ hq] at e; rw [List.append_nil]; exact e.symm
 have hb' := hb _ (Value.ref (s.heap.objs.size + 1) :: us) I2.kIn hl
 rw [List.append_nil] at hb'; refine wpAny_call (Pw (f := f) I.kIn M.makes M.init (beq_iff_eq.mp M.fn) (codeAny_mono (F.run _ X.stack _ _ ⟨Value.ref (s.heap.objs.size + 1) :: us, []⟩ (Value.ref (s.heap.objs.size + 1) :: us) _ _ E0 (hr.make C us [])
  (I2.env0.make C us []) hb' r2 hq) fun r s' hq' => ?_))
 cases r with
 | error e => exact False.elim hq'
 | ok fl =>
  cases fl with
  | ret u =>
   obtain ⟨v, H', I3, rv, ev, q3⟩ := I2.after hq'; subst ev; exact ⟨rv, ⟨V.ref (s.heap.objs.size + 1), H', I3, rfl, q3⟩⟩
  | next => exact False.elim hq'
  | brk => exact False.elim hq'
  | cont => exact False.elim hq'
@[simp] def uQ (N : Str) (n : Nat) (sp : DC) (ga : DA) : DE := fun d m Q => ga d m fun xs m1 => xs.length + 1 = n ∧ ∀ a, m1 a = none → sp (.cel a :: xs) (bN m1 a (.o N [])) fun v m2 => v = .dat .none ∧ Q (.cel a) m2
theorem make_core {k n : Nat} {fa : Addr} {fd : FuncData} {ps : List Str} {sp : DC} {pins : List (Addr × Obj)} {σ : L2.St} {H : Hp} {s : Shared} {Q : VK} {us : List Value} {vs : List V} {xs : List D} {Z : Addr → Prop} {m : Mu} {R : DK}
  (g : PySem.W.nsIn X.K mainGlobals N = some (some (.ref C))) (M : Mk X.K C fa) (F : FnOk X.prog X.w X.K X.mg X.base aT k fa fd ps (LSp X.K n sp)) (hr : Room (k + 1) X.A) (hb : Binds X.K fd ps [])
  (I : Inv X pins σ H s) (r : Vals vs us) (ok : Ok X.K Z m H) (rd : RDs X.K Z m H xs vs) (hn : xs.length + 1 = n) (q : ∀ a, m a = none → sp (.cel a :: xs) (bN m a (.o N [])) fun v m2 => v = .dat .none ∧ R (.cel a) m2)
  (k : ∀ x m' v H', R x m' → Ext X.K Z m H m' H' → Ok X.K Z m' H' → RD X.K Z m' H' x v → Q v H') : wpAny (model X.prog X.w) X.A (call (.ref C) us) (EP X pins σ Q) X.xe s := by
 refine O1 M F hr hb I r fun x dx hx hdx ne kx kdx => ?_; have sm : Same H (aN H dx (.own x)) := cW hdx
 have ok1 := ok.grow sm
 have e1 := ok.ext sm
 have hx1 : aN H dx (.own x) x = none := by rw [bG (Ne.symm ne)]; exact hx
 have e2 : Ext X.K Z m (aN H dx (.own x)) (bN m x (.o N [])) (aN (aN H dx (.own x)) x (.ins C dx [])) := Ext.cell ok1 hx1 kx
 have ok2 : Ok X.K Z (bN m x (.o N [])) (aN (aN H dx (.own x)) x (.ins C dx [])) := ok1.cell hx1 kx ⟨g, rfl⟩
 refine ⟨Z, .cel x :: xs, bN m x (.o N []), _, ok2, ⟨.ref x, vs, rfl, ⟨rfl, by rw [cX]; rfl⟩, rd.ext (e1.trans e2)⟩, by simpa using hn, q x (jA ok hx).1, fun d m' v' H' ⟨h1, h2⟩ e3 ok3 r3 => ?_⟩
 subst h1; refine ⟨by simpa only [RD, RP] using r3, k _ m' _ H' h2 (e1.trans (e2.trans e3)) ok3 ⟨rfl, e3.c _ (by rw [cX]; rfl)⟩⟩
theorem Yl {k n : Nat} {fa : Addr} {fd : FuncData} {ps : List Str} {sp : DC} (g : PySem.W.nsIn X.K mainGlobals N = some (some (.ref C))) (M : Mk X.K C fa) (hm : X.mg N = some (.ref C)) (F : FnOk X.prog X.w X.K X.mg X.base aT k fa fd ps (LSp X.K n sp)) (hr : Room (k + 1) X.A) (hb : Binds X.K fd ps [])
  (hg : Gl X N := by rfl) (hdb : (N == ("__debug__" : Str)) = false := by decide) : PE X (.Call (.Name N p) [] [] pos) (LE X.K (uQ N n sp aH)) := by
 intro pins s σ H Q I h; obtain ⟨Z, d, m, R, ok, rs, ⟨q1, q2⟩, k⟩ := h; refine wpAny_Call_Name_kw (Ak I hg hm ?_ hdb); exact PySem.W.callWith_K0 I.kIn M.kp (make_core g M F hr hb I .nil ok (show RDs X.K Z m H [] [] from rfl) q1 q2 k)
end
end DL
namespace DL
open PySem PySem.Spec PyProof.Rows L2
section
variable {κ β : Type} [DecidableEq κ]
def cS (kvs : List (κ × β)) (k : κ) : Option β := (kvs.find? fun kv => decide (kv.1 = k)).map (·.2)
def eQ (kvs : List (κ × β)) (k : κ) (v : β) : List (κ × β) :=
 if (kvs.any fun kv => decide (kv.1 = k)) = true then kvs.map (fun kv => if kv.1 = k then (kv.1, v) else kv) else kvs ++ [(k, v)]
theorem gB {p : κ × β} {r : List (κ × β)} {k : κ} (e : p.1 = k) : cS (p :: r) k = some p.2 := by simp [cS, List.find?_cons, e]
theorem iH {p : κ × β} {r : List (κ × β)} {k : κ} (e : ¬ p.1 = k) : cS (p :: r) k = cS r k := by simp [cS, List.find?_cons, e]
theorem Dv (k : κ) : ∀ kvs : List (κ × β), (kvs.any fun kv => decide (kv.1 = k)) = (cS kvs k).isSome
 | [] => rfl
 | p :: r => by
  rw [List.any_cons]
  by_cases e : p.1 = k
  ·simp only [gB e, decide_eq_true e, Bool.true_or, Option.isSome_some]
  ·rw [iH e, decide_eq_false e, Bool.false_or]; exact Dv k r
theorem Hj (k j : κ) (y : β) : ∀ kvs : List (κ × β), cS (kvs.map fun kv => if kv.1 = k then (kv.1, y) else kv) j = (cS kvs j).map fun x => if j = k then y else x
 | [] => rfl
 | p :: r => by
  have ih := Hj k j y r
  rw [List.map_cons]
  by_cases h : p.1 = k
  ·rw [if_pos h]
   by_cases e : p.1 = j
   ·rw [gB (p := (p.1, y)) e, gB e, Option.map_some, if_pos (e.symm.trans h)]
   ·rw [iH (p := (p.1, y)) e, iH e, ih]
  ·rw [if_neg h]
   by_cases e : p.1 = j
   ·rw [gB (p := p) e, gB e, Option.map_some, if_neg (fun z => h (e.trans z))]
   ·rw [iH (p := p) e, iH e, ih]
theorem Ff (k j : κ) (y : β) : ∀ kvs : List (κ × β), cS kvs k = none → cS (kvs ++ [(k, y)]) j = if j = k then some y else cS kvs j
 | [], _ => by
  by_cases e : k = j
  ·rw [if_pos e.symm]; exact gB (p := (k, y)) e
  ·rw [if_neg (fun z => e z.symm)]; exact iH (p := (k, y)) e
 | p :: r, hn => by
  rw [List.cons_append]; have hk : ¬ p.1 = k := fun z => by rw [gB z] at hn; cases hn
  rw [iH hk] at hn; have ih := Ff k j y r hn
  by_cases e : p.1 = j
  ·rw [gB e, gB e, if_neg (fun z => hk (e.trans z))]
  ·rw [iH e, iH e, ih]
theorem Ez (kvs : List (κ × β)) (k j : κ) (y : β) : cS (eQ kvs k y) j = if j = k then some y else cS kvs j := by
 unfold eQ
 by_cases a : (kvs.any fun kv => decide (kv.1 = k)) = true
 ·rw [if_pos a, Hj]; rw [Dv] at a
  by_cases e : j = k
  ·obtain ⟨x, hx⟩ := Option.isSome_iff_exists.mp a; rw [if_pos e, e, hx, Option.map_some, if_pos rfl]
  ·rw [if_neg e]
   cases cS kvs j with
   | none => rfl
   | some x => rw [Option.map_some, if_neg e]
 ·rw [if_neg a]; refine Ff k j y kvs ?_; rw [Dv] at a
  cases q : cS kvs k with
  | none => rfl
  | some x => rw [q] at a; exact (a rfl).elim
theorem F0 (kvs : List (κ × β)) (k : κ) (v : β) : (eQ kvs k v).length ≤ kvs.length + 1 := by
 unfold eQ
 split
 ·rw [List.length_map]; omega
 ·rw [List.length_append, List.length_cons, List.length_nil]; omega
end
section
variable {κ : Type} [DecidableEq κ] {K : PySem.W.Frag} {Z : Addr → Prop} {m : Mu} {H : Hp}
theorem RKW.val {k : κ} : ∀ {kvs : List (κ × D)} {vs : List (κ × V)}, RKW K Z m H kvs vs → (∀ x, cS kvs k = some x → ∃ v, bW vs k = some v ∧ RW K Z m H x v) ∧ (cS kvs k).isSome = (bW vs k).isSome
 | [], _, h => by cases (show _ = [] from h); exact ⟨fun x e => (nomatch e), rfl⟩
 | (g, y) :: fs, _, ⟨v, r, h1, h2, h3⟩ => by
  subst h1; obtain ⟨i1, i2⟩ := h3.val (k := k)
  by_cases e : g = k
  ·rw [gB (p := (g, y)) e, rW (p := (g, v)) e]; exact ⟨fun x q => by cases q; exact ⟨v, rfl, h2⟩, rfl⟩
  ·rw [iH (p := (g, y)) e, rM (p := (g, v)) e]; exact ⟨i1, i2⟩
theorem RKW.any {k : κ} : ∀ {kvs : List (κ × D)} {vs : List (κ × V)}, RKW K Z m H kvs vs → (vs.any fun kv => decide (kv.1 = k)) = (kvs.any fun kv => decide (kv.1 = k))
 | [], _, h => by cases (show _ = [] from h); rfl
 | (g, y) :: fs, _, ⟨v, r, h1, h2, h3⟩ => by subst h1; rw [List.any_cons, List.any_cons, h3.any]
theorem RKW.repl {k : κ} {x : D} {v : V} (hx : RW K Z m H x v) : ∀ {kvs : List (κ × D)} {vs : List (κ × V)}, RKW K Z m H kvs vs → RKW K Z m H (kvs.map fun kv => if kv.1 = k then (kv.1, x) else kv) (vs.map fun kv => if kv.1 = k then (kv.1, v) else kv)
 | [], _, h => by cases (show _ = [] from h); rfl
 | (g, y) :: fs, _, ⟨w, r, h1, h2, h3⟩ => by
  subst h1; rw [List.map_cons, List.map_cons]
  by_cases e : g = k
  ·rw [if_pos (show ((g, y) : κ × D).1 = k from e), if_pos (show ((g, w) : κ × V).1 = k from e)]; exact ⟨v, _, rfl, hx, h3.repl hx⟩
  ·rw [if_neg (show ¬ ((g, y) : κ × D).1 = k from e), if_neg (show ¬ ((g, w) : κ × V).1 = k from e)]; exact ⟨w, _, rfl, h2, h3.repl hx⟩
theorem RKW.snoc {k : κ} {x : D} {v : V} (hx : RW K Z m H x v) : ∀ {kvs : List (κ × D)} {vs : List (κ × V)}, RKW K Z m H kvs vs → RKW K Z m H (kvs ++ [(k, x)]) (vs ++ [(k, v)])
 | [], _, h => by cases (show _ = [] from h); exact ⟨v, [], rfl, hx, rfl⟩
 | (g, y) :: fs, _, ⟨w, r, h1, h2, h3⟩ => by subst h1; exact ⟨w, _, rfl, h2, h3.snoc hx⟩
theorem RKW.put {k : κ} {x : D} {v : V} {kvs : List (κ × D)} {vs : List (κ × V)} (h : RKW K Z m H kvs vs) (hx : RW K Z m H x v) : RKW K Z m H (eQ kvs k x) (cT vs k v) := by
 unfold eQ cT; rw [h.any]
 split
 ·exact h.repl hx
 ·exact h.snoc hx
theorem Ok.n {a : Addr} {kvs : List (List PyData × D)} (ok : Ok K Z m H) (h : m a = some (.n kvs)) : ∃ vs, H a = some (.dN K vs) ∧ RKW K Z m H kvs vs := by
 obtain ⟨o, h1, h2⟩ := ok.g a _ h
 cases o <;> first | (obtain ⟨rfl, h2⟩ := h2; exact ⟨_, h1, h2⟩) | exact h2.elim
mutual
theorem RP.nkv : ∀ (p : PyData) (v : V), L2.isK p = true → RP K Z m H p v → NKV K H p v
 | .int _, _, _, h => by simp only [RP] at h; simp only [NKV]; exact h
 | .str _, _, _, h => by simp only [RP] at h; simp only [NKV]; exact h
 | .tuple xs, _, hk, h => by
  simp only [RP] at h; simp only [NKV]; obtain ⟨a, vs, e, h1, h2⟩ := h; exact ⟨a, vs, e, h1, RPs.nkv xs vs hk h2⟩
 | .none, _, h, _ | .bool _, _, h, _ | .list _, _, h, _ | .dict _, _, h, _ => by simp [L2.isK] at h
theorem RPs.nkv : ∀ (ps : List PyData) (vs : List V), L2.isKs ps = true → RPs K Z m H ps vs → NKVs K H ps vs
 | [], _, _, h => by simp only [RPs] at h; simp only [NKVs]; exact h
 | p :: ps, _, hk, h => by
  simp only [L2.isKs, Bool.and_eq_true] at hk; simp only [RPs] at h; simp only [NKVs]; obtain ⟨v, r, e, h1, h2⟩ := h; exact ⟨v, r, e, RP.nkv p v hk.1 h1, RPs.nkv ps r hk.2 h2⟩
end
end
section
variable {X : Cx} {pins : List (Addr × Obj)} {σ : L2.St} {H : Hp} {s : Shared}
mutual
theorem NKV.reads (I : Inv X pins σ H s) : ∀ (p : PyData) (v : V) (u : Value), NKV X.K H p v → RelV v u → ∃ as, Reads s.heap u p as
 | .int i, v, u, h, r => by simp only [NKV] at h; subst h; obtain ⟨t, rfl⟩ := r; exact ⟨_, .int i t⟩
 | .str x, v, u, h, r => by simp only [NKV] at h; subst h; obtain ⟨t, rfl⟩ := r; exact ⟨_, .str x t⟩
 | .tuple xs, v, u, h, r => by
  simp only [NKV] at h; obtain ⟨a, vs, rfl, h2, h3⟩ := h
  cases r
  obtain ⟨its, rv, ⟨o, e, c, n, d⟩, _⟩ := I.tuple h2; obtain ⟨as, q⟩ := NKVs.reads I xs vs its h3 rv; exact ⟨_, .tuple e c d (by simpa using q)⟩
 | .none, _, _, h, _ | .bool _, _, _, h, _ | .list _, _, _, h, _ | .dict _, _, _, h, _ => by simp only [NKV] at h
theorem NKVs.reads (I : Inv X pins σ H s) : ∀ (xs : List PyData) (vs : List V) (us : List Value), NKVs X.K H xs vs → Vals vs us → ∃ as, ReadsAll s.heap us xs as
 | [], vs, us, h, r => by simp only [NKVs] at h; subst h; cases r; exact ⟨_, .nil⟩
 | x :: xs, vs, us, h, r => by
  simp only [NKVs] at h; obtain ⟨v, w, rfl, h1, h2⟩ := h
  cases r with
  | cons r1 r2 =>
   obtain ⟨as, q1⟩ := NKV.reads I x v _ h1 r1; obtain ⟨bs, q2⟩ := NKVs.reads I xs w _ h2 r2; exact ⟨_, .cons q1 q2⟩
end
abbrev KN (K : PySem.W.Frag) (H : Hp) : List (List PyData × V) → List (List PyData × Addr × Value) → Prop :=
 Paired fun p q => p.1 = q.1 ∧ (L2.isKs p.1 = true ∧ PyData.depthAll p.1 ≤ 6 ∧ NKV K H (.tuple p.1) (.ref q.2.1)) ∧ RelV p.2 q.2.2
theorem KN.val {K : PySem.W.Frag} {kvs : List (List PyData × V)} {xs : List (List PyData × Addr × Value)} (r : KN K H kvs xs) (k : List PyData) : RelO (bW kvs k) ((atKey xs k).map (·.2)) := by
 induction r with
 | nil => exact True.intro
 | @cons p q ps qs h t ih =>
  obtain ⟨h1, _, h2⟩ := h
  by_cases e : p.1 = k
  ·have e' : q.1 = k := h1.symm.trans e
   have b : atKey (q :: qs) k = some q.2 := by simp [atKey, List.find?_cons, e']
   rw [rW e, b]; exact h2
  ·have e' : ¬ q.1 = k := fun z => e (h1.trans z)
   have b : atKey (q :: qs) k = atKey qs k := by simp [atKey, List.find?_cons, e']
   rw [rM e, b]; exact ih
theorem KN.repl {K : PySem.W.Frag} {kvs : List (List PyData × V)} {xs : List (List PyData × Addr × Value)} (r : KN K H kvs xs) (k : List PyData) {y : V} {u : Value} (ry : RelV y u) :
  KN K H (kvs.map fun kv => if kv.1 = k then (kv.1, y) else kv) (xs.map (putAt k u)) := by
 induction r with
 | nil => exact .nil
 | @cons p q ps qs h t ih =>
  rw [List.map_cons, List.map_cons]; refine .cons ?_ ih; obtain ⟨h1, h2, h3⟩ := h; unfold putAt
  by_cases e : p.1 = k
  ·rw [if_pos e, if_pos (h1.symm.trans e)]; exact ⟨h1, h2, ry⟩
  ·rw [if_neg e, if_neg (fun z => e (h1.trans z))]; exact ⟨h1, h2, h3⟩
theorem KN.put {K : PySem.W.Frag} {kvs : List (List PyData × V)} {xs : List (List PyData × Addr × Value)} (r : KN K H kvs xs) (k : List PyData) {b : Addr} {y : V} {u : Value} (hb : L2.isKs k = true ∧ PyData.depthAll k ≤ 6 ∧ NKV K H (.tuple k) (.ref b)) (ry : RelV y u) :
  KN K H (cT kvs k y) (storedH xs k b u) := by
 have e : (kvs.any fun kv => decide (kv.1 = k)) = (atKey xs k).isSome := by
  rw [xI, (r.val k).isSome_eq, Option.isSome_map]
 unfold cT storedH; rw [e]
 by_cases q : (atKey xs k).isSome = true
 ·rw [if_pos q, if_pos q]; exact r.repl k ry
 ·rw [if_neg q, if_neg q]; exact Paired.snoc r ⟨rfl, hb, ry⟩
theorem sY (I : Inv X pins σ H s) {k : List PyData} {b : Addr} (h : L2.isKs k = true ∧ PyData.depthAll k ≤ 6 ∧ NKV X.K H (.tuple k) (.ref b)) : (qB X.prog X.w).is s.heap k b :=
 ⟨h.1, h.2.1, NKV.reads I _ _ _ h.2.2 rfl⟩
theorem Ad {a : Addr} {kvs : List (List PyData × V)} (I : Inv X pins σ H s) (e : H a = some (.dN X.K kvs)) : kvs.length ≤ sizeLine ∧ (a == sysModules) = false ∧ ∃ xs, KN X.K H kvs xs ∧ s.heap.DictOfH (qB X.prog X.w) a xs := by
 obtain ⟨z, y, xs, r, o, es, ep, h1, h2, h3, h4, h5⟩ := (show ObjOk X.prog X.w H s.heap a (.dN X.K kvs) from I.hok a _ e)
 refine ⟨z, y, xs, r, o, es, ep, h1, h2, h3, h4, fun x hx => ?_, h5⟩; have all : ∀ {l : List (List PyData × V)} {m : List (List PyData × Addr × Value)}, KN X.K H l m → ∀ x ∈ m, (qB X.prog X.w).is s.heap x.1 x.2.1 := by
  intro l m q
  induction q with
  | nil => intro x hx; exact nomatch hx
  | @cons p q ps qs hq t ih =>
   intro x hx; rcases List.mem_cons.mp hx with e | hx
   ·subst e; exact sY I (by rw [← hq.1]; exact hq.2.1)
   ·exact ih x hx
 exact all r x hx
theorem Az {A : Around} (hu : A.units + 100 < cLine) : (qB X.prog X.w).room A.in1 := by
 show A.in1.units + 20 < cLine
 rw [Around.in1_units]; omega
end
section
variable {X : Cx} {o i e : Expr} {fo fi f : DE} {pos tpos : Pos}
@[simp] def fJ : D → Option (List PyData)
 | .dat (.tuple ks) => if L2.isKs ks = true ∧ PyData.depthAll ks ≤ 6 then some ks else none
 | _ => none
theorem As {y : D} {ks : List PyData} (h : fJ y = some ks) : y = .dat (.tuple ks) ∧ L2.isKs ks = true ∧ PyData.depthAll ks ≤ 6 := by
 unfold fJ at h
 split at h
 ·split at h
  ·rename_i q; cases h; exact ⟨rfl, q⟩
  ·cases h
 ·cases h
@[simp] def wE : DE := fun _ m Q => ∀ a, m a = none → Q (.cel a) (bN m a (.n []))
theorem Zj {P : Program} {w : World} {H : Hp} {K : PySem.W.Frag} (h : Heap) (hb : sysModules < h.objs.size) : ObjOk P w H (h.push { cls := .type "dict", data := .dict #[] }) h.objs.size (.dN K []) :=
 ⟨Nat.zero_le _, by rw [beq_eq_false_iff_ne]; exact (Nat.ne_of_lt hb).symm, [], .nil, _, _, _, Heap.get?_push_size _ rfl, ⟨rfl, rfl, rfl⟩, rfl, rfl, List.nodup_nil⟩
theorem Pd : PE X (.Dict [] [] pos) (LE X.K wE) := by
 intro pins s σ H Q I h; obtain ⟨Z, d, m, R, ok, rs, h, k⟩ := h; have hp : H s.heap.objs.size = none := I.hok.fresh (Nat.le_refl _)
 have hk : X.K.lookup s.heap.objs.size = none := by
  cases e : X.K.lookup s.heap.objs.size with
  | none => rfl
  | some o => exact absurd (Heap.lt_size (I.kIn _ o e)) (Nat.lt_irrefl _)
 refine wpAny_Dict_empty ⟨.ref s.heap.objs.size, _, I.laid (a := s.heap.objs.size) (o := .dN X.K []) (t' := s.toks) (fun _ _ q => Heap.get?_push_of_some _ q) (Nat.le_refl _) (Zj s.heap I.big), rfl, ?_⟩; exact k _ _ _ _ (h _ (jA ok hp).1) (Ext.cell ok hp hk) (ok.cell hp hk (show RC _ _ _ _ (.n []) (.dN X.K []) from ⟨rfl, rfl⟩)) ⟨rfl, by rw [cX]; rfl⟩
@[simp] def uD (fo fi : DE) : DE := fun d m Q => fo d m fun o m1 => fi d m1 fun y m2 => ∃ c ks kvs x, o = .cel c ∧ fJ y = some ks ∧ m2 c = some (.n kvs) ∧ cS kvs ks = some x ∧ (∀ b, x = .cel b → (m2 b).isSome = true) ∧ Q x m2
theorem Rk (hu : X.A.units + 100 < cLine) (ho : PE X o (LE X.K fo)) (hi : PE X i (LE X.K fi)) (hs : rC i := by exact fun _ _ => rfl) : PE X (.Subscript o i pos) (LE X.K (uD fo fi)) := by
 intro pins s σ H Q I h; obtain ⟨Z, d, m, R, ok, rs, h, k⟩ := h; refine Nu PySem.F.slot_dict_getitem.lookup hs (aL (ho pins s σ H (fun x H1 => ∃ (ox : D) (m1 : Mu), RD X.K Z m1 H1 ox x ∧ (fi d m1 fun y m2 => ∃ c ks kvs x, ox = .cel c ∧ fJ y = some ks ∧ m2 c = some (.n kvs) ∧ cS kvs ks = some x ∧ (∀ b, x = .cel b → (m2 b).isSome = true) ∧ R x m2) ∧ Ext X.K Z m H m1 H1 ∧ Ok X.K Z m1 H1) I
  ⟨Z, d, m, _, ok, rs, h, fun x m1 v H1 q e1 ok1 rd => ⟨x, m1, rd, q, e1, ok1⟩⟩) fun u s1 ⟨x, H1, I1, rx, ox, m1, rd, q, e1, ok1⟩ => ?_)
 refine aL (hi pins s1 σ H1 (fun y H2 => ∃ m2 c ks kvs w, x = .ref c ∧ RD X.K Z m2 H2 (.dat (.tuple ks)) y ∧ (L2.isKs ks = true ∧ PyData.depthAll ks ≤ 6) ∧ m2 c = some (.n kvs) ∧ cS kvs ks = some w ∧ (∀ b, w = .cel b → (m2 b).isSome = true) ∧ R w m2 ∧ Ext X.K Z m1 H1 m2 H2 ∧ Ok X.K Z m2 H2) I1
  ⟨Z, d, m1, _, ok1, rs.ext e1, q, fun y m2 v2 H2 ⟨c, ks, kvs, w, eo, ey, hm, hv, hc, q2⟩ e2 ok2 r2 => by subst eo; obtain ⟨rfl, hk⟩ := As ey; obtain ⟨rfl, _⟩ := rd; exact ⟨m2, c, ks, kvs, w, rfl, r2, hk, hm, hv, hc, q2, e2, ok2⟩⟩) fun iv s2 ⟨y, H2, I2, ry, m2, c, ks, kvs, w, ex, r2, hk, hm, hv, hc, q2, e2, ok2⟩ => ?_
 subst ex; obtain rfl : u = Value.ref c := rx; have r3 := RP.nkv (.tuple ks) y hk.1 r2
 have r4 := r3
 simp only [NKV] at r4; obtain ⟨b, vs, rfl, _⟩ := r4; obtain rfl : iv = Value.ref b := ry; obtain ⟨ws, g1, g2⟩ := ok2.n hm; obtain ⟨v, hv', rv⟩ := g2.val.1 _ hv; obtain ⟨z, hd, xs, rel, dd⟩ := Ad I2 g1; obtain ⟨w', hw, rw'⟩ := RelO.some_of (v := v) (o := (atKey xs ks).map (·.2)) (by rw [← hv']; exact rel.val ks)
 obtain ⟨pr, hp, hp2⟩ := Option.map_eq_some_iff.mp hw; refine ⟨dd.typeIs, wpAny_getItem_heap (Az hu) (sY I2 ⟨hk.1, hk.2, r3⟩) dd hp ?_⟩; rw [hp2]; exact ⟨v, H2, I2.tok _, rw', k _ m2 v H2 q2 (e1.trans e2) ok2 (rv.rd hc)⟩
@[simp] def vX (fo fi f : DE) : DS := fun E d m => f d m fun x m1 => fo d m1 fun o m2 => fi d m2 fun y m3 => ∃ c ks kvs, o = .cel c ∧ fJ y = some ks ∧ m3 c = some (.n kvs) ∧ kvs.length < sizeLine ∧ E.nx d (bN m3 c (.n (eQ kvs ks x)))
theorem u8 (hu : X.A.units + 100 < cLine) (he : PE X e (LE X.K f)) (ho : PE X o (LE X.K fo)) (hi : PE X i (LE X.K fi)) (hs : swapsWith e (some (.Subscript o i tpos)) pos.line X.env = pure false := by rfl) :
  PS X (.Assign [.Subscript o i tpos] e pos) (LS X.K (vX fo fi f)) := by
 intro pins s σ H D I h; obtain ⟨Z, d, m, R, ok, rs, h, k, _⟩ := h; refine wpAny_Assign_Subscript (aL (he pins s σ H (fun v H1 => ∃ (x : DL.D) (m1 : Mu), RD X.K Z m1 H1 x v ∧ (fo d m1 fun o m2 => fi d m2 fun y m3 => ∃ c ks kvs, o = .cel c ∧ fJ y = some ks ∧ m3 c = some (.n kvs) ∧ kvs.length < sizeLine ∧ R.nx d (bN m3 c (.n (eQ kvs ks x)))) ∧ Ext X.K Z m H m1 H1 ∧ Ok X.K Z m1 H1) I
  ⟨Z, d, m, _, ok, rs, h, fun x m1 v H1 q e1 ok1 rd => ⟨x, m1, rd, q, e1, ok1⟩⟩) fun r s1 ⟨v, H1, I1, rv, x, m1, rx, q, e1, ok1⟩ => ?_) hs
 refine aL (ho pins s1 σ H1 (fun w H2 => ∃ (ox : DL.D) (m2 : Mu), RD X.K Z m2 H2 ox w ∧ (fi d m2 fun y m3 => ∃ c ks kvs, ox = .cel c ∧ fJ y = some ks ∧ m3 c = some (.n kvs) ∧ kvs.length < sizeLine ∧ R.nx d (bN m3 c (.n (eQ kvs ks x)))) ∧ Ext X.K Z m1 H1 m2 H2 ∧ Ok X.K Z m2 H2) I1
  ⟨Z, d, m1, _, ok1, rs.ext e1, q, fun o m2 w H2 q2 e2 ok2 r2 => ⟨o, m2, r2, q2, e2, ok2⟩⟩) fun u s2 ⟨w, H2, I2, rw2, ox, m2, ro, q2, e2, ok2⟩ => ?_
 refine aL (hi pins s2 σ H2 (fun z H3 => ∃ (y : DL.D) (m3 : Mu), RD X.K Z m3 H3 y z ∧ (∃ c ks kvs, ox = .cel c ∧ fJ y = some ks ∧ m3 c = some (.n kvs) ∧ kvs.length < sizeLine ∧ R.nx d (bN m3 c (.n (eQ kvs ks x)))) ∧ Ext X.K Z m2 H2 m3 H3 ∧ Ok X.K Z m3 H3) I2
  ⟨Z, d, m2, _, ok2, (rs.ext e1).ext e2, q2, fun y m3 z H3 q3 e3 ok3 r3 => ⟨y, m3, r3, q3, e3, ok3⟩⟩) fun iv s3 ⟨z, H3, I3, rz, y, m3, ry, ⟨c, ks, kvs, eo, ey, hm, hl, q3⟩, e3, ok3⟩ => ?_
 subst eo; obtain ⟨rfl, hk⟩ := As ey; obtain ⟨rfl, _⟩ := ro; obtain rfl : u = Value.ref c := rw2; have r3 := RP.nkv (.tuple ks) z hk.1 ry
 have r4 := r3
 simp only [NKV] at r4; obtain ⟨b, vs, rfl, _⟩ := r4; obtain rfl : iv = Value.ref b := rz; obtain ⟨ws, g1, g2⟩ := ok3.n hm; obtain ⟨z, hd, xs, rel, dd⟩ := Ad I3 g1; have hz : xs.length ≤ sizeLine := by rw [← Paired.length rel]; exact z
 have hl2 : (cT ws ks v).length ≤ sizeLine := by have := Co ws ks v; rw [g2.length] at this; omega
 refine wpAny_setItem_heap (hsz := hz) (Az hu) (sY I3 ⟨hk.1, hk.2, r3⟩) dd fun h' dd' hs' => ?_; obtain ⟨q, es, ep, hq, h2, h3, h4, _, h5⟩ := dd'; have ht : ∀ b' xs', H3 b' = some (.tup xs') → aN H3 c (.dN X.K (cT ws ks v)) b' = some (.tup xs') := fun b' xs' e => by rw [bG (yV e g1 (fun z => nomatch z))]; exact e
 have hf : ∀ b' ob u', H3 b' = some (.frz ob u') → aN H3 c (.dN X.K (cT ws ks v)) b' = some (.frz ob u') := fun b' ob u' e => by rw [bG (yV e g1 (fun z => nomatch z))]; exact e
 refine ⟨σ, aN H3 c (.dN X.K (cT ws ks v)), Ag I3 (by rw [g1]; exact True.intro) hs' ⟨q, hq⟩ ⟨hl2, hd, _, Paired.mapP (rel.put ks ⟨hk.1, hk.2, r3⟩ rv) (fun p q z => ⟨z.1, ⟨z.2.1.1, z.2.1.2.1, NKV.stay ht hf _ _ z.2.1.2.2⟩, z.2.2⟩), q, es, ep, hq, h2, h3, h4, h5⟩, ?_⟩
 have e4 : Ext X.K Z m3 H3 (bN m3 c (.n (eQ kvs ks x))) (aN H3 c (.dN X.K (cT ws ks v))) := Ext.put ok3 hm g1
 exact k d _ σ _ q3 (e1.trans (e2.trans (e3.trans e4))) (ok3.put hm g1 ⟨rfl, g2.put ((rx.ext (e2.trans e3)).rw)⟩) ((rs.ext e1).ext (e2.trans (e3.trans e4)))
@[simp] def yW : D2
 | x, .cel c, m, Q => ∃ ks kvs, fJ x = some ks ∧ m c = some (.n kvs) ∧ Q (.dat (.bool (!(cS kvs ks).isSome))) m
 | _, _, _, _ => False
theorem Ww (hu : X.A.units + 100 < cLine) : cI X (compareOp .NotIn) yW := by
 intro pins s σ H Z m x y dx dy v u R Q I ok rx ry r1 r2 h k; unfold yW at h
 split at h
 ·obtain ⟨ks, kvs, ey, hm, q⟩ := h; obtain ⟨rfl, hk⟩ := As ey; obtain ⟨rfl, _⟩ := r2; obtain rfl := (show u = Value.ref _ from ry)
  have r3 := RP.nkv (.tuple ks) x hk.1 r1
  have r4 := r3
  simp only [NKV] at r4; obtain ⟨b, vs, rfl, _⟩ := r4; obtain rfl : v = Value.ref b := rx; obtain ⟨ws, g1, g2⟩ := ok.n hm; obtain ⟨z, hd, xs, rel, dd⟩ := Ad I g1; refine wpAny_notIn_heap (Az hu) (sY I ⟨hk.1, hk.2, r3⟩) hd dd ?_; have e := (rel.val ks).isSome_eq
  rw [Option.isSome_map] at e; rw [← e, ← (g2.val (k := ks)).2]; exact ⟨.bl (!(cS kvs ks).isSome), H, I.tok _, rfl, k _ m _ H q Ext.refl ok .ofBl⟩
 ·exact h.elim
@[simp] def Be : DC
 | [.cel a], m, Q => ∃ kvs, m a = some (.d kvs) ∧ Q (.dat (.int kvs.length)) m
 | _, _, _ => False
theorem Wk : CallD X (.builtin "len") Be := by
 intro pins s σ H Z m xs ds us R Q I ok rv rd h k; unfold Be at h
 split at h
 ·obtain ⟨v, rfl, r1⟩ := rd.one; obtain ⟨rfl, _⟩ := r1; obtain ⟨kvs, hm, q⟩ := h; obtain ⟨vs, h1, h2⟩ := ok.d hm
  cases rv with
  | cons r1 r2 =>
   cases r2
   obtain rfl := (show _ = Value.ref _ from r1)
   refine Wn I (.inl h1) fun t s' I' => ⟨.int vs.length, H, I', ⟨t, rfl⟩, ?_⟩; rw [h2.length]; exact k _ m _ H q Ext.refl ok .ofInt
 ·exact h.elim
end
end DL
namespace DL
open PySem PySem.Spec PyProof.Rows L2
section
variable {X : Cx} {o e : Expr} {f g : DE} {pos : Pos}
@[simp] def Dg : D2
 | .dat (.bool a), .dat (.bool b), m, Q => Q (.dat (.bool (!(a == b)))) m
 | .dat .none, .dat (.bool b), m, Q => Q (.dat (.bool true)) m
 | _, _, _, _ => False
theorem Wy : cI X (compareOp .IsNot) Dg := by
 intro pins s σ H Z m x y dx dy v u R Q I ok rx ry r1 r2 h k; unfold Dg at h
 split at h
 ·rename_i a b
  cases r1.bl
  cases r2.bl
  cases rx
  cases ry
  refine wpAny_isNot_plain rfl ?_; have e : (Value.bool a == Value.bool b) = (a == b) := by cases a <;> cases b <;> rfl
  rw [e]; exact ⟨.bl (!(a == b)), H, I, rfl, k _ m _ H h Ext.refl ok .ofBl⟩
 ·have e : x = .non := by simpa only [RD, RP] using r1
  subst e
  cases r2.bl
  cases rx
  cases ry
  exact wpAny_isNot_other rfl (fun e => nomatch e) ⟨.bl true, H, I, rfl, k _ m _ H h Ext.refl ok .ofBl⟩
 ·exact h.elim
end
open MeetsSeq AutoSeq1 in
theorem Xm (T : String) (hT : T = "tuple" ∨ T = "list") (l : Addr) (items : Array Value) (n : Nat) (b : Addr) (dd : Option Addr) (items2 : Array Value) (n2 : Nat) (sl : Array (Option Value)) (hs0 : ¬(!items.isEmpty && Builtin.List.listTooLong (items.size + items2.size)) = true) (hs1 : items.size ≤ sizeLine) (hs2 : items.size + items2.size ≤ sizeLine + 1) :
  Meets (Builtin.«list.extend» ⟨[.ref l, .ref b], []⟩) (fun _ R s => s.heap.get? l = some { cls := .type "list", dict := none, data := .seq items n, slots := #[] } ∧ s.heap.get? b = some { cls := .type T, dict := dd, data := .seq items2 n2, slots := sl } ∧ R (.ok (.ret Value.none)) { s with heap := s.heap.update l (Obj.mapSeq fun x => x ++ items2), toks := s.toks }) :=
 .of_wp fun prog w A R s h => by
  obtain ⟨hp, g, d, tk, os⟩ := s; obtain ⟨hl, hb, h⟩ := h; have hz' : (items ++ items2).size ≤ sizeLine + 1 := by rw [Array.size_append]; exact hs2
  rcases hT with rfl | rfl
  ·wp_walk using (wpAny_updateSeq hl rfl (hz := hs1) (_hz' := hz')), wpAny_loadPart' hl, wpAny_loadPart' hb; exact ⟨_, rfl, h⟩
  ·wp_walk using (wpAny_updateSeq hl rfl (hz := hs1) (_hz' := hz')), wpAny_loadPart' hl, wpAny_loadPart' hb; exact ⟨_, rfl, h⟩
section
variable {X : Cx} {o e : Expr} {f g : DE} {pos : Pos}
def U9 (K : PySem.W.Frag) : V → List V → Hp → VK → Prop := fun x vs H Q => ∃ l b xs zs, x = .ref l ∧ vs = [.ref b] ∧ H l = some (.lst xs) ∧ (SqT K H b zs ∨ SqL K H b zs) ∧ xs.length + zs.length ≤ sizeLine ∧ Q .non (aN H l (.lst (xs ++ zs)))
theorem Sq : Oa X "list.extend" (U9 X.K) := by
 intro pins s σ H x vs v us Q I rx rv h; obtain ⟨l, b, xs, zs, rfl, rfl, hH, hB, hz, q⟩ := h
 cases rx
 obtain ⟨u, rfl, ru⟩ := rv.one
 cases ru
 obtain ⟨z, its, n, r, hl, e⟩ := I.lstM hH; have hb : ∃ T its2 dd n2 sl, (T = "tuple" ∨ T = "list") ∧ Vals zs its2 ∧ s.heap.get? b = some { cls := .type T, dict := dd, data := .seq its2.toArray n2, slots := sl } := by
  rcases hB with hB | hB
  ·obtain ⟨its2, r2, ⟨ob, e2, c2, n2, d2⟩, _⟩ := I.tuple hB; obtain ⟨oc, od, oda, osl⟩ := ob; exact ⟨"tuple", its2, od, n2, osl, .inl rfl, r2, by rw [e2]; cases c2; cases d2; rfl⟩
  ·obtain ⟨its2, r2, ⟨ob, n2, e2, c2, _, d2⟩, _⟩ := I.list hB; obtain ⟨oc, od, oda, osl⟩ := ob; exact ⟨"list", its2, od, n2, osl, .inr rfl, r2, by rw [e2]; cases c2; cases d2; rfl⟩
 obtain ⟨T, its2, dd, n2, sl, hT, r2, e2⟩ := hb; have l1 := r.length
 have l2 := r2.length
 have hsz : its.toArray.size + its2.toArray.size ≤ sizeLine := by rw [List.size_toArray, List.size_toArray]; omega
 have hlong : ¬ (!its.toArray.isEmpty && Builtin.List.listTooLong (its.toArray.size + its2.toArray.size)) = true := by
  rw [Qv hsz, Bool.and_false]; exact Bool.false_ne_true
 refine call_meets F.slot_list_extend ⟨_, e, rfl⟩ F.entry_list_extend (F.args_list_extend_2 _ _)
  (Xm T hT l its.toArray n b dd its2.toArray n2 sl hlong (by rw [List.size_toArray]; omega) (by omega)) ⟨e, e2, ?_⟩
 refine ⟨.non, _, I.lset (its' := its ++ its2) hH e (by simp) (r.append r2) ?_, rfl, q⟩
 rw [List.length_append]; omega
@[simp] def wN (fo g : DE) : DE := fun d m Q => fo d m fun o m1 => ∃ c, o = .cel c ∧ (∃ ys, m1 c = some (.l ys)) ∧ g d m1 fun x m2 => ∃ xs ys, (x = .dat (.tuple ys) ∨ x = .dat (.list ys)) ∧ m2 c = some (.l xs) ∧ xs.length + ys.length ≤ sizeLine ∧ Q (.dat .none) (bN m2 c (.l (xs ++ ys)))
theorem Qj {apos cpos : Pos} (ho : PE X o (LE X.K f)) (he : PE X e (LE X.K g)) (hbase : attributeBase o "extend" X.env (eval o X.env) = eval o X.env := by rfl)
  (hfew : ((backTo cpos (starEach [e] X.env)).all (fun x => !x.1) && (backToKw cpos (keywordEach [] X.env)).all (fun x => x.1.isSome) && decide ([e].length + ([] : List Keyword).length + (if ([] : List Keyword).isEmpty then 0 else 1) < 30)) = true := by rfl)
  (hline : (apos.endLine == cpos.line) = true := by rfl) (hs : starEach [e] X.env = (false, eval e X.env) :: starEach [] X.env := by rfl) : PE X (.Call (.Attribute o "extend" apos) [e] [] cpos) (LE X.K (wN f g)) :=
 PE.imp (Ky (T := "list") (id := "list.extend") (name := "extend") PySem.F.plainAttrs_list PySem.F.slot_list_extend PySem.F.type_list_extend Sq ho (kU he pR hs) hbase hfew hline hs rfl) fun s H Q h => by
  obtain ⟨Z, d, m, R, ok, rs, h, k⟩ := h; refine ⟨Z, d, m, _, ok, rs, h, fun x m1 v H1 ⟨c, ex, ⟨xs0, hx0⟩, q⟩ e1 ok1 rd => ?_⟩; subst ex; obtain ⟨rfl, hc⟩ := rd; obtain ⟨vs0, g0, _⟩ := ok1.l hx0; refine ⟨.inl ⟨rfl, vs0, .inl (.inl g0)⟩, Z, d, m1, _, ok1, rs.ext e1, q, fun y m2 w H2 ⟨xs, ys, ey, hm, hz, q2⟩ e2 ok2 rd2 => ?_⟩; have hb : ∃ b ws, w = .ref b ∧ (SqT X.K H2 b ws ∨ SqL X.K H2 b ws) ∧ RPs X.K Z m2 H2 ys ws := by
   rcases ey with rfl | rfl
   ·simp only [RD, RP] at rd2; obtain ⟨b, ws, e, h1, h2⟩ := rd2; exact ⟨b, ws, e, .inl h1, h2⟩
   ·simp only [RD, RP] at rd2; obtain ⟨b, ws, e, _, h1, h2⟩ := rd2; exact ⟨b, ws, e, .inr h1, h2⟩
  obtain ⟨b, ws, rfl, g3, g4⟩ := hb; obtain ⟨vs, g1, g2⟩ := ok2.l hm; refine ⟨c, b, vs, ws, rfl, rfl, g1, g3, by rw [g2.length, g4.length]; exact hz, ?_⟩
  exact k _ _ _ _ q2 (e1.trans (e2.trans (Ext.put ok2 hm g1))) (ok2.put hm g1 (show RPs _ _ _ _ _ _ from g2.append g4)) (by simp only [RD, RP])
end
end DL
namespace DL
open PySem PySem.Spec PyProof.Rows L2
structure QE (X : Cx) (e : Expr) (t : TE) : Prop where
 pe : PE X e t
structure QA (X : Cx) (e : List Expr) (t : TA) : Prop where
 pe : PA X e t
structure QT (X : Cx) (e : Expr) (t : TT) : Prop where
 pe : PT X e t
structure QW (X : Cx) (e : Expr) (t : TT) : Prop where
 pe : PW X e t
structure QS (X : Cx) (e : Stmt) (t : TS) : Prop where
 pe : PS X e t
structure QSs (X : Cx) (e : List Stmt) (t : TS) : Prop where
 pe : PSs X e t
structure QG (X : Cx) (e : Expr) (t : TG) : Prop where
 pe : PG X e t
structure QGs (X : Cx) (e : List Expr) (t : gQ) : Prop where
 pe : PGs X e t
structure QO (X : Cx) (e : Option Expr) (t : TO) : Prop where
 pe : PO X e t
structure QF (X : Cx) (e : List Expr) (t : TT) : Prop where
 pe : PF X e t
structure QI (X : Cx) (tg e : Expr) (t : TI) : Prop where
 pe : PI X tg e t
theorem QW.pt {X : Cx} {e : Expr} {t : TT} (h : QW X e t) : QT X e t := ⟨h.pe.pt⟩
section
variable {X : Cx} {pos : Pos}
theorem aC (i : Nat) {x : Str} (hN : X.N[i]? = some x := by rfl) (hv : jX X.env.scope x := by first | exact Or.inl rfl | exact Or.inr (Or.inl rfl) | exact Or.inr (Or.inr rfl)) (hd : (x == ("__debug__" : Str)) = false := by decide) (hcd : (x == ("__classdict__" : Str)) = false := by decide) : QE X (.Name x pos) (LE X.K (aA i)) := ⟨Zi (i := i) (hN := hN) (hv := hv) (hd := hd) (hcd := hcd)⟩
end
section
variable {X : Cx} {pos : Pos}
theorem aM {i : Int} {j : Nat} : QE X (.Constant (.int i) j pos) (LE X.K (aE (.int i))) := ⟨Y8 ⟩
end
section
variable {X : Cx} {pos : Pos}
theorem iZ {b : Bool} {j : Nat} : QE X (.Constant (.bool b) j pos) (LE X.K (aE (.bool b))) := ⟨t9 ⟩
end
section
variable {X : Cx} {pos : Pos}
theorem wR {j : Nat} : QE X (.Constant .none j pos) (LE X.K (aE .none)) := ⟨R0 ⟩
end
section
variable {X : Cx} {pos : Pos}
theorem bB {x : Str} {j : Nat} : QE X (.Constant (.str x) j pos) (LE X.K (aE (.str x))) := ⟨Ts ⟩
end
section
variable {X : Cx} {a b c : Expr} {f g : DE} {pos : Pos}
theorem bK {op : Operator} {r : D2} (ho : cI X (binaryOp op) r) (ha : QE X a (LE X.K f)) (hb : QE X b (LE X.K g)) : QE X (.BinOp a op b pos) (LE X.K (aG r f g)) := ⟨Z2 (ho := ho) (ha := ha.pe) (hb := hb.pe)⟩
end
section
variable {X : Cx} {a b c : Expr} {f g : DE} {pos : Pos}
theorem wI {op : CmpOp} {r : D2} (ho : cI X (compareOp op) r) (ha : QE X a (LE X.K f)) (hb : QE X b (LE X.K g)) (hm : behindInMarks op b = false := by exact uL _) : QE X (.Compare a [op] [b] pos) (LE X.K (aG r f g)) := ⟨G7 (ho := ho) (ha := ha.pe) (hb := hb.pe) (hm := hm)⟩
end
section
variable {X : Cx} {a b c : Expr} {f g : DE} {pos : Pos}
theorem bV {op : CmpOp} {r : D2} (ho : cI X (compareOp op) r) (ha : QE X a (LE X.K f)) (hb : QE X b (LE X.K g)) (hm : behindInMarks op b = false := by exact uL _) : QT X (.Compare a [op] [b] pos) (LT X.K (bH (aG r f g))) := ⟨C7 (ho := ho) (ha := ha.pe) (hb := hb.pe) (hm := hm)⟩
end
section
variable {X : Cx} {a b c : Expr} {f g : DE} {pos : Pos}
theorem rN (h : QE X a (LE X.K f)) (he : ∀ whole, isTrue a X.env whole = (do let v ← whole; standAt a.pos; holding [v] (truthy v)) := by intro _; rfl) : QT X a (LT X.K (bH f)) := ⟨X9 (h := h.pe) (he := he)⟩
end
section
variable {X : Cx} {a b c : Expr} {rest : List Expr} {f g : DE} {t u : DT} {pos : Pos}
theorem wT (ha : QT X a (LT X.K t)) : QW X (.BoolOp .And [a] pos) (LT X.K t) := ⟨E5 (ha := ha.pe)⟩
end
section
variable {X : Cx} {a b c : Expr} {rest : List Expr} {f g : DE} {t u : DT} {pos : Pos}
theorem Ks (ha : QT X a (LT X.K t)) : QW X (.BoolOp .Or [a] pos) (LT X.K t) := ⟨H0 (ha := ha.pe)⟩
end
section
variable {X : Cx} {a b c : Expr} {rest : List Expr} {f g : DE} {t u : DT} {pos : Pos}
theorem Ej (ha : QT X a (LT X.K t)) (hb : QW X (.BoolOp .And (b :: rest) pos) (LT X.K u)) : QW X (.BoolOp .And (a :: b :: rest) pos) (LT X.K (sA t u)) := ⟨T9 (ha := ha.pe) (hb := hb.pe)⟩
end
section
variable {X : Cx} {a b c : Expr} {rest : List Expr} {f g : DE} {t u : DT} {pos : Pos}
theorem Fx (ha : QT X a (LT X.K t)) (hb : QW X (.BoolOp .Or (b :: rest) pos) (LT X.K u)) : QW X (.BoolOp .Or (a :: b :: rest) pos) (LT X.K (qV t u)) := ⟨Ty (ha := ha.pe) (hb := hb.pe)⟩
end
section
variable {X : Cx} {a b c : Expr} {rest : List Expr} {f g : DE} {t u : DT} {pos : Pos}
theorem Qu {op : BoolOp} (h : QE X a (LE X.K f)) : QE X (.BoolOp op [a] pos) (LE X.K f) := ⟨g9 (h := h.pe)⟩
end
section
variable {X : Cx} {a b c : Expr} {rest : List Expr} {f g : DE} {t u : DT} {pos : Pos}
theorem J5 (ha : QE X a (LE X.K f)) (hb : QE X (.BoolOp .And (b :: rest) pos) (LE X.K g)) : QE X (.BoolOp .And (a :: b :: rest) pos) (LE X.K (Cr f g)) := ⟨Tx (ha := ha.pe) (hb := hb.pe)⟩
end
section
variable {X : Cx} {a b c : Expr} {rest : List Expr} {f g : DE} {t u : DT} {pos : Pos}
theorem Nz (hc : QT X c (LT X.K t)) (ha : QE X a (LE X.K f)) (hb : QE X b (LE X.K g)) : QE X (.IfExp c a b pos) (LE X.K (vQ t f g)) := ⟨Q9 (hc := hc.pe) (ha := ha.pe) (hb := hb.pe)⟩
end
section
variable {X : Cx} {e : Expr} {es : List Expr} {f : DE} {g : DA} {pos : Pos}
theorem aJ  : QA X [] (LA X.K aH) := ⟨Cz ⟩
end
section
variable {X : Cx} {e : Expr} {es : List Expr} {f : DE} {g : DA} {pos : Pos}
theorem aD (ha : QE X e (LE X.K f)) (hr : QA X es (LA X.K g)) (hs : starEach (e :: es) X.env = (false, eval e X.env) :: starEach es X.env := by rfl) : QA X (e :: es) (LA X.K (aB f g)) := ⟨rG (ha := ha.pe) (hr := hr.pe) (hs := hs)⟩
end
section
variable {X : Cx} {e : Expr} {es : List Expr} {f : DE} {g : DA} {pos : Pos}
theorem cV {j : Nat} (h : QA X es (LA X.K g)) : QE X (.Tuple es j pos) (LE X.K (cA g)) := ⟨C9 (h := h.pe)⟩
end
section
variable {X : Cx} {e : Expr} {es : List Expr} {f : DE} {g : DA} {pos : Pos}
theorem gI (h : QA X es (LA X.K g)) : QE X (.List es pos) (LE X.K (eY g)) := ⟨W8 (h := h.pe)⟩
end
section
variable {X : Cx} {e : Expr} {es : List Expr} {f : DE} {g : DA} {pos : Pos}
theorem Cn (h : QA X es (LA X.K g)) : QE X (.List es pos) (LE X.K (qN g)) := ⟨Td (h := h.pe)⟩
end
section
variable {X : Cx} {a b c e : Expr} {es : List Expr} {f g : DE} {ga : DA} {pos p2 p : Pos}
theorem Ua (ha : QE X a (LE X.K f)) : QE X (.UnaryOp .USub a pos) (LE X.K (Ar f)) := ⟨T2 (ha := ha.pe)⟩
end
section
variable {X : Cx} {a b c e : Expr} {es : List Expr} {f g : DE} {ga : DA} {pos p2 p : Pos}
theorem bJ (ha : QE X a (LE X.K f)) (hb : QE X b (LE X.K g)) (hs : Bp b := by exact fun _ _ => rfl) : QE X (.Subscript a b pos) (LE X.K (aG bD f g)) := ⟨Vj (ha := ha.pe) (hb := hb.pe) (hs := hs)⟩
end
section
variable {X : Cx} {a b c e : Expr} {es : List Expr} {f g : DE} {ga : DA} {pos p2 p : Pos}
theorem tL  : QO X none (LO X.K mY) := ⟨g8 ⟩
end
section
variable {X : Cx} {a b c e : Expr} {es : List Expr} {f g : DE} {ga : DA} {pos p2 p : Pos}
theorem oH (ha : QE X a (LE X.K f)) : QO X (some a) (LO X.K (gO f)) := ⟨Pn (ha := ha.pe)⟩
end
section
variable {X : Cx} {a b c e : Expr} {es : List Expr} {f g : DE} {ga : DA} {pos p2 p : Pos}
theorem eB {x : Str} {id : String} {r : DC} (hc : CallD X (.builtin id) r) (hg : Gl X x) (hm : X.mg x = none) (hv : bootBuiltins x = some (.builtin id)) (ha : QA X (e :: es) (LA X.K ga)) (hn : x ≠ "__name__" := by decide) (hdb : (x == ("__debug__" : Str)) = false := by decide) (he : starEach (e :: es) X.env = (false, eval e X.env) :: starEach es X.env := by rfl) (hpl : (backTo pos (starEach es X.env)).any (·.1) = false := by rfl) : QE X (.Call (.Name x p) (e :: es) [] pos) (LE X.K (bU r ga)) := ⟨Rq (hc := hc) (hg := hg) (hm := hm) (hv := hv) (ha := ha.pe) (hn := hn) (hdb := hdb) (he := he) (hpl := hpl)⟩
end
section
variable {X : Cx} {a b c e : Expr} {es : List Expr} {f g : DE} {ga : DA} {pos p2 p : Pos}
theorem iQ {x : Str} {T : String} {r : DC} (hc : CallD X (.type T) r) (hg : Gl X x) (hm : X.mg x = none) (hv : bootBuiltins x = some (.type T)) (ha : QA X (e :: es) (LA X.K ga)) (hn : x ≠ "__name__" := by decide) (hdb : (x == ("__debug__" : Str)) = false := by decide) (he : starEach (e :: es) X.env = (false, eval e X.env) :: starEach es X.env := by rfl) (hpl : (backTo pos (starEach es X.env)).any (·.1) = false := by rfl) : QE X (.Call (.Name x p) (e :: es) [] pos) (LE X.K (bU r ga)) := ⟨E2 (hc := hc) (hg := hg) (hm := hm) (hv := hv) (ha := ha.pe) (hn := hn) (hdb := hdb) (he := he) (hpl := hpl)⟩
end
section
variable {X : Cx} {st : Stmt} {rest body orelse : List Stmt} {t u b : DS} {e c tg iter : Expr} {f : DE} {tc : DT} {pos : Pos}
theorem aQ  : QSs X [] (LS X.K aP) := ⟨Rf ⟩
end
section
variable {X : Cx} {st : Stmt} {rest body orelse : List Stmt} {t u b : DS} {e c tg iter : Expr} {f : DE} {tc : DT} {pos : Pos}
theorem aI (h1 : QS X st (LS X.K t)) (h2 : QSs X rest (LS X.K u)) : QSs X (st :: rest) (LS X.K (aF t u)) := ⟨T8 (h1 := h1.pe) (h2 := h2.pe)⟩
end
section
variable {X : Cx} {st : Stmt} {rest body orelse : List Stmt} {t u b : DS} {e c tg iter : Expr} {f : DE} {tc : DT} {pos : Pos}
theorem Vt (he : QE X e (LE X.K f)) (hs : swapsWith e none pos.line X.env = pure false := by rfl) : QS X (.Expr e pos) (LS X.K (wK f)) := ⟨Zq (he := he.pe) (hs := hs)⟩
end
section
variable {X : Cx} {st : Stmt} {rest body orelse : List Stmt} {t u b : DS} {e c tg iter : Expr} {f : DE} {tc : DT} {pos : Pos}
theorem bM (he : QE X e (LE X.K f)) : QS X (.Return (some e) pos) (LS X.K (bF f)) := ⟨Yk (he := he.pe)⟩
end
section
variable {X : Cx} {st : Stmt} {rest body orelse : List Stmt} {t u b : DS} {e c tg iter : Expr} {f : DE} {tc : DT} {pos : Pos}
theorem cM (hc : QT X c (LT X.K tc)) (h1 : QSs X body (LS X.K t)) (h2 : QSs X orelse (LS X.K u)) : QS X (.If c body orelse pos) (LS X.K (bY tc t u)) := ⟨Wf (hc := hc.pe) (h1 := h1.pe) (h2 := h2.pe)⟩
end
section
variable {X : Cx} {st : Stmt} {rest body orelse : List Stmt} {t u b : DS} {e c tg iter : Expr} {f : DE} {tc : DT} {pos : Pos}
theorem bI (i : Nat) {x : Str} {pos' : Pos} (hN : X.N.Nodup) (he : QE X e (LE X.K f)) (hi : X.N[i]? = some x := by rfl) (hx : fQ X.env.scope x := by first | exact Or.inl rfl | exact Or.inr rfl) (hs : swapsWith e (some (.Name x pos')) pos.line X.env = pure false := by rfl) (hf : X.fn x = true ∨ X.env.scope.names.lookup x = some .local := by first | exact .inl rfl | exact .inr rfl) : QS X (.Assign [.Name x pos'] e pos) (LS X.K (aV i f)) := ⟨p7 (i := i) (hN := hN) (he := he.pe) (hi := hi) (hx := hx) (hs := hs) (hf := hf)⟩
end
section
variable {X : Cx} {st : Stmt} {rest body orelse : List Stmt} {t u b : DS} {e c tg iter : Expr} {f : DE} {tc : DT} {pos : Pos}
theorem cE (i : Nat) {x : Str} (hN : X.N.Nodup) (hi : X.N[i]? = some x := by rfl) (hx : fQ X.env.scope x := by first | exact Or.inl rfl | exact Or.inr rfl) (hf : X.fn x = true ∨ X.env.scope.names.lookup x = some .local := by first | exact .inl rfl | exact .inr rfl) : QG X (.Name x pos) (LG X.K (gN i)) := ⟨Sf (i := i) (hN := hN) (hi := hi) (hx := hx) (hf := hf)⟩
end
section
variable {X : Cx} {st : Stmt} {rest body orelse : List Stmt} {t u b : DS} {e c tg iter : Expr} {f : DE} {tc : DT} {pos : Pos}
theorem nG  : QGs X [] (jL X.K fW) := ⟨Xw ⟩
end
section
variable {X : Cx} {st : Stmt} {rest body orelse : List Stmt} {t u b : DS} {e c tg iter : Expr} {f : DE} {tc : DT} {pos : Pos}
theorem eD {es : List Expr} {g : DG} {r : iJ} (h1 : QG X e (LG X.K g)) (h2 : QGs X es (jL X.K r)) (hs : (assignEach (e :: es) X.env).map (·.2) = assign e X.env :: (assignEach es X.env).map (·.2) := by rfl) : QGs X (e :: es) (jL X.K (dF g r)) := ⟨Zp (h1 := h1.pe) (h2 := h2.pe) (hs := hs)⟩
end
section
variable {X : Cx} {st : Stmt} {rest body orelse : List Stmt} {t u b : DS} {e c tg iter : Expr} {f : DE} {tc : DT} {pos : Pos}
theorem nY {es : List Expr} {j n : Nat} {g : iJ} (hc : X.calm = true) (h : QGs X es (jL X.K g)) (hn : (assignEach es X.env).length = n := by rfl) (hst : (assignEach es X.env).findIdx? (·.1) = none := by rfl) : QG X (.Tuple es j pos) (LG X.K (gT n g)) := ⟨Tu (hc := hc) (h := h.pe) (hn := hn) (hst := hst)⟩
end
section
variable {X : Cx} {st : Stmt} {rest body orelse : List Stmt} {t u b : DS} {e c tg iter : Expr} {f : DE} {tc : DT} {pos : Pos}
theorem zJ {g : DG} (he : QE X e (LE X.K f)) (hg : QG X tg (LG X.K g)) (hs : swapsWithSole [tg] e pos.line X.env = pure false := by rfl) (hw : swappedStores [tg] e X.env = pure none := by rfl) (h1 : (assignEach [tg] X.env).map (·.2) = [assign tg X.env] := by rfl) : QS X (.Assign [tg] e pos) (LS X.K (mS f g)) := ⟨Xh (he := he.pe) (hg := hg.pe) (hs := hs) (hw := hw) (h1 := h1)⟩
end
section
variable {X : Cx} {st : Stmt} {rest body orelse : List Stmt} {t u b : DS} {e c tg iter : Expr} {f : DE} {tc : DT} {pos : Pos}
theorem Lp {o i : Expr} {fo fi : DE} {tpos : Pos} (he : QE X e (LE X.K f)) (ho : QE X o (LE X.K fo)) (hi : QE X i (LE X.K fi)) (ha : ∀ v, assign (.Subscript o i tpos) X.env v = (do
   let ov ← holding [v] (eval o X.env)
   let iv ← holding [v, ov] (eval i X.env)
   standAt tpos
   holding [v, ov, iv] (setItem ov iv v)
   release [v, ov, iv] []) := by intro _; rfl) (hs : swapsWithSole [.Subscript o i tpos] e pos.line X.env = pure false := by rfl) (hw : swappedStores [.Subscript o i tpos] e X.env = pure none := by rfl) (h1 : (assignEach [.Subscript o i tpos] X.env).map (·.2) = [assign (.Subscript o i tpos) X.env] := by rfl) : QS X (.Assign [.Subscript o i tpos] e pos) (LS X.K (sW fo fi f)) := ⟨Ys (he := he.pe) (ho := ho.pe) (hi := hi.pe) (ha := ha) (hs := hs) (hw := hw) (h1 := h1)⟩
end
section
variable {X : Cx} {st : Stmt} {rest body orelse : List Stmt} {t u b : DS} {e c tg iter : Expr} {f : DE} {tc : DT} {pos : Pos}
theorem Vu (hp : PassesOwn (model X.prog X.w) X.A X.env X.xe) (hc : QT X c (LT X.K tc)) (hb : QSs X body (LS X.K b)) : QS X (.While c body [] pos) (LS X.K (Cd tc b)) := ⟨X7 (hp := hp) (hc := hc.pe) (hb := hb.pe)⟩
end
section
variable {X : Cx} {st : Stmt} {rest body orelse : List Stmt} {t u b : DS} {e c tg iter : Expr} {f : DE} {tc : DT} {pos : Pos}
theorem iW (ha : QE X e (LE X.K f)) : QI X tg e (LI X.K (dQ f)) := ⟨Ve (ha := ha.pe)⟩
end
section
variable {X : Cx} {st : Stmt} {rest body orelse : List Stmt} {t u b : DS} {e c tg iter : Expr} {f : DE} {tc : DT} {pos : Pos}
theorem qC {p : Pos} (hg : Gl X "range") (hm : X.mg "range" = none) (ha : QE X e (LE X.K f)) (hs : starEach [e] X.env = [(false, eval e X.env)] := by rfl) : QI X tg (.Call (.Name "range" p) [e] [] pos) (LI X.K (kN f)) := ⟨D3 (hg := hg) (hm := hm) (ha := ha.pe) (hs := hs)⟩
end
section
variable {X : Cx} {st : Stmt} {rest body orelse : List Stmt} {t u b : DS} {e c tg iter : Expr} {f : DE} {tc : DT} {pos : Pos}
theorem kR {fi : DI} {g : DG} (hp : PassesOwn (model X.prog X.w) X.A X.env X.xe) (hc : X.calm = true) (hi : QI X tg iter (LI X.K fi)) (hg : QG X tg (LG X.K g)) (hb : QSs X body (LS X.K b)) (hs : ∀ x, foldedSetIterable iter X.env x = pure x := by intro _; rfl) : QS X (.For tg iter body [] pos) (LS X.K (eF fi g b)) := ⟨Zc (hp := hp) (hc := hc) (hi := hi.pe) (hg := hg.pe) (hb := hb.pe) (hs := hs)⟩
end
section
variable {X : Cx} {a e : Expr} {es : List Expr} {f : DE} {ga : DA} {pos p p1 p2 p3 p4 : Pos}
theorem M1 {j : Nat} (ha : QE X a (LE X.K f)) : QE X (.Subscript a (.Slice none none (some (.UnaryOp .USub (.Constant (.int 1) j p3) p4)) p2) pos) (LE X.K (zM f)) := ⟨Rj (ha := ha.pe)⟩
end
section
variable {X : Cx} {a e : Expr} {es : List Expr} {f : DE} {ga : DA} {pos p p1 p2 p3 p4 : Pos}
theorem vD {T : Str} {c : String} (hg : Gl X "isinstance") (hm : X.mg "isinstance" = none) (hgT : Gl X T) (hmT : X.mg T = none) (hv : bootBuiltins T = some (.type c)) (hc : c = "int" ∨ c = "bool" ∨ c = "str" ∨ c = "tuple" ∨ c = "list") (ha : QE X a (LE X.K f)) (hn : T ≠ "__name__" := by decide) (hd : (T == ("__debug__" : Str)) = false := by decide) (he : starEach [a, .Name T p2] X.env = (false, eval a X.env) :: starEach [.Name T p2] X.env := by rfl) : QE X (.Call (.Name "isinstance" p1) [a, .Name T p2] [] pos) (LE X.K (pW f c)) := ⟨Vi (hg := hg) (hm := hm) (hgT := hgT) (hmT := hmT) (hv := hv) (hc := hc) (ha := ha.pe) (hn := hn) (hd := hd) (he := he)⟩
end
section
variable {X : Cx} {a e : Expr} {es : List Expr} {f : DE} {ga : DA} {pos p p1 p2 p3 p4 : Pos}
theorem bA {k n : Nat} {fa : Addr} {fd : FuncData} {ps : List Str} {sp : DC} {x : Str} (F : FnOk X.prog X.w X.K X.mg X.base aT k fa fd ps (LSp X.K n sp)) (hr : Room k X.A) (hm : X.mg x = some (.ref fa)) (hk : PySem.W.keepIn X.K (.ref fa) = true) (hb : Binds X.K fd ps []) (hx : X.xe = fun _ _ => False) (ha : QA X (e :: es) (LA X.K ga)) (hg : Gl X x := by rfl) (hdb : (x == ("__debug__" : Str)) = false := by decide) (he : starEach (e :: es) X.env = (false, eval e X.env) :: starEach es X.env := by rfl) (hpl : (backTo pos (starEach es X.env)).any (·.1) = false := by rfl) : QE X (.Call (.Name x p) (e :: es) [] pos) (LE X.K (aU n sp ga)) := ⟨W9 (F := F) (hr := hr) (hm := hm) (hk := hk) (hb := hb) (hx := hx) (ha := ha.pe) (hg := hg) (hdb := hdb) (he := he) (hpl := hpl)⟩
end
section
theorem mV {Y : Cx} : QF Y [] (LT Y.K gG) := ⟨v9 ⟩
end
section
theorem wS {Y : Cx} {c : Expr} {t : TT} (h : QT Y c t) : QF Y [c] t := ⟨g7 (h := h.pe)⟩
end
section
variable {X : Cx} {a e o : Expr} {es : List Expr} {f g : DE} {ga : DA} {pos p p1 p2 : Pos}
theorem Fc {x : Str} {c : Addr} {zs : List Str} (hg : Gl X x) (hm : X.mg x = some (.ref c)) (hk : KT X.K c zs) (hd : (x == ("__debug__" : Str)) = false := by decide) : QE X (.Name x pos) (LE X.K (aE (.tuple (zs.map .str)))) := ⟨R4 (hg := hg) (hm := hm) (hk := hk) (hd := hd)⟩
end
section
variable {X : Cx} {a e o : Expr} {es : List Expr} {f g : DE} {ga : DA} {pos p p1 p2 : Pos}
theorem Ru {x : Str} {c : Addr} {zs : List Str} {apos cpos : Pos} (hg : Gl X x) (hm : X.mg x = some (.ref c)) (hk : KT X.K c zs) (he : QE X e (LE X.K g)) (hd : (x == ("__debug__" : Str)) = false := by decide) (hbase : attributeBase (.Name x p) "index" X.env (eval (.Name x p) X.env) = eval (.Name x p) X.env := by rfl) (hfew : ((backTo cpos (starEach [e] X.env)).all (fun x => !x.1) && (backToKw cpos (keywordEach [] X.env)).all (fun x => x.1.isSome) && decide ([e].length + ([] : List Keyword).length + (if ([] : List Keyword).isEmpty then 0 else 1) < 30)) = true := by rfl) (hline : (apos.endLine == cpos.line) = true := by rfl) (hs : starEach [e] X.env = (false, eval e X.env) :: starEach [] X.env := by rfl) : QE X (.Call (.Attribute (.Name x p) "index" apos) [e] [] cpos) (LE X.K (vO zs g)) := ⟨f6 (hg := hg) (hm := hm) (hk := hk) (he := he.pe) (hd := hd) (hbase := hbase) (hfew := hfew) (hline := hline) (hs := hs)⟩
end
section
variable {X : Cx} {a e o : Expr} {es : List Expr} {f g : DE} {ga : DA} {pos p p1 p2 : Pos}
theorem Tb {tg : Expr} (hg : Gl X "reversed") (hm : X.mg "reversed" = none) (ha : QE X e (LE X.K f)) (hs : starEach [e] X.env = [(false, eval e X.env)] := by rfl) : QI X tg (.Call (.Name "reversed" p) [e] [] pos) (LI X.K (tR f)) := ⟨On (hg := hg) (hm := hm) (ha := ha.pe) (hs := hs)⟩
end
section
variable {X : Cx} {tg iter elt : Expr} {ifs : List Expr} {scope : Scope} {fi : DI} {g : DG} {t : DT} {f : DE} {pos : Pos}
theorem rQ (NC : List Str) (src : List (Option Nat)) (hc : X.calm = true) (hi : QI X tg iter (LI X.K fi)) (hg : ∀ cl C s2 H2 pins fp, QG (aW X scope cl C NC s2 H2 pins fp) tg (LG X.K g)) (ht : ∀ cl C s2 H2 pins fp, QF (aW X scope cl C NC s2 H2 pins fp) ifs (LT X.K t)) (he : ∀ cl C s2 H2 pins fp, QE (aW X scope cl C NC s2 H2 pins fp) elt (LE X.K f)) (hkind : scope.kind = .function := by rfl) (hB : chkB scope X.env = true := by rfl) (hS : chkS X.N scope X.env NC src = true := by rfl) (hs : ∀ x, foldedSetIterable iter X.env x = pure x := by intro _; rfl) : QE X (.ListComp elt [⟨tg, iter, ifs, 0⟩] scope pos) (LE X.K (dY src fi g t f)) := ⟨U0 (NC := NC) (src := src) (hc := hc) (hi := hi.pe) (hg := fun cl C s2 H2 pins fp => (hg cl C s2 H2 pins fp).pe) (ht := fun cl C s2 H2 pins fp => (ht cl C s2 H2 pins fp).pe) (he := fun cl C s2 H2 pins fp => (he cl C s2 H2 pins fp).pe) (hkind := hkind) (hB := hB) (hS := hS) (hs := hs)⟩
end
section
variable {X : Cx} {tg iter elt : Expr} {ifs : List Expr} {scope : Scope} {fi : DI} {g : DG} {t : DT} {f : DE} {pos : Pos}
theorem Dk (i : Nat) {y : Str} {py spos : Pos} (NC : List Str) (src : List (Option Nat)) (hc : X.calm = true) (hN : X.N.Nodup) (hi : QI X tg iter (LI X.K fi)) (hg : ∀ cl C s2 H2 pins fp, QG (aW X scope cl C NC s2 H2 pins fp) tg (LG X.K g)) (ht : ∀ cl C s2 H2 pins fp, QF (aW X scope cl C NC s2 H2 pins fp) ifs (LT X.K t)) (he : ∀ cl C s2 H2 pins fp, QE (aW X scope cl C NC s2 H2 pins fp) elt (LE X.K f)) (hkind : scope.kind = .function := by rfl) (hB : chkB scope X.env = true := by rfl) (hS : chkS X.N scope X.env NC src = true := by rfl) (hi2 : X.N[i]? = some y := by rfl) (hx : fQ X.env.scope y := by first | exact Or.inl rfl | exact Or.inr rfl) (hf : X.fn y = true ∨ X.env.scope.names.lookup y = some .local := by first | exact .inl rfl | exact .inr rfl) (hsw : swapsWith (.ListComp elt [⟨tg, iter, ifs, 0⟩] scope pos) (some (.Name y py)) spos.line X.env = pure true := by rfl) (hs : ∀ x, foldedSetIterable iter X.env x = pure x := by intro _; rfl) : QS X (.Assign [.Name y py] (.ListComp elt [⟨tg, iter, ifs, 0⟩] scope pos) spos) (LS X.K (aV i (dY src fi g t f))) := ⟨C8 (i := i) (NC := NC) (src := src) (hc := hc) (hN := hN) (hi := hi.pe) (hg := fun cl C s2 H2 pins fp => (hg cl C s2 H2 pins fp).pe) (ht := fun cl C s2 H2 pins fp => (ht cl C s2 H2 pins fp).pe) (he := fun cl C s2 H2 pins fp => (he cl C s2 H2 pins fp).pe) (hkind := hkind) (hB := hB) (hS := hS) (hi2 := hi2) (hx := hx) (hf := hf) (hsw := hsw) (hs := hs)⟩
end
section
variable {X : Cx} {a b : Expr} {elts : List Expr} {j : Nat} {f g : DE} {pos p p2 : Pos}
theorem Sw (hg : Gl X "zip") (hm : X.mg "zip" = none) (ha : QE X a (LE X.K f)) (hb : QE X b (LE X.K g)) (hs : starEach [a, b] X.env = [(false, eval a X.env), (false, eval b X.env)] := by rfl) (hs2 : starEach [b] X.env = [(false, eval b X.env)] := by rfl) : QI X (.Tuple elts j p2) (.Call (.Name "zip" p) [a, b] [] pos) (LI X.K (wQ f g)) := ⟨Ov (hg := hg) (hm := hm) (ha := ha.pe) (hb := hb.pe) (hs := hs) (hs2 := hs2)⟩
end
section
variable {X : Cx} {a e o : Expr} {es : List Expr} {f g : DE} {ga : DA} {pos p p1 p2 : Pos}
theorem rX {lo hi : Option Expr} {tl th : DO} (ha : QE X a (LE X.K f)) (hl : QO X lo (LO X.K tl)) (hu : QO X hi (LO X.K th)) : QE X (.Subscript a (.Slice lo hi none p2) pos) (LE X.K (jO f tl th)) := ⟨O4 (ha := ha.pe) (hl := hl.pe) (hu := hu.pe)⟩
end
section
variable {X : Cx} {o i e : Expr} {fo fi f : DE} {pos tpos : Pos}
theorem Wz  : QE X (.Dict [] [] pos) (LE X.K Ay) := ⟨Wi ⟩
end
section
variable {X : Cx} {o i e : Expr} {fo fi f : DE} {pos tpos : Pos}
theorem O3 (hu : X.A.units + 100 < cLine) (he : QE X e (LE X.K f)) (ho : QE X o (LE X.K fo)) (hi : QE X i (LE X.K fi)) (hs : swapsWith e (some (.Subscript o i tpos)) pos.line X.env = pure false := by rfl) : QS X (.Assign [.Subscript o i tpos] e pos) (LS X.K (yD fo fi f)) := ⟨L5 (hu := hu) (he := he.pe) (ho := ho.pe) (hi := hi.pe) (hs := hs)⟩
end
section
variable {X : Cx} {i e g : Expr} {fi f fg : DE} {p pos apos cpos : Pos}
theorem sN {x : Str} {c : Addr} {kvs : List (Str × PyData)} (hg : Gl X x) (hm : X.mg x = some (.ref c)) (hk : KD X.K X.w c kvs) (hi : QE X i (LE X.K fi)) (hd : (x == ("__debug__" : Str)) = false := by decide) (hs : rC i := by exact fun _ _ => rfl) : QE X (.Subscript (.Name x p) i pos) (LE X.K (kH kvs fi)) := ⟨P8 (hg := hg) (hm := hm) (hk := hk) (hi := hi.pe) (hd := hd) (hs := hs)⟩
end
section
variable {X : Cx} {tg iter tg2 iter2 elt : Expr} {ifs ifs2 : List Expr} {scope : Scope} {NC : List Str} {fi fi2 : DI} {g g2 : DG} {t t2 : DT} {f : DE} {pos : Pos}
theorem Y0 (NC : List Str) (src : List (Option Nat)) (hc : X.calm = true) (hi : QI X tg iter (LI X.K fi)) (hg : ∀ cl C s2 H2 pins fp, QG (aW X scope cl C NC s2 H2 pins fp) tg (LG X.K g)) (ht : ∀ cl C s2 H2 pins fp, QF (aW X scope cl C NC s2 H2 pins fp) ifs (LT X.K t)) (hi2 : ∀ cl C s2 H2 pins fp, QI (aW X scope cl C NC s2 H2 pins fp) tg2 iter2 (LI X.K fi2)) (hg2 : ∀ cl C s2 H2 pins fp, QG (aW X scope cl C NC s2 H2 pins fp) tg2 (LG X.K g2)) (ht2 : ∀ cl C s2 H2 pins fp, QF (aW X scope cl C NC s2 H2 pins fp) ifs2 (LT X.K t2)) (he : ∀ cl C s2 H2 pins fp, QE (aW X scope cl C NC s2 H2 pins fp) elt (LE X.K f)) (hkind : scope.kind = .function := by rfl) (hB : chkB scope X.env = true := by rfl) (hS : chkS X.N scope X.env NC src = true := by rfl) (hs2 : ∀ cl C x, foldedSetIterable iter2 (compEnvC scope cl C X.env) x = pure x := by intro _ _ _; rfl) (hs : ∀ x, foldedSetIterable iter X.env x = pure x := by intro _; rfl) : QE X (.ListComp elt [⟨tg, iter, ifs, 0⟩, ⟨tg2, iter2, ifs2, 0⟩] scope pos) (LE X.K (tX src fi g t fi2 g2 t2 f)) := ⟨Uq (NC := NC) (src := src) (hc := hc) (hi := hi.pe) (hg := fun cl C s2 H2 pins fp => (hg cl C s2 H2 pins fp).pe) (ht := fun cl C s2 H2 pins fp => (ht cl C s2 H2 pins fp).pe) (hi2 := fun cl C s2 H2 pins fp => (hi2 cl C s2 H2 pins fp).pe) (hg2 := fun cl C s2 H2 pins fp => (hg2 cl C s2 H2 pins fp).pe) (ht2 := fun cl C s2 H2 pins fp => (ht2 cl C s2 H2 pins fp).pe) (he := fun cl C s2 H2 pins fp => (he cl C s2 H2 pins fp).pe) (hkind := hkind) (hB := hB) (hS := hS) (hs2 := hs2) (hs := hs)⟩
end
section
variable {X : Cx} {e g : Expr} {fi fg : DE} {p apos cpos : Pos}
theorem Ta {x : Str} {c : Addr} {kvs : List (List Str × PyData)} (hu : X.A.units + 100 < cLine) (hg : Gl X x) (hm : X.mg x = some (.ref c)) (hk : wF X.K X.w c kvs) (he : QE X e (LE X.K fi)) (hf : QE X g (LE X.K fg)) (hd : (x == ("__debug__" : Str)) = false := by decide) (hbase : attributeBase (.Name x p) "get" X.env (eval (.Name x p) X.env) = eval (.Name x p) X.env := by rfl) (hfew : ((backTo cpos (starEach [e, g] X.env)).all (fun x => !x.1) && (backToKw cpos (keywordEach [] X.env)).all (fun x => x.1.isSome) && decide (([e, g] : List Expr).length + ([] : List Keyword).length + (if ([] : List Keyword).isEmpty then 0 else 1) < 30)) = true := by rfl) (hline : (apos.endLine == cpos.line) = true := by rfl) (hs : backTo cpos (starEach [e, g] X.env) = [(false, eval e X.env), (false, eval g X.env)] := by rfl) : QE X (.Call (.Attribute (.Name x p) "get" apos) [e, g] [] cpos) (LE X.K (sF kvs fi fg)) := ⟨K7 (hu := hu) (hg := hg) (hm := hm) (hk := hk) (he := he.pe) (hf := hf.pe) (hd := hd) (hbase := hbase) (hfew := hfew) (hline := hline) (hs := hs)⟩
end
section
variable {X : Cx} {a b : Expr} {elts : List Expr} {j : Nat} {f g : DE} {pos p p2 : Pos}
theorem G4 (hg : Gl X "zip") (hm : X.mg "zip" = none) (ha : QE X a (LE X.K f)) (hb : QE X b (LE X.K g)) (hs : starEach [a, b] X.env = [(false, eval a X.env), (false, eval b X.env)] := by rfl) (hs2 : starEach [b] X.env = [(false, eval b X.env)] := by rfl) : QI X (.Tuple elts j p2) (.Call (.Name "zip" p) [a, b] [] pos) (LI X.K (tT f g)) := ⟨O7 (hg := hg) (hm := hm) (ha := ha.pe) (hb := hb.pe) (hs := hs) (hs2 := hs2)⟩
end
section
variable {X : Cx} {a lo st : Expr} {f g h : DE} {pos p2 : Pos}
theorem Tw (ha : QE X a (LE X.K f)) (hl : QE X lo (LE X.K g)) (hs : QE X st (LE X.K h)) : QE X (.Subscript a (.Slice (some lo) none (some st) p2) pos) (LE X.K (uH f g h)) := ⟨Z4 (ha := ha.pe) (hl := hl.pe) (hs := hs.pe)⟩
end
section
variable {X : Cx} {o e : Expr} {es : List Expr} {fo fe : DE} {ga : DA} {pos pos' tpos apos p : Pos} {N f : Str} {C : Addr}
theorem zW (g : PySem.W.nsIn X.K mainGlobals N = some (some (.ref C))) (c : Cls X.K C) (n : NoAttr X.K C f) (ho : QE X o (LE X.K fo)) (hb : attributeBase o f X.env (eval o X.env) = eval o X.env := by rfl) : QE X (.Attribute o f pos) (LE X.K (jU N f fo)) := ⟨Ub (g := g) (c := c) (n := n) (ho := ho.pe) (hb := hb)⟩
end
section
variable {X : Cx} {o e : Expr} {es : List Expr} {fo fe : DE} {ga : DA} {pos pos' tpos apos p : Pos} {N f : Str} {C : Addr}
theorem Ng (g : PySem.W.nsIn X.K mainGlobals N = some (some (.ref C))) (c : Cls X.K C) (n : NoAttr X.K C f) (he : QE X e (LE X.K fe)) (ho : QE X o (LE X.K fo)) (hs : swapsWith e (some (.Attribute o f pos')) pos.line X.env = pure false := by rfl) : QS X (.Assign [.Attribute o f pos'] e pos) (LS X.K (vM N f fo fe)) := ⟨R9 (g := g) (c := c) (n := n) (he := he.pe) (ho := ho.pe) (hs := hs)⟩
end
section
variable {X : Cx} {o e : Expr} {es : List Expr} {fo fe : DE} {ga : DA} {pos pos' tpos apos p : Pos} {N f : Str} {C : Addr}
theorem Er {k n : Nat} {fa : Addr} {fd : FuncData} {ps : List Str} {sp : DC} (g : PySem.W.nsIn X.K mainGlobals N = some (some (.ref C))) (c : Cls X.K C) (hm : Meth X.K C f fa) (F : FnOk X.prog X.w X.K X.mg X.base aT k fa fd ps (LSp X.K n sp)) (hr : Room k X.A) (hb : Binds X.K fd ps []) (hx : X.xe = fun _ _ => False) (ho : QE X o (LE X.K fo)) (ha : QA X (e :: es) (LA X.K ga)) (hst : starEach (e :: es) X.env = (false, eval e X.env) :: starEach es X.env := by rfl) (hpl : (backTo pos (starEach es X.env)).any (·.1) = false := by rfl) {pl : Sem Bool} (ht : eval (.Call (.Attribute o f apos) (e :: es) [] pos) X.env = (do
   let ov ← eval o X.env
   standAt apos.atName
   let (f, first) ← holding [ov] (getMethod ov f pl)
   callWith pos f first (backTo pos (starEach (e :: es) X.env)) (backToKw pos (keywordEach [] X.env))) := by rfl) : QE X (.Call (.Attribute o f apos) (e :: es) [] pos) (LE X.K (nV N f n sp fo ga)) := ⟨s0 (g := g) (c := c) (hm := hm) (F := F) (hr := hr) (hb := hb) (hx := hx) (ho := ho.pe) (ha := ha.pe) (hst := hst) (hpl := hpl) (ht := ht)⟩
end
section
variable {X : Cx} {o e : Expr} {es : List Expr} {fo fe : DE} {ga : DA} {pos pos' tpos apos p : Pos} {N f : Str} {C : Addr}
theorem Vm {k n : Nat} {fa : Addr} {fd : FuncData} {ps : List Str} {sp : DC} (g : PySem.W.nsIn X.K mainGlobals N = some (some (.ref C))) (M : Mk X.K C fa) (hm : X.mg N = some (.ref C)) (F : FnOk X.prog X.w X.K X.mg X.base aT k fa fd ps (LSp X.K n sp)) (hr : Room (k + 1) X.A) (hb : Binds X.K fd ps []) (hg : Gl X N := by rfl) (hdb : (N == ("__debug__" : Str)) = false := by decide) : QE X (.Call (.Name N p) [] [] pos) (LE X.K (uQ N n sp aH)) := ⟨Yl (g := g) (M := M) (hm := hm) (F := F) (hr := hr) (hb := hb) (hg := hg) (hdb := hdb)⟩
end
section
variable {X : Cx} {o i e : Expr} {fo fi f : DE} {pos tpos : Pos}
theorem Kg  : QE X (.Dict [] [] pos) (LE X.K wE) := ⟨Pd ⟩
end
section
variable {X : Cx} {o i e : Expr} {fo fi f : DE} {pos tpos : Pos}
theorem Zn (hu : X.A.units + 100 < cLine) (ho : QE X o (LE X.K fo)) (hi : QE X i (LE X.K fi)) (hs : rC i := by exact fun _ _ => rfl) : QE X (.Subscript o i pos) (LE X.K (uD fo fi)) := ⟨Rk (hu := hu) (ho := ho.pe) (hi := hi.pe) (hs := hs)⟩
end
section
variable {X : Cx} {o i e : Expr} {fo fi f : DE} {pos tpos : Pos}
theorem R8 (hu : X.A.units + 100 < cLine) (he : QE X e (LE X.K f)) (ho : QE X o (LE X.K fo)) (hi : QE X i (LE X.K fi)) (hs : swapsWith e (some (.Subscript o i tpos)) pos.line X.env = pure false := by rfl) : QS X (.Assign [.Subscript o i tpos] e pos) (LS X.K (vX fo fi f)) := ⟨u8 (hu := hu) (he := he.pe) (ho := ho.pe) (hi := hi.pe) (hs := hs)⟩
end
section
variable {X : Cx} {o e : Expr} {f g : DE} {pos : Pos}
theorem O9 {apos cpos : Pos} (ho : QE X o (LE X.K f)) (he : QE X e (LE X.K g)) (hbase : attributeBase o "extend" X.env (eval o X.env) = eval o X.env := by rfl) (hfew : ((backTo cpos (starEach [e] X.env)).all (fun x => !x.1) && (backToKw cpos (keywordEach [] X.env)).all (fun x => x.1.isSome) && decide ([e].length + ([] : List Keyword).length + (if ([] : List Keyword).isEmpty then 0 else 1) < 30)) = true := by rfl) (hline : (apos.endLine == cpos.line) = true := by rfl) (hs : starEach [e] X.env = (false, eval e X.env) :: starEach [] X.env := by rfl) : QE X (.Call (.Attribute o "extend" apos) [e] [] cpos) (LE X.K (wN f g)) := ⟨Qj (ho := ho.pe) (he := he.pe) (hbase := hbase) (hfew := hfew) (hline := hline) (hs := hs)⟩
end
section
variable {P : Program} {w : World} {K : PySem.W.Frag} {mg : Str → Option Value} {base : Heap}
theorem cP {x qual : Str} {st : Stmt} {fa : Addr} {fd : FuncData} {N ps : List Str} {k : Nat} {sp : DC} {body : DS} (F : Fun K x qual st fa fd) (S : FnScope N ps (aO st))
  (hb : ∀ (cdv : Value) (A : Around) (outer : List Env) (s : Shared) (H : Hp) (E : XK), Room k (A.deeper (envOfC qual (aO st) s.heap.objs.size fa cdv)) → QSs (jY aT P w K mg base N qual (aO st) fa cdv A outer s H E).nox (aZ st) (LS K body))
  (hv : ∀ ds m R, ds.length = ps.length → sp ds m R → body { nx := fun _ m => R (.dat .none) m, rt := R } (aX N ds) m) : FnOk P w K mg base aT (k + 1) fa fd ps (LSp K ps.length sp) := D6 F S (fun cdv A outer s H E hr => (hb cdv A outer s H E hr).pe) hv
end
end DL
set_option maxHeartbeats 1000000
namespace K01
open PySem PySem.Spec PyProof.Rows L2 DL
theorem K4 (a b : Int) : Int.gcd b (a.fmod b) = Int.gcd a b := by
 have h : a.fmod b = a - b * a.fdiv b := by
  have := Int.mul_fdiv_add_fmod a b
  omega
 rw [h]; have h2 : a - b * a.fdiv b = a + b * (-(a.fdiv b)) := by rw [Int.mul_neg]; omega
 rw [h2, Int.gcd_add_mul_left_right, Int.gcd_comm]
theorem R6 (a b : Int) (h : b ≠ 0) : (a.fmod b).natAbs < b.natAbs := by
 rcases Int.lt_or_gt_of_ne h with h | h
 ·have h1 := Int.neg_fmod_neg a b
  have h2 := Int.fmod_lt_of_pos (-a) (show 0 < -b by omega)
  have h3 := Int.fmod_nonneg_of_pos (-a) (show 0 < -b by omega)
  omega
 ·have h2 := Int.fmod_lt_of_pos a h
  have h3 := Int.fmod_nonneg_of_pos a h
  omega
theorem log2_lt {n k : Nat} (h : n < 2 ^ k) (hk : 0 < k) : n.log2 < k := by
 by_cases hn : n = 0
 ·subst hn; simpa using hk
 ·exact (Nat.log2_lt hn).mpr h
def Bd (n : Nat) (i : Int) : Prop := i.natAbs < 2 ^ n
theorem Bd.mono {m n : Nat} {i : Int} (h : Bd m i) (hl : m ≤ n) : Bd n i := Nat.lt_of_lt_of_le h (Nat.pow_le_pow_right (by decide) hl)
theorem Bd.mul {m n : Nat} {i j : Int} (h : Bd m i) (g : Bd n j) : Bd (m + n) (i * j) := by
 unfold Bd at *; rw [Int.natAbs_mul, Nat.pow_add]; exact Nat.mul_lt_mul'' h g
theorem Bd.add {n : Nat} {i j : Int} (h : Bd n i) (g : Bd n j) : Bd (n + 1) (i + j) := by
 unfold Bd at *; have := Int.natAbs_add_le i j
 rw [Nat.pow_succ]; omega
theorem Bd.neg {n : Nat} {i : Int} (h : Bd n i) : Bd n (-i) := by
 unfold Bd at *; rw [Int.natAbs_neg]; exact h
theorem Bd.sub {n : Nat} {i j : Int} (h : Bd n i) (g : Bd n j) : Bd (n + 1) (i - j) := by
 rw [Int.sub_eq_add_neg]; exact h.add g.neg
theorem Bd.log {n : Nat} {i : Int} (h : Bd n i) (hn : 0 < n) : i.natAbs.log2 < n := log2_lt h hn
theorem Bd.mulOk {m n : Nat} {i j : Int} (h : Bd m i) (g : Bd n j) (hm : m + n ≤ 134217728) : IntMulOk i j :=
 IntMulOk.of_le (intBits_le_iff.mpr h) (intBits_le_iff.mpr g) hm
def fr (t b : Int) : PyData := .tuple [.int (t / (Int.gcd t b : Int)), .int (b / (Int.gcd t b : Int))]
theorem Ld {t b : Int} (h : b ≠ 0) : (0 : Int) < (Int.gcd t b : Int) := by
 have := Int.gcd_pos_of_ne_zero_right t h
 omega
theorem P0 {x g : Int} (hg : 0 < g) (hd : g ∣ x) : 0 < x / g ↔ 0 < x := by
 obtain ⟨y, rfl⟩ := hd; rw [Int.mul_ediv_cancel_left _ (by omega)]
 constructor
 ·intro h; exact Int.mul_pos hg h
 ·intro h; exact Int.pos_of_mul_pos_right h hg
end K01
namespace K01
open PySem PySem.Spec PyProof.Rows L2 DL
def Sv (B w e : Nat) (p : PyData) : Prop := p.showable = true ∧ p.leavesShort B = true ∧ p.weight ≤ w ∧ p.depth ≤ e
theorem Sv.mono {B w e w' e' : Nat} {p : PyData} (h : Sv B w e p) (h1 : w ≤ w') (h2 : e ≤ e') : Sv B w' e' p := ⟨h.1, h.2.1, Nat.le_trans h.2.2.1 h1, Nat.le_trans h.2.2.2 h2⟩
theorem Fw {B w e : Nat} : ∀ {xs : List PyData}, (∀ x ∈ xs, Sv B w e x) → PyData.showableAll xs = true ∧ PyData.leavesShortAll B xs = true ∧ PyData.weightAll xs ≤ (w + 1) * xs.length ∧ PyData.depthAll xs ≤ e
 | [], _ => by simp [PyData.showableAll, PyData.leavesShortAll, PyData.weightAll, PyData.depthAll]
 | x :: xs, h => by
  obtain ⟨i1, i2, i3, i4⟩ := Fw fun y hy => h y (List.mem_cons_of_mem _ hy); obtain ⟨s1, s2, s3, s4⟩ := h x List.mem_cons_self; refine ⟨?_, ?_, ?_, ?_⟩
  ·simp only [PyData.showableAll, i1, s1, Bool.and_self]
  ·simp only [PyData.leavesShortAll, i2, s2, Bool.and_self]
  ·simp only [PyData.weightAll, List.length_cons]; rw [Nat.mul_add]; omega
  ·simp only [PyData.depthAll]; omega
theorem v5 {B w e n : Nat} {xs : List PyData} (h : ∀ x ∈ xs, Sv B w e x) (hn : xs.length ≤ n) : Sv B ((w + 1) * n) (e + 1) (.tuple xs) := by
 obtain ⟨i1, i2, i3, i4⟩ := Fw h; refine ⟨by simpa only [PyData.showable] using i1, by rw [PyData.leavesShort]; exact i2, ?_, ?_⟩
 ·simp only [PyData.weight]; exact Nat.le_trans i3 (Nat.mul_le_mul_left _ hn)
 ·simp only [PyData.depth]; omega
theorem F9 {B w : Nat} {z : Str} (h1 : z.cps.toList.all (fun c => decide (c < 1114112)) = true) (h2 : z.length ≤ w) : Sv B w 1 (.str z) := by
 refine ⟨by simp [PyData.showable], ?_, by simp only [PyData.weight]; exact h2, by simp [PyData.depth]⟩
 unfold PyData.leavesShort; rw [List.all_eq_true]; intro c hc; have := List.all_eq_true.mp h1 c hc
 simp at this; exact decide_eq_true (Nat.lt_trans this (by decide))
theorem v8 {B w : Nat} (b : Bool) : Sv B w 1 (.bool b) := ⟨by cases b <;> rfl, by rw [PyData.leavesShort], by simp [PyData.weight], by simp [PyData.depth]⟩
theorem Jj {B w e : Nat} {p : PyData} (h : Sv B w e p) (hB : 8 ≤ B) (hw : (B + 2) * w + B ≤ 16777216) (he : e ≤ 100) : p.showable = true ∧ p.shown.length ≤ sizeLine ∧ p.depth ≤ 100 := by
 refine ⟨h.1, ?_, Nat.le_trans h.2.2.2 he⟩; have q := PyData.shown_le B hB p h.2.1
 have q2 := Nat.mul_le_mul_left (B + 2) h.2.2.1
 rw [sizeLine_eq]; omega
end K01
namespace K08
open PySem PySem.Spec PyProof.Rows L2 DL K01
def Ss (xs : Cel) : Prop := ∃ a b c d : Int, xs = .l [.int a, .int b, .int c, .int d]
def dW (m : Mu) (a : Addr) : Prop := ∃ xs, m a = some xs ∧ Ss xs
def Fd (m m' : Mu) (a : Addr) : Prop := dW m' a ∧ ∀ c, c ≠ a → m' c = m c
def Kn (m m' : Mu) : Prop := ∀ c, (m c).isSome = true → m' c = m c
abbrev I (i : Int) : D := .dat (.int i)
abbrev fq (x : Int × Int) : PyData := .tuple [.int x.1, .int x.2]
def cU : List Str := ["ahead", "meets", "overlaps", "begins", "within", "ends", "same", "ended", "holds", "begun", "lapped", "met", "behind"]
def kd (k : Bool) : Str := if k then "stretch" else "point"
def WS : Bool → Bool → List Str
 | true, true => cU
 | false, false => ["ahead", "same", "behind"]
 | false, true => ["ahead", "begins", "within", "ends", "behind"]
 | true, false => ["ahead", "ended", "holds", "begun", "behind"]
def eL (x : Int) : Int := (if 0 < x then 1 else 0) - (if x < 0 then 1 else 0)
def aK (x y : Int × Int) : Int := eL (x.1 * y.2 - y.1 * x.2)
def row (i j : Int) : Str := if i < 0 then (if j < 0 then "overlaps" else if j = 0 then "ended" else "holds") else if i = 0 then (if j < 0 then "begins" else if j = 0 then "same" else "begun") else (if j < 0 then "within" else if j = 0 then "ends" else "lapped")
def wc (both : Bool) (s1 s2 s3 s4 : Int) : Str := if s1 < 0 then "ahead" else if 0 < s2 then "behind" else if both = true ∧ s1 = 0 then "meets" else if both = true ∧ s2 = 0 then "met" else row s3 s4
def wd (both : Bool) (a0 a1 b0 b1 : Int × Int) : Str := wc both (aK a1 b0) (aK a0 b1) (aK a0 b0) (aK a1 b1)
structure Tm (p : PyData) (k : Bool) (x y : Int × Int) : Prop where
 eq : p = if k then .tuple [fq x, fq y] else fq x
 px : 0 < x.2
 py : 0 < y.2
 st : k = true → x.1 * y.2 < y.1 * x.2
 pt : k = false → y = x
 b1 : Bd 60 x.1
 b2 : Bd 60 x.2
 b3 : Bd 60 y.1
 b4 : Bd 60 y.2
abbrev nU (k l : Bool) : PyData := .tuple [.str (kd k), .str (kd l)]
def WT : List (Str × List Int) := [("ahead", [-1, -1, -1, -1]), ("meets", [-1, -1, 0, -1]), ("overlaps", [-1, -1, 1, -1]), ("begins", [0, -1, 1, -1]), ("within", [1, -1, 1, -1]), ("ends", [1, -1, 1, 0]), ("same", [0, -1, 1, 0]), ("ended", [-1, -1, 1, 0]), ("holds", [-1, -1, 1, 1]), ("begun", [0, -1, 1, 1]), ("lapped", [1, -1, 1, 1]), ("met", [1, 0, 1, 1]), ("behind", [1, 1, 1, 1])]
def w4 (z : Str) : List Int := ((WT.find? fun kv => decide (kv.1 = z)).map (·.2)).getD []
def WB (k l : Bool) (z : Str) : List Int := match k, l with
 | true, true => w4 z
 | false, false => (w4 z).take 1
 | _, _ => [(w4 z).getD 0 0, (w4 z).getD 3 0]
def bO (k : Bool) : Nat := if k then 2 else 1
abbrev dA (k l n : Bool) : PyData := .tuple [.str (kd k), .str (kd l), .str (kd n)]
def oD : Option Int → PyData
 | none => .none
 | some i => .int i
def fF (a b : Int) : Option Int := if a = 0 then some b else if b = 0 ∨ b = a then some a else none
def bL : List (Int × Int) → Option Int
 | [] => none
 | (a, b) :: r => match fF a b with
  | some i => some i
  | none => bL r
def hU (k l n : Bool) (z w : Str) (x y : Nat) : Option Int := bL ((cC (WB k l z) (some ((x : Int) * bO l)) (some (((x : Int) + 1) * bO l))).zip (pick (WB l n w) (bS (WB l n w).length y (bO n))))
def FW (k l n : Bool) (z w : Str) : List (Option Int) := ((List.range (bO k)).map fun x => (List.range (bO n)).map fun y => hU k l n z w x y).flatten
def eI : List (Option Int) → List Int → Bool
 | some i :: r, w :: ws => decide (i = w) && eI r ws
 | none :: r, _ :: ws => eI r ws
 | _, _ => true
def BW (k l n : Bool) (z w : Str) : List Str := (WS k n).filter fun u => eI (FW k l n z w) (WB k n u)
def lA : DC := fun ds m R => ∃ k l, ds = [.dat (nU k l)] ∧ R (.dat (.tuple ((WS k l).map .str))) m
def iI : DC := fun ds m R => ∃ k l z, ds = [.dat (nU k l), .dat (.str z)] ∧ z ∈ cU ∧ R (.dat (.tuple ((WB k l z).map .int))) m
def qJ : DC := fun ds m R => ∃ a b : Int, ds = [I a, I b] ∧ R (.dat (oD (fF a b))) m
def pK : DC := fun ds m R => ∃ xs ys : List Int, ds = [.dat (.tuple (xs.map .int)), .dat (.tuple (ys.map .int))] ∧ R (.dat (oD (bL (xs.zip ys)))) m
def qS : DC := fun ds m R => ∃ k l n z w, ds = [.dat (dA k l n), .dat (.str z), .dat (.str w)] ∧ z ∈ WS k l ∧ w ∈ WS l n ∧ R (.dat (.list ((FW k l n z w).map oD))) m
def nS : DC := fun ds m R => ∃ (fs : List (Option Int)) (ws : List Int), ds = [.dat (.list (fs.map oD)), .dat (.tuple (ws.map .int))] ∧ fs.length ≤ 4 ∧ ws.length ≤ 4 ∧ R (.dat (.bool (eI fs ws))) m
def fM : DC := fun ds m R => ∃ k l n z w, ds = [.dat (dA k l n), .dat (.str z), .dat (.str w)] ∧ z ∈ WS k l ∧ w ∈ WS l n ∧ R (.dat (.tuple ((BW k l n z w).map .str))) m
def qZ : DC := fun ds m R => ∃ (ns : List Int) (k : Int), ds = [.dat (.list (ns.map .int)), I k] ∧ ns.length ≤ 63 ∧ 0 ≤ k ∧ k ≤ 1000 ∧ ∀ a m', dW m' a → R (.cel a) m'
def cK : DC := fun ds m R => ∃ (a : Addr) (n : Int), ds = [.cel a, I n] ∧ 0 < n ∧ Bd 2000 n ∧ dW m a ∧ ∀ (r : Int) m', 0 ≤ r → r < n → Fd m m' a → R (I r) m'
def fU : DC := fun ds m R => ∃ x y : Int × Int, ds = [.dat (fq x), .dat (fq y)] ∧ Bd 60 x.1 ∧ Bd 60 x.2 ∧ Bd 60 y.1 ∧ Bd 60 y.2 ∧ R (I (aK x y)) m
def fO : DC := fun ds m R => ∃ p q k l a0 a1 b0 b1, ds = [.dat p, .dat q] ∧ Tm p k a0 a1 ∧ Tm q l b0 b1 ∧ R (.dat (.str (wd (k && l) a0 a1 b0 b1))) m
def mF : DC := fun ds m R => ∃ k l, ds = [.dat (nU k l)] ∧ R (.dat (.list ((WS k l).map .str))) m
def rV : DC := fun ds m R => ∃ a, ds = [.cel a, I 3] ∧ dW m a ∧ ∀ k l n m', Fd m m' a → R (.dat (dA k l n)) m'
def BM (k l n : Bool) (zs ws : List Str) : List Str := (WS k n).filter fun u => zs.any fun z => ws.any fun w => decide (u ∈ BW k l n z w)
def Ms (kvs : List (List PyData × D)) : Prop := ∀ ks x, cS kvs ks = some x → ∃ k l n z w, ks = [dA k l n, .str z, .str w] ∧ x = .dat (.tuple ((BW k l n z w).map .str))
structure Bh (m : Mu) (a c1 c2 : Addr) (q : Nat) : Prop where
 ob : m a = some (.o "Behinds" [("by_words", .cel c1), ("by_mays", .cel c2)])
 t1 : ∃ kvs, m c1 = some (.n kvs) ∧ kvs.length ≤ q ∧ Ms kvs
 n1 : a ≠ c1
def qQ : DC := fun ds m R => ∃ a, ds = [.cel a] ∧ m a = some (.o "Behinds" []) ∧ ∀ c1 c2 m', m c1 = none → m c2 = none → (∀ b, b ≠ a → b ≠ c1 → b ≠ c2 → m' b = m b) → Bh m' a c1 c2 0 → R (.dat .none) m'
def qF : DC := fun ds m R => ∃ a c1 c2 q k l n z w, ds = [.cel a, .dat (dA k l n), .dat (.str z), .dat (.str w)] ∧ z ∈ WS k l ∧ w ∈ WS l n ∧ Bh m a c1 c2 q ∧ q ≤ 500 ∧ ∀ m', Bh m' a c1 c2 (q + 1) → (∀ b, b ≠ c1 → m' b = m b) → R (.dat (.tuple ((BW k l n z w).map .str))) m'
def rF : DC := fun ds m R => ∃ a c1 c2 k l n zs ws, ds = [.cel a, .dat (dA k l n), .dat (.tuple (zs.map .str)), .dat (.tuple (ws.map .str))] ∧ zs.length ≤ 13 ∧ ws.length ≤ 13 ∧ (∀ z ∈ zs, z ∈ WS k l) ∧ (∀ w ∈ ws, w ∈ WS l n) ∧ Bh m a c1 c2 0 ∧
 ∀ m', (∀ b, b ≠ c1 → (m b).isSome = true → m' b = m b) → R (.dat (.tuple ((BM k l n zs ws).map .str))) m'
def qG : DC := fun ds m R => ∃ k l n zs ws, ds = [.dat (dA k l n), .dat (.tuple (zs.map .str)), .dat (.tuple (ws.map .str))] ∧ zs.length ≤ 13 ∧ ws.length ≤ 13 ∧ (∀ z ∈ zs, z ∈ WS k l) ∧ (∀ w ∈ ws, w ∈ WS l n) ∧
 ∀ m', Kn m m' → R (.dat (.tuple ((BM k l n zs ws).map .str))) m'
def rB : DC := fun ds m R => ∃ a k l, ds = [.cel a, .dat (nU k l)] ∧ dW m a ∧ ∀ (zs : List Str) m', zs.length ≤ 13 → (∀ z ∈ zs, z ∈ WS k l) → Fd m m' a → R (.dat (.tuple (zs.map .str))) m'
def tn (z : Str) : Str := cU.getD (12 - cU.idxOf z) ""
def qE : DC := fun ds m R => ∃ z : Str, ds = [.dat (.str z)] ∧ z ∈ cU ∧ R (.dat (.str (tn z))) m
def qW : DC := fun ds m R => ∃ zs : List Str, ds = [.dat (.tuple (zs.map .str))] ∧ (∀ z ∈ zs, z ∈ cU) ∧ zs.length ≤ 100 ∧ R (.dat (.tuple ((zs.reverse.map tn).map .str))) m
def pI : DC := fun ds m R => ∃ k l n z w u, ds = [.dat (dA k l n), .dat (.str z), .dat (.str w), .dat (.str u)] ∧ z ∈ WS k l ∧ w ∈ WS l n ∧ R (.dat (.bool (decide (u ∈ BW k l n z w)))) m
def jQ : DC := fun ds m R => ∃ t b : Int, ds = [I t, I b] ∧ 0 < b ∧ Bd 2000 b ∧ R (.dat (fr t b)) m
def pP : DC := fun ds m R => ∃ (a : Addr) (k : Bool) (base bZ bottom : Int), ds = [.cel a, .dat (.str (kd k)), I base, I bZ, I bottom] ∧ 2 ≤ bZ ∧ bZ ≤ 9 ∧ -1000 ≤ base ∧ base ≤ 1000000 ∧ 1 ≤ bottom ∧ bottom ≤ 1000000 ∧ dW m a ∧
 ∀ p x y m', Tm p k x y → dW m' a → R (.dat p) m'
def rL : DC := fun ds m R => ∃ (a : Addr) (k l n : Bool), ds = [.cel a, .dat (.tuple [.tuple [.str "a", .str (kd k)], .tuple [.str "b", .str (kd l)], .tuple [.str "c", .str (kd n)]])] ∧ dW m a ∧
 ∀ p q r x y z w u v m', Tm p k x y → Tm q l z w → Tm r n u v → dW m' a → R (.dat (.tuple [p, q, r])) m'
def pO : DC := fun ds m R => ∃ ns : List Int, ds = [.dat (.list (ns.map .int))] ∧ ns.length ≤ 63 ∧ ∀ m', R (.dat (.bool true)) m'
end K08
namespace K08
open PySem PySem.Spec PyProof.Rows L2 DL
-- ranks: words_of 1, turned 1, turned_may 2, ways_by 1, forced_way 1, forced_by 2, forced_ways 3, go_with 1, behind_words 4, Behinds___init__ 1, Behinds_words 5, Behinds_gathered 6, behind_mays 7, fits_three 5, _law_feed 1, _law_draw 1, _law_fraction 1, _law_stand 1, _law_word 2, _law_words 1, _law_kinds 2, _law_may 2, _law_times 2, _law_telling 3, law 8
def cL (i : Nat) : Stmt := PySem.Challenge.pw_whens_k08_whole_three_things.main.body.getD i (.Pass ⟨0, 0, 0, 0⟩)
abbrev vI : List (Str × PyData) := [("ahead", .tuple [.int (-1), .int (-1), .int (-1), .int (-1)]), ("meets", .tuple [.int (-1), .int (-1), .int (0), .int (-1)]), ("overlaps", .tuple [.int (-1), .int (-1), .int (1), .int (-1)]), ("begins", .tuple [.int (0), .int (-1), .int (1), .int (-1)]), ("within", .tuple [.int (1), .int (-1), .int (1), .int (-1)]), ("ends", .tuple [.int (1), .int (-1), .int (1), .int (0)]), ("same", .tuple [.int (0), .int (-1), .int (1), .int (0)]), ("ended", .tuple [.int (-1), .int (-1), .int (1), .int (0)]), ("holds", .tuple [.int (-1), .int (-1), .int (1), .int (1)]), ("begun", .tuple [.int (0), .int (-1), .int (1), .int (1)]), ("lapped", .tuple [.int (1), .int (-1), .int (1), .int (1)]), ("met", .tuple [.int (1), .int (0), .int (1), .int (1)]), ("behind", .tuple [.int (1), .int (1), .int (1), .int (1)])]
abbrev nT : List (Str × PyData) := [("point", .int (1)), ("stretch", .int (2))]
abbrev Ce : List (List Str × PyData) := [(["point", "point"], .tuple (List.map PyData.str ["ahead", "same", "behind"])), (["point", "stretch"], .tuple (List.map PyData.str ["ahead", "begins", "within", "ends", "behind"])), (["stretch", "point"], .tuple (List.map PyData.str ["ahead", "ended", "holds", "begun", "behind"]))]
abbrev fT : Stmt := cL 5
abbrev Ao : List Str := ["kinds"]
abbrev iP : List Str := ["kinds"]
theorem Nq : FnScope Ao iP (aO fT) := ⟨rfl, rfl, rfl, by decide +kernel, rfl, by decide +kernel, by decide +kernel⟩
def tU : DS := (aF (bF (sF Ce (aA 0) (aE (.tuple (List.map PyData.str ["ahead", "meets", "overlaps", "begins", "within", "ends", "same", "ended", "holds", "begun", "lapped", "met", "behind"]))))) aP)
abbrev fY : Stmt := cL 6
abbrev Al : List Str := ["word"]
abbrev lZ : List Str := ["word"]
theorem Il : FnScope Al lZ (aO fY) := ⟨rfl, rfl, rfl, by decide +kernel, rfl, by decide +kernel, by decide +kernel⟩
def tY : DS := (aF (bF (aG bD (aE (.tuple (List.map PyData.str ["ahead", "meets", "overlaps", "begins", "within", "ends", "same", "ended", "holds", "begun", "lapped", "met", "behind"]))) (aG fN (aE (.int 12)) (vO ["ahead", "meets", "overlaps", "begins", "within", "ends", "same", "ended", "holds", "begun", "lapped", "met", "behind"] (aA 0))))) aP)
abbrev iD : Stmt := cL 7
abbrev yS : List Str := ["may"]
abbrev lQ : List Str := ["may"]
theorem Nj : FnScope yS lQ (aO iD) := ⟨rfl, rfl, rfl, by decide +kernel, rfl, by decide +kernel, by decide +kernel⟩
theorem V2 : List.Nodup (["word"] : List Str) := by decide +kernel
def tW : DS := (aF (bF (bU gP (aB (dY [none] (tR (aA 0)) (gN 0) gG (aU 1 qE (aB (aA 0) aH))) aH))) aP)
abbrev fK : Stmt := cL 8
abbrev Cm : List Str := ["kinds", "word", "ways"]
abbrev iV : List Str := ["kinds", "word"]
theorem Iq : FnScope Cm iV (aO fK) := ⟨rfl, rfl, rfl, by decide +kernel, rfl, by decide +kernel, by decide +kernel⟩
def Hv : DS := (aF (bF (cA (aB (aG bD (aA 2) (aE (.int 0))) (aB (aG bD (aA 2) (aE (.int 3))) aH)))) aP)
def Ey : DS := (aF (bY (bH (aG dJ (aA 0) (cA (aB (aE (.str "point")) (aB (aE (.str "point")) aH))))) (aF (bF (jO (aA 2) mY (gO (aE (.int 1))))) aP) aP) Hv)
def Ji : DS := (aF (bY (bH (aG dJ (aA 0) (cA (aB (aE (.str "stretch")) (aB (aE (.str "stretch")) aH))))) (aF (bF (aA 2)) aP) aP) Ey)
def vV : DS := (aF (aV 2 (kH vI (aA 1))) Ji)
abbrev iC : Stmt := cL 10
abbrev Da : List Str := ["one", "other"]
abbrev lC : List Str := ["one", "other"]
theorem Lv : FnScope Da lC (aO iC) := ⟨rfl, rfl, rfl, by decide +kernel, rfl, by decide +kernel, by decide +kernel⟩
def Ku : DS := (aF (bF (aE .none)) aP)
def Ft : DS := (aF (bY (qV (bH (aG dJ (aA 1) (aE (.int 0)))) (bH (aG dJ (aA 1) (aA 0)))) (aF (bF (aA 0)) aP) aP) Ku)
def wO : DS := (aF (bY (bH (aG dJ (aA 0) (aE (.int 0)))) (aF (bF (aA 1)) aP) aP) Ft)
abbrev gY : Stmt := cL 11
abbrev Aq : List Str := ["ones", "others", "one", "other", "way"]
abbrev mB : List Str := ["ones", "others"]
theorem Gu : FnScope Aq mB (aO gY) := ⟨rfl, rfl, rfl, by decide +kernel, rfl, by decide +kernel, by decide +kernel⟩
def zP : DS := (aF (bY (bH (aG vW (aA 4) (aE .none))) (aF (bF (aA 4)) aP) aP) aP)
def sP : DS := (aF (aV 4 (aU 2 qJ (aB (aA 2) (aB (aA 3) aH)))) zP)
def zZ : DS := (aF (bF (aE .none)) aP)
def uM : DS := (aF (eF (wQ (aA 0) (aA 1)) (gT 2 (dF (gN 2) (dF (gN 3) fW))) sP) zZ)
abbrev iG : Stmt := cL 12
abbrev Bk : List Str := ["kinds", "one", "other", "first", "second", "third", "many", "step", "left", "right"]
abbrev kW : List Str := ["kinds", "one", "other"]
theorem Lm : FnScope Bk kW (aO iG) := ⟨rfl, rfl, rfl, by decide +kernel, rfl, by decide +kernel, by decide +kernel⟩
theorem Ka : List.Nodup (["x", "z", "many", "step", "left", "right"] : List Str) := by decide +kernel
def Hw : DS := (aF (bF (tX [none, none, some 6, some 7, some 8, some 9] (kN (kH nT (aA 3))) (gN 0) gG (kN (aA 3)) (gN 1) gG (aU 2 pK (aB (jO (aA 4) (gO (aG eJ (aA 0) (aA 2))) (gO (aG eJ (aG dB (aA 0) (aE (.int 1))) (aA 2)))) (aB (uH (aA 5) (aA 1) (aA 3)) aH))))) aP)
def Fe : DS := (aF (aV 9 (aU 2 iI (aB (cA (aB (aA 4) (aB (aA 5) aH))) (aB (aA 2) aH)))) Hw)
def Hm : DS := (aF (aV 8 (aU 2 iI (aB (cA (aB (aA 3) (aB (aA 4) aH))) (aB (aA 1) aH)))) Fe)
def Lh : DS := (aF (aV 7 (kH nT (aA 5))) Hm)
def Kb : DS := (aF (aV 6 (kH nT (aA 4))) Lh)
def uG : DS := (aF (mS (aA 0) (gT 3 (dF (gN 3) (dF (gN 4) (dF (gN 5) fW))))) Kb)
abbrev gF : Stmt := cL 13
abbrev yP : List Str := ["forced", "ways", "must", "way"]
abbrev mD : List Str := ["forced", "ways"]
theorem Ik : FnScope yP mD (aO gF) := ⟨rfl, rfl, rfl, by decide +kernel, rfl, by decide +kernel, by decide +kernel⟩
def qI : DS := (aF (bY (sA (bH (aG vW (aA 2) (aE .none))) (bH (aG pV (aA 2) (aA 3)))) (aF (bF (aE (.bool false))) aP) aP) aP)
def vF : DS := (aF (bF (aE (.bool true))) aP)
def uB : DS := (aF (eF (tT (aA 0) (aA 1)) (gT 2 (dF (gN 2) (dF (gN 3) fW))) qI) vF)
abbrev eR : Stmt := cL 14
abbrev Ax : List Str := ["kinds", "one", "other", "first", "second", "third", "ends", "forced"]
abbrev fG : List Str := ["kinds", "one", "other"]
theorem Me : FnScope Ax fG (aO eR) := ⟨rfl, rfl, rfl, by decide +kernel, rfl, by decide +kernel, by decide +kernel⟩
theorem n6 : List.Nodup (["word", "ends", "forced"] : List Str) := by decide +kernel
def En : DS := (aF (bF (bU gP (aB (dY [none, some 6, some 7] (dQ (aU 1 lA (aB (aA 6) aH))) (gN 0) (bH (aU 2 nS (aB (aA 2) (aB (aU 2 iI (aB (aA 1) (aB (aA 0) aH))) aH)))) (aA 0)) aH))) aP)
def Hd : DS := (aF (aV 7 (aU 3 qS (aB (aA 0) (aB (aA 1) (aB (aA 2) aH))))) En)
def Ni : DS := (aF (aV 6 (cA (aB (aA 3) (aB (aA 5) aH)))) Hd)
def uS : DS := (aF (mS (aA 0) (gT 3 (dF (gN 3) (dF (gN 4) (dF (gN 5) fW))))) Ni)
abbrev gU : Stmt := zF (cL 15) 0
abbrev xW : List Str := ["self"]
abbrev lS : List Str := ["self"]
theorem Ju : FnScope xW lS (aO gU) := ⟨rfl, rfl, rfl, by decide +kernel, rfl, by decide +kernel, by decide +kernel⟩
def Mo : DS := (aF (vM "Behinds" "by_mays" (aA 0) wE) aP)
def vC : DS := (aF (vM "Behinds" "by_words" (aA 0) wE) Mo)
abbrev hX : Stmt := zF (cL 15) 1
abbrev zX : List Str := ["self", "kinds", "one", "other", "key"]
abbrev lY : List Str := ["self", "kinds", "one", "other"]
theorem Ma : FnScope zX lY (aO hX) := ⟨rfl, rfl, rfl, by decide +kernel, rfl, by decide +kernel, by decide +kernel⟩
def zO : DS := (aF (bF (uD (jU "Behinds" "by_words" (aA 0)) (aA 4))) aP)
def Km : DS := (aF (bY (bH (aG yW (aA 4) (jU "Behinds" "by_words" (aA 0)))) (aF (vX (jU "Behinds" "by_words" (aA 0)) (aA 4) (aU 3 fM (aB (aA 1) (aB (aA 2) (aB (aA 3) aH))))) aP) aP) zO)
def tJ : DS := (aF (aV 4 (cA (aB (aA 1) (aB (aA 2) (aB (aA 3) aH))))) Km)
abbrev gL : Stmt := zF (cL 15) 3
abbrev zL : List Str := ["self", "kinds", "one", "other", "words", "found", "word", "next_word", "third"]
abbrev kK : List Str := ["self", "kinds", "one", "other"]
theorem Mc : FnScope zL kK (aO gL) := ⟨rfl, rfl, rfl, by decide +kernel, rfl, by decide +kernel, by decide +kernel⟩
theorem Wo : List.Nodup (["word", "found"] : List Str) := by decide +kernel
def La : DS := (aF (yD (aA 5) (aA 8) (aE (.bool true))) aP)
def Gz : DS := (aF (eF (dQ (nV "Behinds" "words" 4 qF (aA 0) (aB (aA 1) (aB (aA 6) (aB (aA 7) aH))))) (gN 8) La) aP)
def Mi : DS := (aF (bY (bH (aG dJ (bU Be (aB (aA 5) aH)) (bU kB (aB (aA 4) aH)))) (aF (bF (aA 4)) aP) aP) Gz)
def Ki : DS := (aF (eF (dQ (aA 3)) (gN 7) Mi) aP)
def Ke : DS := (aF (bF (bU gP (aB (dY [none, some 5] (dQ (aA 4)) (gN 0) (bH (aG zG (aA 0) (aA 1))) (aA 0)) aH))) aP)
def Im : DS := (aF (eF (dQ (aA 2)) (gN 6) Ki) Ke)
def Fv : DS := (aF (aV 5 Ay) Im)
def vA : DS := (aF (aV 4 (aU 1 lA (aB (cA (aB (aG bD (aA 1) (aE (.int 0))) (aB (aG bD (aA 1) (aE (.int 2))) aH))) aH))) Fv)
abbrev gH : Stmt := cL 16
abbrev Bl : List Str := ["kinds", "one", "other"]
abbrev kP : List Str := ["kinds", "one", "other"]
theorem Kt : FnScope Bl kP (aO gH) := ⟨rfl, rfl, rfl, by decide +kernel, rfl, by decide +kernel, by decide +kernel⟩
def vH : DS := (aF (bF (nV "Behinds" "gathered" 4 rF (uQ "Behinds" 1 qQ aH) (aB (aA 0) (aB (aA 1) (aB (aA 2) aH))))) aP)
abbrev hR : Stmt := cL 17
abbrev zQ : List Str := ["kinds", "one", "other", "third"]
abbrev lI : List Str := ["kinds", "one", "other", "third"]
theorem Li : FnScope zQ lI (aO hR) := ⟨rfl, rfl, rfl, by decide +kernel, rfl, by decide +kernel, by decide +kernel⟩
def vU : DS := (aF (bF (aG uT (aA 3) (aU 3 fM (aB (aA 0) (aB (aA 1) (aB (aA 2) aH)))))) aP)
abbrev hJ : Stmt := cL 19
abbrev xF : List Str := ["_law_script", "_law_k", "_law_cell"]
abbrev mK : List Str := ["_law_script", "_law_k"]
theorem Jb : FnScope xF mK (aO hJ) := ⟨rfl, rfl, rfl, by decide +kernel, rfl, by decide +kernel, by decide +kernel⟩
def zA : DS := (aF (bF (qN (aB (bU Eg (aB (aE (.int 0)) (aB (aG fN (aA 2) (aG Ds (aE (.int 10)) (aE (.int 18)))) aH))) (aB (aA 2) (aB (aA 1) (aB (aE (.int 0)) aH)))))) aP)
def xN : DS := (aF (aV 2 (aG bD (aA 0) (aG jB (aA 1) (bU kB (aB (aA 0) aH))))) zA)
def qH : DS := (aF (bY (bH (aG dJ (bU kB (aB (aA 0) aH)) (aE (.int 0)))) (aF (bF (qN (aB (aE (.int 0)) (aB (aE (.int 0)) (aB (aA 1) (aB (aE (.int 0)) aH)))))) aP) aP) xN)
abbrev eM : Stmt := cL 20
abbrev zV : List Str := ["_law_feed_here", "_law_many", "_law_figure", "_law_number"]
abbrev eG : List Str := ["_law_feed_here", "_law_many"]
theorem Fb : FnScope zV eG (aO eM) := ⟨rfl, rfl, rfl, by decide +kernel, rfl, by decide +kernel, by decide +kernel⟩
def Ko : DS := (aF (bF (aA 2)) aP)
def Mr : DS := (aF (sW (aA 0) (aE (.int 0)) (aG qK (aG bD (aA 0) (aE (.int 0))) (aA 1))) Ko)
def Kv : DS := (aF (aV 2 (aG jB (aG bD (aA 0) (aE (.int 0))) (aA 1))) Mr)
def Fu : DS := (aF (bF (aG jB (aA 3) (aA 1))) aP)
def Nn : DS := (aF (aV 3 (aG jB (aG dB (aG dB (aG eJ (aA 3) (aA 3)) (aG eJ (aE (.int 69621)) (aA 3))) (aG bD (aA 0) (aE (.int 3)))) (aE (.int 2147483587)))) Fu)
def Kq : DS := (aF (aV 3 (aG jB (aG dB (aG dB (aG eJ (aA 3) (aA 3)) (aG eJ (aE (.int 48271)) (aA 3))) (aG bD (aA 0) (aE (.int 2)))) (aE (.int 2147483629)))) Nn)
def Ha : DS := (aF (aV 3 (aG jB (aG dB (aG dB (aG bD (aA 0) (aE (.int 1))) (aG eJ (aE (.int 7919)) (aG bD (aA 0) (aE (.int 2))))) (aG eJ (aE (.int 104729)) (aG bD (aA 0) (aE (.int 3))))) (aE (.int 2147483629)))) Kq)
def No : DS := (aF (bY (bH (aG oR (aG bD (aA 0) (aE (.int 0))) (aE (.int 0)))) Kv aP) Ha)
def sM : DS := (aF (sW (aA 0) (aE (.int 3)) (aG dB (aG bD (aA 0) (aE (.int 3))) (aE (.int 1)))) No)
abbrev gD : Stmt := cL 21
abbrev Bn : List Str := ["_law_top", "_law_bottom", "_law_one", "_law_other", "_law_rest"]
abbrev lF : List Str := ["_law_top", "_law_bottom"]
theorem Lo : FnScope Bn lF (aO gD) := ⟨rfl, rfl, rfl, by decide +kernel, rfl, by decide +kernel, by decide +kernel⟩
def Kp : DS := (aF (aV 3 (aA 4)) aP)
def Lq : DS := (aF (aV 2 (aA 3)) Kp)
def Jq : DS := (aF (aV 4 (aG jB (aA 2) (aA 3))) Lq)
def Gn : DS := (aF (bF (cA (aB (aG qK (aA 0) (aA 2)) (aB (aG qK (aA 1) (aA 2)) aH)))) aP)
def Fk : DS := (aF (Cd (bH (aG oR (aA 3) (aE (.int 0)))) Jq) Gn)
def Hk : DS := (aF (aV 3 (bU xE (aB (aA 0) aH))) Fk)
def uV : DS := (aF (aV 2 (aA 1)) Hk)
abbrev iF : Stmt := cL 22
abbrev Cu : List Str := ["_law_one", "_law_other", "_law_apart"]
abbrev lV : List Str := ["_law_one", "_law_other"]
theorem Fp : FnScope Cu lV (aO iF) := ⟨rfl, rfl, rfl, by decide +kernel, rfl, by decide +kernel, by decide +kernel⟩
def Fo : DS := (aF (bF (aG fN (bU sJ (aB (aG oR (aA 2) (aE (.int 0))) aH)) (bU sJ (aB (aG uR (aA 2) (aE (.int 0))) aH)))) aP)
def sL : DS := (aF (aV 2 (aG fN (aG eJ (aG bD (aA 0) (aE (.int 0))) (aG bD (aA 1) (aE (.int 1)))) (aG eJ (aG bD (aA 1) (aE (.int 0))) (aG bD (aA 0) (aE (.int 1)))))) Fo)
abbrev gZ : Stmt := cL 23
abbrev Du : List Str := ["_law_one", "_law_other", "_law_both", "_law_a", "_law_b", "_law_rows"]
abbrev kX : List Str := ["_law_one", "_law_other"]
theorem Gx : FnScope Du kX (aO gZ) := ⟨rfl, rfl, rfl, by decide +kernel, rfl, by decide +kernel, by decide +kernel⟩
def Fm : DS := (aF (bF (aG bD (aG bD (aA 5) (aG dB (aE (.int 1)) (aU 2 fU (aB (aG bD (aA 3) (aE (.int 0))) (aB (aG bD (aA 4) (aE (.int 0))) aH))))) (aG dB (aE (.int 1)) (aU 2 fU (aB (aG bD (aA 3) (aE (.int 1))) (aB (aG bD (aA 4) (aE (.int 1))) aH)))))) aP)
def yC : DS := (aF (aV 5 (cA (aB (cA (aB (aE (.str "overlaps")) (aB (aE (.str "ended")) (aB (aE (.str "holds")) aH)))) (aB (cA (aB (aE (.str "begins")) (aB (aE (.str "same")) (aB (aE (.str "begun")) aH)))) (aB (cA (aB (aE (.str "within")) (aB (aE (.str "ends")) (aB (aE (.str "lapped")) aH)))) aH))))) Fm)
def Cf : DS := (aF (bY (sA (bH (aA 2)) (bH (aG dJ (aU 2 fU (aB (aG bD (aA 3) (aE (.int 0))) (aB (aG bD (aA 4) (aE (.int 1))) aH))) (aE (.int 0))))) (aF (bF (aE (.str "met"))) aP) aP) yC)
def Kf : DS := (aF (bY (sA (bH (aA 2)) (bH (aG dJ (aU 2 fU (aB (aG bD (aA 3) (aE (.int 1))) (aB (aG bD (aA 4) (aE (.int 0))) aH))) (aE (.int 0))))) (aF (bF (aE (.str "meets"))) aP) aP) Cf)
def Kl : DS := (aF (bY (bH (aG oR (aU 2 fU (aB (aG bD (aA 3) (aE (.int 0))) (aB (aG bD (aA 4) (aE (.int 1))) aH))) (aE (.int 0)))) (aF (bF (aE (.str "behind"))) aP) aP) Kf)
def Bf : DS := (aF (bY (bH (aG uR (aU 2 fU (aB (aG bD (aA 3) (aE (.int 1))) (aB (aG bD (aA 4) (aE (.int 0))) aH))) (aE (.int 0)))) (aF (bF (aE (.str "ahead"))) aP) aP) Kl)
def rT : DS := (aF (aV 4 (vQ (bH (pW (aG bD (aA 1) (aE (.int 0))) "tuple")) (aA 1) (cA (aB (aA 1) (aB (aA 1) aH))))) Bf)
def qD : DS := (aF (aV 3 (vQ (bH (pW (aG bD (aA 0) (aE (.int 0))) "tuple")) (aA 0) (cA (aB (aA 0) (aB (aA 0) aH))))) rT)
def lO : DS := (aF (aV 2 (Cr (pW (aG bD (aA 0) (aE (.int 0))) "tuple") (pW (aG bD (aA 1) (aE (.int 0))) "tuple"))) qD)
abbrev fP : Stmt := cL 24
abbrev Cb : List Str := ["_law_kinds_here", "_law_first"]
abbrev iO : List Str := ["_law_kinds_here"]
theorem Mj : FnScope Cb iO (aO fP) := ⟨rfl, rfl, rfl, by decide +kernel, rfl, by decide +kernel, by decide +kernel⟩
def Gc : DS := (aF (bF (aG dB (aA 1) (eY (aB (aE (.str "ended")) (aB (aE (.str "holds")) (aB (aE (.str "begun")) (aB (aE (.str "lapped")) (aB (aE (.str "met")) (aB (aE (.str "behind")) aH))))))))) aP)
def Mt : DS := (aF (aV 1 (eY (aB (aE (.str "ahead")) (aB (aE (.str "meets")) (aB (aE (.str "overlaps")) (aB (aE (.str "begins")) (aB (aE (.str "within")) (aB (aE (.str "ends")) (aB (aE (.str "same")) aH))))))))) Gc)
def Ls : DS := (aF (bF (eY (aB (aE (.str "ahead")) (aB (aE (.str "ended")) (aB (aE (.str "holds")) (aB (aE (.str "begun")) (aB (aE (.str "behind")) aH))))))) aP)
def Nv : DS := (aF (bY (bH (aG dJ (aG bD (aA 0) (aE (.int 0))) (aE (.str "point")))) (aF (bF (eY (aB (aE (.str "ahead")) (aB (aE (.str "begins")) (aB (aE (.str "within")) (aB (aE (.str "ends")) (aB (aE (.str "behind")) aH))))))) aP) aP) Ls)
def Gd : DS := (aF (bY (bH (aG dJ (aA 0) (cA (aB (aE (.str "point")) (aB (aE (.str "point")) aH))))) (aF (bF (eY (aB (aE (.str "ahead")) (aB (aE (.str "same")) (aB (aE (.str "behind")) aH))))) aP) aP) Nv)
def sI : DS := (aF (bY (bH (aG dJ (aA 0) (cA (aB (aE (.str "stretch")) (aB (aE (.str "stretch")) aH))))) Mt aP) Gd)
abbrev gX : Stmt := cL 25
abbrev wU : List Str := ["_law_feed_here", "_law_many", "_law_some"]
abbrev mJ : List Str := ["_law_feed_here", "_law_many"]
theorem Jy : FnScope wU mJ (aO gX) := ⟨rfl, rfl, rfl, by decide +kernel, rfl, by decide +kernel, by decide +kernel⟩
theorem Rz : List.Nodup (["_law_k", "_law_feed_here"] : List Str) := by decide +kernel
theorem Qp : List.Nodup (["_law_k"] : List Str) := by decide +kernel
def Db : DS := (aF (bF (bU gP (aB (aA 2) aH))) aP)
def Hq : DS := (aF (bY (bH (aG dJ (aU 2 cK (aB (aA 0) (aB (aE (.int 3)) aH))) (aE (.int 0)))) (aF (aV 2 (dY [none] (kN (aA 1)) (gN 0) gG (aE (.str "stretch")))) aP) aP) Db)
def wG : DS := (aF (aV 2 (dY [none, some 0] (kN (aA 1)) (gN 0) gG (aG bD (eY (aB (aE (.str "point")) (aB (aE (.str "stretch")) aH))) (aU 2 cK (aB (aA 1) (aB (aE (.int 2)) aH)))))) Hq)
abbrev gW : Stmt := cL 26
abbrev wV : List Str := ["_law_feed_here", "_law_kinds_here", "_law_known", "_law_piece", "_law_found", "_law_way"]
abbrev kS : List Str := ["_law_feed_here", "_law_kinds_here"]
theorem Nm : FnScope wV kS (aO gW) := ⟨rfl, rfl, rfl, by decide +kernel, rfl, by decide +kernel, by decide +kernel⟩
theorem X0 : List.Nodup (["_law_word_here", "_law_feed_here", "_law_piece"] : List Str) := by decide +kernel
def Ah : DS := (aF (bF (bU gP (aB (aA 4) aH))) aP)
def Gk : DS := (aF (bY (bH (aG dJ (aA 5) (aE (.int 1)))) (aF (aV 4 (eY aH)) aP) aP) Ah)
def Nt : DS := (aF (bY (bH (aG dJ (aA 5) (aE (.int 0)))) (aF (aV 4 (eY (aB (aG bD (aA 2) (aU 2 cK (aB (aA 0) (aB (bU kB (aB (aA 2) aH)) aH)))) aH))) aP) aP) Gk)
def Gf : DS := (aF (aV 5 (aU 2 cK (aB (aA 0) (aB (aE (.int 8)) aH)))) Nt)
def Jp : DS := (aF (aV 4 (dY [none, some 0, some 3] (dQ (aA 2)) (gN 0) (bH (aG dJ (aU 2 cK (aB (aA 1) (aB (aA 2) aH))) (aE (.int 0)))) (aA 0))) Gf)
def Gp : DS := (aF (aV 3 (aG dB (aE (.int 1)) (aU 2 cK (aB (aA 0) (aB (aE (.int 5)) aH))))) Jp)
def uO : DS := (aF (aV 2 (aU 1 mF (aB (aA 1) aH))) Gp)
abbrev gJ : Stmt := cL 27
abbrev xZ : List Str := ["_law_feed_here", "_law_kind", "_law_base", "_law_many", "_law_bottom", "_law_first", "_law_last"]
abbrev lB : List Str := ["_law_feed_here", "_law_kind", "_law_base", "_law_many", "_law_bottom"]
theorem Io : FnScope xZ lB (aO gJ) := ⟨rfl, rfl, rfl, by decide +kernel, rfl, by decide +kernel, by decide +kernel⟩
def Fj : DS := (aF (bF (cA (aB (aU 2 jQ (aB (aG dB (aA 2) (aA 5)) (aB (aA 4) aH))) (aB (aU 2 jQ (aB (aG dB (aA 2) (aA 6)) (aB (aA 4) aH))) aH)))) aP)
def Kx : DS := (aF (aV 6 (aG dB (aG dB (aA 5) (aE (.int 1))) (aU 2 cK (aB (aA 0) (aB (aG fN (aG fN (aA 3) (aE (.int 1))) (aA 5)) aH))))) Fj)
def Gm : DS := (aF (aV 5 (aU 2 cK (aB (aA 0) (aB (aG fN (aA 3) (aE (.int 1))) aH)))) Kx)
def rS : DS := (aF (bY (bH (aG dJ (aA 1) (aE (.str "point")))) (aF (bF (aU 2 jQ (aB (aG dB (aA 2) (aU 2 cK (aB (aA 0) (aB (aA 3) aH)))) (aB (aA 4) aH)))) aP) aP) Gm)
abbrev gS : Stmt := cL 28
abbrev Dr : List Str := ["_law_feed_here", "_law_things", "_law_many", "_law_bottom", "_law_base"]
abbrev mE : List Str := ["_law_feed_here", "_law_things"]
theorem Et : FnScope Dr mE (aO gS) := ⟨rfl, rfl, rfl, by decide +kernel, rfl, by decide +kernel, by decide +kernel⟩
theorem Kj : List.Nodup (["_law_name", "_law_kind", "_law_feed_here", "_law_many", "_law_bottom", "_law_base"] : List Str) := by decide +kernel
def Gq : DS := (aF (bF (bU gP (aB (dY [none, none, some 0, some 2, some 3, some 4] (dQ (aA 1)) (gT 2 (dF (gN 0) (dF (gN 1) fW))) gG (aU 5 pP (aB (aA 2) (aB (aA 1) (aB (aA 5) (aB (aA 3) (aB (aA 4) aH))))))) aH))) aP)
def Jf : DS := (aF (aV 4 (aG fN (aG bD (eY (aB (aE (.int 0)) (aB (aE (.int 0)) (aB (Ar (aE (.int 5))) (aB (aE (.int 12)) (aB (aE (.int 900000)) aH)))))) (aU 2 cK (aB (aA 0) (aB (aE (.int 5)) aH)))) (aU 2 cK (aB (aA 0) (aB (aE (.int 3)) aH))))) Gq)
def Lz : DS := (aF (aV 3 (aG bD (eY (aB (aE (.int 1)) (aB (aE (.int 1)) (aB (aE (.int 2)) (aB (aE (.int 3)) (aB (aE (.int 7)) (aB (aE (.int 999983)) aH))))))) (aU 2 cK (aB (aA 0) (aB (aE (.int 6)) aH))))) Jf)
def uA : DS := (aF (aV 2 (aG dB (aE (.int 2)) (aU 2 cK (aB (aA 0) (aB (aE (.int 8)) aH))))) Lz)
abbrev fE : Stmt := cL 29
abbrev Ee : List Str := ["_law_script", "_law_k", "_law_feed_here", "_law_kinds_here", "_law_first", "_law_second", "_law_third", "_law_one", "_law_other", "_law_found", "_law_turned_about", "_law_known", "_law_drawn_word", "_law_words_here", "_law_more", "_law_met", "_law_word_here"]
abbrev vT : List Str := ["_law_script"]
theorem Nk : FnScope Ee vT (aO fE) := ⟨rfl, rfl, rfl, by decide +kernel, rfl, by decide +kernel, by decide +kernel⟩
theorem Y7 : List.Nodup (["_law_word_here", "_law_met"] : List Str) := by decide +kernel
def Fz : DS := (aF (wK (wN (aA 15) (aU 3 fM (aB (aA 3) (aB (aA 16) (aB (aA 8) aH)))))) aP)
def Mz : DS := (aF (bY (bH (aG pV (bU iX (aB (aA 14) aH)) (bU iX (aB (bU gP (aB (dY [none, some 15] (dQ (aA 11)) (gN 0) (bH (aG Dt (aA 0) (aA 1))) (aA 0)) aH)) aH)))) (aF (bF (aE (.bool false))) aP) aP) aP)
def Em : DS := (aF (eF (dQ (aA 13)) (gN 16) Fz) Mz)
def Kd : DS := (aF (aV 15 (qN aH)) Em)
def Nr : DS := (aF (aV 14 (aU 3 qG (aB (aA 3) (aB (aA 13) (aB (cA (aB (aA 8) aH)) aH))))) Kd)
def Iu : DS := (aF (aV 13 (jO (jO (aA 13) (gO (aU 2 cK (aB (aA 2) (aB (aG dB (bU kB (aB (aA 13) aH)) (aE (.int 1))) aH)))) mY) mY (gO (aE (.int 3))))) Nr)
def yE : DS := (aF (aV 13 (aU 2 rB (aB (aA 2) (aB (jO (aA 3) mY (gO (aE (.int 2)))) aH)))) Iu)
def Hi : DS := (aF (bY (bH (aG pV (bU iX (aB (aU 4 pI (aB (aA 3) (aB (aA 7) (aB (aA 8) (aB (aA 12) aH))))) aH)) (bU iX (aB (aG uT (aA 12) (aA 9)) aH)))) (aF (bF (aE (.bool false))) aP) aP) yE)
def Jm : DS := (aF (aV 12 (aG bD (aA 11) (aU 2 cK (aB (aA 2) (aB (bU kB (aB (aA 11) aH)) aH))))) Hi)
def Es : DS := (aF (aV 11 (aU 1 mF (aB (cA (aB (aG bD (aA 3) (aE (.int 0))) (aB (aG bD (aA 3) (aE (.int 2))) aH))) aH))) Jm)
def Mx : DS := (aF (bY (bH (aG pV (bU iX (aB (aU 1 qW (aB (aA 9) aH)) aH)) (bU iX (aB (aA 10) aH)))) (aF (bF (aE (.bool false))) aP) aP) Es)
def Fh : DS := (aF (aV 10 (aU 3 fM (aB (zM (aA 3)) (aB (aU 2 fO (aB (aA 6) (aB (aA 5) aH))) (aB (aU 2 fO (aB (aA 5) (aB (aA 4) aH))) aH))))) Mx)
def Fg : DS := (aF (bY (qV (bH (aG xB (aU 2 fO (aB (aA 4) (aB (aA 6) aH))) (aA 9))) (bH (aG Dg (aU 4 pI (aB (aA 3) (aB (aA 7) (aB (aA 8) (aB (aU 2 fO (aB (aA 4) (aB (aA 6) aH))) aH))))) (aE (.bool true))))) (aF (bF (aE (.bool false))) aP) aP) Fh)
def Mq : DS := (aF (aV 9 (aU 3 fM (aB (aA 3) (aB (aA 7) (aB (aA 8) aH))))) Fg)
def Jl : DS := (aF (aV 8 (aU 2 fO (aB (aA 5) (aB (aA 6) aH)))) Mq)
def Kr : DS := (aF (aV 7 (aU 2 fO (aB (aA 4) (aB (aA 5) aH)))) Jl)
def Is : DS := (aF (mS (aU 2 rL (aB (aA 2) (aB (cA (aB (cA (aB (aE (.str "a")) (aB (aG bD (aA 3) (aE (.int 0))) aH))) (aB (cA (aB (aE (.str "b")) (aB (aG bD (aA 3) (aE (.int 1))) aH))) (aB (cA (aB (aE (.str "c")) (aB (aG bD (aA 3) (aE (.int 2))) aH))) aH)))) aH))) (gT 3 (dF (gN 4) (dF (gN 5) (dF (gN 6) fW))))) Kr)
def Fq : DS := (aF (aV 3 (aU 2 rV (aB (aA 2) (aB (aE (.int 3)) aH)))) Is)
def Ir : DS := (aF (aV 2 (aU 2 qZ (aB (aA 0) (aB (aA 1) aH)))) Fq)
def Bq : DS := (aF (bF (aE (.bool true))) aP)
def vS : DS := (aF (eF (kN (aE (.int 3))) (gN 1) Ir) Bq)
end K08
namespace K08
open PySem PySem.Spec PyProof.Rows L2 DL
section
variable {P : Program} {w : World} {K : PySem.W.Frag} {mg : Str → Option Value} {base : Heap}
theorem E1 {gM : Addr} {gE : FuncData} (iA : Fun K "words_of" "words_of" fT gM gE) {jT : Addr} (Cp : mg "POINT_WORDS" = some (.ref jT)) (yB : wF K w jT Ce) {gR : Addr} (kG : mg "ORDER" = some (.ref gR)) (kO : KT K gR ["ahead", "meets", "overlaps", "begins", "within", "ends", "same", "ended", "holds", "begun", "lapped", "met", "behind"])
  (vc : ∀ ds m R, ds.length = iP.length → lA ds m R → tU { nx := fun _ m => R (.dat .none) m, rt := R } (aX Ao ds) m) : FnOk P w K mg base aT 1 gM gE iP (LSp K 1 lA) :=
 cP (k := 0) iA Nq (body := tU) (fun cdv A outer s H E hr => have nd := (Nq).nd; (aI (bM (Ta hr.u100 rfl Cp yB (aC 0) (Fc rfl kG kO))) aQ)) vc
theorem Yb {qA : Addr} {nW : FuncData} (kM : Fun K "turned" "turned" fY qA nW) {gR : Addr} (kG : mg "ORDER" = some (.ref gR)) (kO : KT K gR ["ahead", "meets", "overlaps", "begins", "within", "ends", "same", "ended", "holds", "begun", "lapped", "met", "behind"])
  (vc : ∀ ds m R, ds.length = lZ.length → qE ds m R → tY { nx := fun _ m => R (.dat .none) m, rt := R } (aX Al ds) m) : FnOk P w K mg base aT 1 qA nW lZ (LSp K 1 qE) :=
 cP (k := 0) kM Il (body := tY) (fun cdv A outer s H E hr => have nd := (Il).nd; (aI (bM (bJ (Fc rfl kG kO) (bK jM aM (Ru rfl kG kO (aC 0))))) aQ)) vc
theorem Oz {nF : Addr} {nJ : FuncData} (lD : Fun K "turned_may" "turned_may" iD nF nJ) {qA : Addr} {nW : FuncData} (kM : Fun K "turned" "turned" fY qA nW) (xY : Binds K nW lZ []) (zI : mg "turned" = some (.ref qA)) (Af : FnOk P w K mg base aT 1 qA nW lZ (LSp K 1 qE)) (cF : mg "tuple" = none) (yM : mg "reversed" = none)
  (vc : ∀ ds m R, ds.length = lQ.length → qW ds m R → tW { nx := fun _ m => R (.dat .none) m, rt := R } (aX yS ds) m) : FnOk P w K mg base aT 2 nF nJ lQ (LSp K 1 qW) :=
 cP (k := 1) lD Nj (body := tW) (fun cdv A outer s H E hr => have nd := (Nj).nd; (aI (bM (iQ lR rfl cF fR (aD (rQ ["word"] [none] rfl (Tb rfl yM (aC 0)) (fun cl C s2 H2 pins fp => (cE 0 V2)) (fun cl C s2 H2 pins fp => mV) (fun cl C s2 H2 pins fp => (bA Af (hr.mono (by decide)) zI kM.kp xY rfl (aD (aC 0) aJ)))) aJ))) aQ)) vc
theorem Uy {gV : Addr} {gA : FuncData} (fL : Fun K "ways_by" "ways_by" fK gV gA) {jS : Addr} (Dd : mg "WAYS" = some (.ref jS)) (Dw : KD K w jS vI)
  (vc : ∀ ds m R, ds.length = iV.length → iI ds m R → vV { nx := fun _ m => R (.dat .none) m, rt := R } (aX Cm ds) m) : FnOk P w K mg base aT 1 gV gA iV (LSp K 2 iI) :=
 cP (k := 0) fL Iq (body := vV) (fun cdv A outer s H E hr => have nd := (Iq).nd; (aI (bI 2 nd (sN rfl Dd Dw (aC 1))) (aI (cM (bV (dX hr.u100) (aC 0) (cV (aD bB (aD bB aJ)))) (aI (bM (aC 2)) aQ) aQ) (aI (cM (bV (dX hr.u100) (aC 0) (cV (aD bB (aD bB aJ)))) (aI (bM (rX (aC 2) tL (oH aM))) aQ) aQ) (aI (bM (cV (aD (bJ (aC 2) aM) (aD (bJ (aC 2) aM) aJ)))) aQ))))) vc
theorem Vq {pB : Addr} {oU : FuncData} (lJ : Fun K "forced_way" "forced_way" iC pB oU) 
  (vc : ∀ ds m R, ds.length = lC.length → qJ ds m R → wO { nx := fun _ m => R (.dat .none) m, rt := R } (aX Da ds) m) : FnOk P w K mg base aT 1 pB oU lC (LSp K 2 qJ) :=
 cP (k := 0) lJ Lv (body := wO) (fun cdv A outer s H E hr => have nd := (Lv).nd; (aI (cM (bV (dX hr.u100) (aC 0) aM) (aI (bM (aC 1)) aQ) aQ) (aI (cM (QW.pt (Fx (bV (dX hr.u100) (aC 1) aM) (Ks (bV (dX hr.u100) (aC 1) (aC 0))))) (aI (bM (aC 0)) aQ) aQ) (aI (bM wR) aQ)))) vc
theorem L7 {pU : Addr} {oY : FuncData} (kJ : Fun K "forced_by" "forced_by" gY pU oY) {pB : Addr} {oU : FuncData} (lJ : Fun K "forced_way" "forced_way" iC pB oU) (Dm : Binds K oU lC []) (At : mg "forced_way" = some (.ref pB)) (zR : FnOk P w K mg base aT 1 pB oU lC (LSp K 2 qJ)) (oA : mg "zip" = none)
  (vc : ∀ ds m R, ds.length = mB.length → pK ds m R → uM { nx := fun _ m => R (.dat .none) m, rt := R } (aX Aq ds) m) : FnOk P w K mg base aT 2 pU oY mB (LSp K 2 pK) :=
 cP (k := 1) kJ Gu (body := uM) (fun cdv A outer s H E hr => have nd := (Gu).nd; (aI (kR PassesOwn.never rfl (Sw rfl oA (aC 0) (aC 1)) (nY rfl (eD (cE 2 nd) (eD (cE 3 nd) nG))) (aI (bI 4 nd (bA zR (hr.mono (by decide)) At lJ.kp Dm rfl (aD (aC 2) (aD (aC 3) aJ)))) (aI (cM (bV Mp (aC 4) wR) (aI (bM (aC 4)) aQ) aQ) aQ))) (aI (bM wR) aQ))) vc
theorem Vd {pA : Addr} {nH : FuncData} (lE : Fun K "forced_ways" "forced_ways" iG pA nH) {gV : Addr} {gA : FuncData} (fL : Fun K "ways_by" "ways_by" fK gV gA) (lU : Binds K gA iV []) (lL : mg "ways_by" = some (.ref gV)) (kQ : FnOk P w K mg base aT 1 gV gA iV (LSp K 2 iI)) {pU : Addr} {oY : FuncData} (kJ : Fun K "forced_by" "forced_by" gY pU oY) (xP : Binds K oY mB []) (zN : mg "forced_by" = some (.ref pU)) (xM : FnOk P w K mg base aT 2 pU oY mB (LSp K 2 pK)) {jZ : Addr} (qR : mg "END_COUNTS" = some (.ref jZ)) (sB : KD K w jZ nT) (fI : mg "range" = none)
  (vc : ∀ ds m R, ds.length = kW.length → qS ds m R → uG { nx := fun _ m => R (.dat .none) m, rt := R } (aX Bk ds) m) : FnOk P w K mg base aT 3 pA nH kW (LSp K 3 qS) :=
 cP (k := 2) lE Lm (body := uG) (fun cdv A outer s H E hr => have nd := (Lm).nd; (aI (zJ (aC 0) (nY rfl (eD (cE 3 nd) (eD (cE 4 nd) (eD (cE 5 nd) nG))))) (aI (bI 6 nd (sN rfl qR sB (aC 4))) (aI (bI 7 nd (sN rfl qR sB (aC 5))) (aI (bI 8 nd (bA kQ (hr.mono (by decide)) lL fL.kp lU rfl (aD (cV (aD (aC 3) (aD (aC 4) aJ))) (aD (aC 1) aJ)))) (aI (bI 9 nd (bA kQ (hr.mono (by decide)) lL fL.kp lU rfl (aD (cV (aD (aC 4) (aD (aC 5) aJ))) (aD (aC 2) aJ)))) (aI (bM (Y0 ["x", "z", "many", "step", "left", "right"] [none, none, some 6, some 7, some 8, some 9] rfl (qC rfl fI (sN rfl qR sB (aC 3))) (fun cl C s2 H2 pins fp => (cE 0 Ka)) (fun cl C s2 H2 pins fp => mV) (fun cl C s2 H2 pins fp => (qC rfl fI (aC 3))) (fun cl C s2 H2 pins fp => (cE 1 Ka)) (fun cl C s2 H2 pins fp => mV) (fun cl C s2 H2 pins fp => (bA xM (hr.mono (by decide)) zN kJ.kp xP rfl (aD (rX (aC 4) (oH (bK gC (aC 0) (aC 2))) (oH (bK gC (bK dH (aC 0) aM) (aC 2)))) (aD (Tw (aC 5) (aC 1) (aC 3)) aJ)))))) aQ))))))) vc
theorem Vr {nO : Addr} {mO : FuncData} (lN : Fun K "go_with" "go_with" gF nO mO) (oA : mg "zip" = none)
  (vc : ∀ ds m R, ds.length = mD.length → nS ds m R → uB { nx := fun _ m => R (.dat .none) m, rt := R } (aX yP ds) m) : FnOk P w K mg base aT 1 nO mO mD (LSp K 2 nS) :=
 cP (k := 0) lN Ik (body := uB) (fun cdv A outer s H E hr => have nd := (Ik).nd; (aI (kR PassesOwn.never rfl (G4 rfl oA (aC 0) (aC 1)) (nY rfl (eD (cE 2 nd) (eD (cE 3 nd) nG))) (aI (cM (QW.pt (Ej (bV Mp (aC 2) wR) (wT (bV (uU hr.u100) (aC 2) (aC 3))))) (aI (bM iZ) aQ) aQ) aQ)) (aI (bM iZ) aQ))) vc
theorem Vv {eK : Addr} {eN : FuncData} (eC : Fun K "behind_words" "behind_words" eR eK eN) {pA : Addr} {nH : FuncData} (lE : Fun K "forced_ways" "forced_ways" iG pA nH) (Bw : Binds K nH kW []) (By : mg "forced_ways" = some (.ref pA)) (Bg : FnOk P w K mg base aT 3 pA nH kW (LSp K 3 qS)) {gM : Addr} {gE : FuncData} (iA : Fun K "words_of" "words_of" fT gM gE) (oI : Binds K gE iP []) (pZ : mg "words_of" = some (.ref gM)) (nQ : FnOk P w K mg base aT 1 gM gE iP (LSp K 1 lA)) {nO : Addr} {mO : FuncData} (lN : Fun K "go_with" "go_with" gF nO mO) (xQ : Binds K mO mD []) (xH : mg "go_with" = some (.ref nO)) (Ct : FnOk P w K mg base aT 1 nO mO mD (LSp K 2 nS)) {gV : Addr} {gA : FuncData} (fL : Fun K "ways_by" "ways_by" fK gV gA) (lU : Binds K gA iV []) (lL : mg "ways_by" = some (.ref gV)) (kQ : FnOk P w K mg base aT 1 gV gA iV (LSp K 2 iI)) (cF : mg "tuple" = none)
  (vc : ∀ ds m R, ds.length = fG.length → fM ds m R → uS { nx := fun _ m => R (.dat .none) m, rt := R } (aX Ax ds) m) : FnOk P w K mg base aT 4 eK eN fG (LSp K 3 fM) :=
 cP (k := 3) eC Me (body := uS) (fun cdv A outer s H E hr => have nd := (Me).nd; (aI (zJ (aC 0) (nY rfl (eD (cE 3 nd) (eD (cE 4 nd) (eD (cE 5 nd) nG))))) (aI (bI 6 nd (cV (aD (aC 3) (aD (aC 5) aJ)))) (aI (bI 7 nd (bA Bg (hr.mono (by decide)) By lE.kp Bw rfl (aD (aC 0) (aD (aC 1) (aD (aC 2) aJ))))) (aI (bM (iQ lR rfl cF fR (aD (rQ ["word", "ends", "forced"] [none, some 6, some 7] rfl (iW (bA nQ (hr.mono (by decide)) pZ iA.kp oI rfl (aD (aC 6) aJ))) (fun cl C s2 H2 pins fp => (cE 0 n6)) (fun cl C s2 H2 pins fp => (wS (rN (bA Ct (hr.mono (by decide)) xH lN.kp xQ rfl (aD (aC 2) (aD (bA kQ (hr.mono (by decide)) lL fL.kp lU rfl (aD (aC 1) (aD (aC 0) aJ))) aJ)))))) (fun cl C s2 H2 pins fp => (aC 0))) aJ))) aQ))))) vc
theorem Uk {nZ : Addr} {oS : FuncData} (nI : Fun K "__init__" "Behinds.__init__" gU nZ oS) {bQ : Addr} (G_Behinds : PySem.W.nsIn K mainGlobals "Behinds" = some (some (.ref bQ))) (T_Behinds : Cls K bQ) (A_Behinds_by_words : NoAttr K bQ "by_words") (A_Behinds_by_mays : NoAttr K bQ "by_mays")
  (vc : ∀ ds m R, ds.length = lS.length → qQ ds m R → vC { nx := fun _ m => R (.dat .none) m, rt := R } (aX xW ds) m) : FnOk P w K mg base aT 1 nZ oS lS (LSp K 1 qQ) :=
 cP (k := 0) nI Ju (body := vC) (fun cdv A outer s H E hr => have nd := (Ju).nd; (aI (Ng G_Behinds T_Behinds A_Behinds_by_words Kg (aC 0)) (aI (Ng G_Behinds T_Behinds A_Behinds_by_mays Kg (aC 0)) aQ))) vc
theorem D9 {mZ : Addr} {oW : FuncData} (pT : Fun K "words" "Behinds.words" hX mZ oW) {bQ : Addr} (G_Behinds : PySem.W.nsIn K mainGlobals "Behinds" = some (some (.ref bQ))) (T_Behinds : Cls K bQ) (A_Behinds_by_words : NoAttr K bQ "by_words") {eK : Addr} {eN : FuncData} (eC : Fun K "behind_words" "behind_words" eR eK eN) (fV : Binds K eN fG []) (fS : mg "behind_words" = some (.ref eK)) (fX : FnOk P w K mg base aT 4 eK eN fG (LSp K 3 fM))
  (vc : ∀ ds m R, ds.length = lY.length → qF ds m R → tJ { nx := fun _ m => R (.dat .none) m, rt := R } (aX zX ds) m) : FnOk P w K mg base aT 5 mZ oW lY (LSp K 4 qF) :=
 cP (k := 4) pT Ma (body := tJ) (fun cdv A outer s H E hr => have nd := (Ma).nd; (aI (bI 4 nd (cV (aD (aC 1) (aD (aC 2) (aD (aC 3) aJ))))) (aI (cM (bV (Ww hr.u100) (aC 4) (zW G_Behinds T_Behinds A_Behinds_by_words (aC 0)) (hm := by with_unfolding_all rfl)) (aI (R8 hr.u100 (bA fX (hr.mono (by decide)) fS eC.kp fV rfl (aD (aC 1) (aD (aC 2) (aD (aC 3) aJ)))) (zW G_Behinds T_Behinds A_Behinds_by_words (aC 0)) (aC 4)) aQ) aQ) (aI (bM (Zn hr.u100 (zW G_Behinds T_Behinds A_Behinds_by_words (aC 0)) (aC 4))) aQ)))) vc
theorem M2 {nM : Addr} {pE : FuncData} (mN : Fun K "gathered" "Behinds.gathered" gL nM pE) {bQ : Addr} (G_Behinds : PySem.W.nsIn K mainGlobals "Behinds" = some (some (.ref bQ))) (T_Behinds : Cls K bQ) {gM : Addr} {gE : FuncData} (iA : Fun K "words_of" "words_of" fT gM gE) (oI : Binds K gE iP []) (pZ : mg "words_of" = some (.ref gM)) (nQ : FnOk P w K mg base aT 1 gM gE iP (LSp K 1 lA)) {mZ : Addr} {oW : FuncData} (pT : Fun K "words" "Behinds.words" hX mZ oW) (yL : Binds K oW lY []) (H_Behinds_words : Meth K bQ "words" mZ) (Dc : FnOk P w K mg base aT 5 mZ oW lY (LSp K 4 qF)) (eE : mg "len" = none) (cF : mg "tuple" = none)
  (vc : ∀ ds m R, ds.length = kK.length → rF ds m R → vA { nx := fun _ m => R (.dat .none) m, rt := R } (aX zL ds) m) : FnOk P w K mg base aT 6 nM pE kK (LSp K 4 rF) :=
 cP (k := 5) mN Mc (body := vA) (fun cdv A outer s H E hr => have nd := (Mc).nd; (aI (bI 4 nd (bA nQ (hr.mono (by decide)) pZ iA.kp oI rfl (aD (cV (aD (bJ (aC 1) aM) (aD (bJ (aC 1) aM) aJ))) aJ))) (aI (bI 5 nd Wz) (aI (kR PassesOwn.never rfl (iW (aC 2)) (cE 6 nd) (aI (kR PassesOwn.never rfl (iW (aC 3)) (cE 7 nd) (aI (cM (bV (dX hr.u100) (eB Wk rfl eE lG (aD (aC 5) aJ)) (eB pM rfl eE lG (aD (aC 4) aJ))) (aI (bM (aC 4)) aQ) aQ) (aI (kR PassesOwn.never rfl (iW (Er G_Behinds T_Behinds H_Behinds_words Dc (hr.mono (by decide)) yL rfl (aC 0) (aD (aC 1) (aD (aC 6) (aD (aC 7) aJ))))) (cE 8 nd) (aI (O3 hr.u100 iZ (aC 5) (aC 8)) aQ)) aQ))) aQ)) (aI (bM (iQ lR rfl cF fR (aD (rQ ["word", "found"] [none, some 5] rfl (iW (aC 4)) (fun cl C s2 H2 pins fp => (cE 0 Wo)) (fun cl C s2 H2 pins fp => (wS (bV (Tn hr.u100) (aC 0) (aC 1) (hm := by with_unfolding_all rfl)))) (fun cl C s2 H2 pins fp => (aC 0))) aJ))) aQ))))) vc
theorem Uj {oM : Addr} {mX : FuncData} (kY : Fun K "behind_mays" "behind_mays" gH oM mX) {bQ : Addr} (G_Behinds : PySem.W.nsIn K mainGlobals "Behinds" = some (some (.ref bQ))) (T_Behinds : Cls K bQ) {nM : Addr} {pE : FuncData} (mN : Fun K "gathered" "Behinds.gathered" gL nM pE) (Dx : Binds K pE kK []) (H_Behinds_gathered : Meth K bQ "gathered" nM) (Dj : FnOk P w K mg base aT 6 nM pE kK (LSp K 4 rF)) {nZ : Addr} {oS : FuncData} (nI : Fun K "__init__" "Behinds.__init__" gU nZ oS) (zC : Binds K oS lS [])  (Bo : FnOk P w K mg base aT 1 nZ oS lS (LSp K 1 qQ)) (Dp : mg "Behinds" = some (.ref bQ)) (wX : Mk K bQ nZ)
  (vc : ∀ ds m R, ds.length = kP.length → qG ds m R → vH { nx := fun _ m => R (.dat .none) m, rt := R } (aX Bl ds) m) : FnOk P w K mg base aT 7 oM mX kP (LSp K 3 qG) :=
 cP (k := 6) kY Kt (body := vH) (fun cdv A outer s H E hr => have nd := (Kt).nd; (aI (bM (Er G_Behinds T_Behinds H_Behinds_gathered Dj (hr.mono (by decide)) Dx rfl (Vm G_Behinds wX Dp Bo (hr.mono (by decide)) zC) (aD (aC 0) (aD (aC 1) (aD (aC 2) aJ))))) aQ)) vc
theorem J1 {pN : Addr} {oB : FuncData} (jI : Fun K "fits_three" "fits_three" hR pN oB) {eK : Addr} {eN : FuncData} (eC : Fun K "behind_words" "behind_words" eR eK eN) (fV : Binds K eN fG []) (fS : mg "behind_words" = some (.ref eK)) (fX : FnOk P w K mg base aT 4 eK eN fG (LSp K 3 fM))
  (vc : ∀ ds m R, ds.length = lI.length → pI ds m R → vU { nx := fun _ m => R (.dat .none) m, rt := R } (aX zQ ds) m) : FnOk P w K mg base aT 5 pN oB lI (LSp K 4 pI) :=
 cP (k := 4) jI Li (body := vU) (fun cdv A outer s H E hr => have nd := (Li).nd; (aI (bM (wI He (aC 3) (bA fX (hr.mono (by decide)) fS eC.kp fV rfl (aD (aC 0) (aD (aC 1) (aD (aC 2) aJ)))) (hm := by with_unfolding_all rfl))) aQ)) vc
theorem Ql {mW : Addr} {nL : FuncData} (kI : Fun K "_law_feed" "_law_feed" hJ mW nL) (eE : mg "len" = none) (Bc : mg "max" = none)
  (vc : ∀ ds m R, ds.length = mK.length → qZ ds m R → qH { nx := fun _ m => R (.dat .none) m, rt := R } (aX xF ds) m) : FnOk P w K mg base aT 1 mW nL mK (LSp K 2 qZ) :=
 cP (k := 0) kI Jb (body := qH) (fun cdv A outer s H E hr => have nd := (Jb).nd; (aI (cM (bV (dX hr.u100) (eB pM rfl eE lG (aD (aC 0) aJ)) aM) (aI (bM (Cn (aD aM (aD aM (aD (aC 1) (aD aM aJ)))))) aQ) aQ) (aI (bI 2 nd (bJ (aC 0) (bK mG (aC 1) (eB pM rfl eE lG (aD (aC 0) aJ))))) (aI (bM (Cn (aD (eB (V4 rfl) rfl Bc T4 (aD aM (aD (bK jM (aC 2) (bK Zz aM aM)) aJ))) (aD (aC 2) (aD (aC 1) (aD aM aJ)))))) aQ)))) vc
theorem Pg {dC : Addr} {dD : FuncData} (cD : Fun K "_law_draw" "_law_draw" eM dC dD) 
  (vc : ∀ ds m R, ds.length = eG.length → cK ds m R → sM { nx := fun _ m => R (.dat .none) m, rt := R } (aX zV ds) m) : FnOk P w K mg base aT 1 dC dD eG (LSp K 2 cK) :=
 cP (k := 0) cD Fb (body := sM) (fun cdv A outer s H E hr => have nd := (Fb).nd; (aI (Lp (bK dH (bJ (aC 0) aM) aM) (aC 0) aM) (aI (cM (bV sV (bJ (aC 0) aM) aM) (aI (bI 2 nd (bK mG (bJ (aC 0) aM) (aC 1))) (aI (Lp (bK xG (bJ (aC 0) aM) (aC 1)) (aC 0) aM) (aI (bM (aC 2)) aQ))) aQ) (aI (bI 3 nd (bK mG (bK dH (bK dH (bJ (aC 0) aM) (bK gC aM (bJ (aC 0) aM))) (bK gC aM (bJ (aC 0) aM))) aM)) (aI (bI 3 nd (bK mG (bK dH (bK dH (bK gC (aC 3) (aC 3)) (bK gC aM (aC 3))) (bJ (aC 0) aM)) aM)) (aI (bI 3 nd (bK mG (bK dH (bK dH (bK gC (aC 3) (aC 3)) (bK gC aM (aC 3))) (bJ (aC 0) aM)) aM)) (aI (bM (bK mG (aC 3) (aC 1))) aQ))))))) vc
theorem Sn {pD : Addr} {mM : FuncData} (iK : Fun K "_law_fraction" "_law_fraction" gD pD mM) (Eh : mg "abs" = none)
  (vc : ∀ ds m R, ds.length = lF.length → jQ ds m R → uV { nx := fun _ m => R (.dat .none) m, rt := R } (aX Bn ds) m) : FnOk P w K mg base aT 1 pD mM lF (LSp K 2 jQ) :=
 cP (k := 0) iK Lo (body := uV) (fun cdv A outer s H E hr => have nd := (Lo).nd; (aI (bI 2 nd (aC 1)) (aI (bI 3 nd (eB Z3 rfl Eh Qf (aD (aC 0) aJ))) (aI (Vu PassesOwn.never (bV sV (aC 3) aM) (aI (bI 4 nd (bK mG (aC 2) (aC 3))) (aI (bI 2 nd (aC 3)) (aI (bI 3 nd (aC 4)) aQ)))) (aI (bM (cV (aD (bK xG (aC 0) (aC 2)) (aD (bK xG (aC 1) (aC 2)) aJ)))) aQ))))) vc
theorem E6 {oT : Addr} {nE : FuncData} (eZ : Fun K "_law_stand" "_law_stand" iF oT nE) (vJ : mg "int" = none)
  (vc : ∀ ds m R, ds.length = lV.length → fU ds m R → sL { nx := fun _ m => R (.dat .none) m, rt := R } (aX Cu ds) m) : FnOk P w K mg base aT 1 oT nE lV (LSp K 2 fU) :=
 cP (k := 0) eZ Fp (body := sL) (fun cdv A outer s H E hr => have nd := (Fp).nd; (aI (bI 2 nd (bK jM (bK gC (bJ (aC 0) aM) (bJ (aC 1) aM)) (bK gC (bJ (aC 1) aM) (bJ (aC 0) aM)))) (aI (bM (bK jM (iQ Ja rfl vJ Ep (aD (wI sV (aC 2) aM) aJ)) (iQ Ja rfl vJ Ep (aD (wI Lc (aC 2) aM) aJ)))) aQ))) vc
theorem I0 {nX : Addr} {mP : FuncData} (fD : Fun K "_law_word" "_law_word" gZ nX mP) {oT : Addr} {nE : FuncData} (eZ : Fun K "_law_stand" "_law_stand" iF oT nE) (jP : Binds K nE lV []) (jV : mg "_law_stand" = some (.ref oT)) (kE : FnOk P w K mg base aT 1 oT nE lV (LSp K 2 fU)) (mT : mg "isinstance" = none) (cF : mg "tuple" = none)
  (vc : ∀ ds m R, ds.length = kX.length → fO ds m R → lO { nx := fun _ m => R (.dat .none) m, rt := R } (aX Du ds) m) : FnOk P w K mg base aT 2 nX mP kX (LSp K 2 fO) :=
 cP (k := 1) fD Gx (body := lO) (fun cdv A outer s H E hr => have nd := (Gx).nd; (aI (bI 2 nd (J5 (vD rfl mT rfl cF fR (Or.inr (Or.inr (Or.inr (Or.inl rfl)))) (bJ (aC 0) aM)) (Qu (vD rfl mT rfl cF fR (Or.inr (Or.inr (Or.inr (Or.inl rfl)))) (bJ (aC 1) aM))))) (aI (bI 3 nd (Nz (rN (vD rfl mT rfl cF fR (Or.inr (Or.inr (Or.inr (Or.inl rfl)))) (bJ (aC 0) aM))) (aC 0) (cV (aD (aC 0) (aD (aC 0) aJ))))) (aI (bI 4 nd (Nz (rN (vD rfl mT rfl cF fR (Or.inr (Or.inr (Or.inr (Or.inl rfl)))) (bJ (aC 1) aM))) (aC 1) (cV (aD (aC 1) (aD (aC 1) aJ))))) (aI (cM (bV Lc (bA kE (hr.mono (by decide)) jV eZ.kp jP rfl (aD (bJ (aC 3) aM) (aD (bJ (aC 4) aM) aJ))) aM) (aI (bM bB) aQ) aQ) (aI (cM (bV sV (bA kE (hr.mono (by decide)) jV eZ.kp jP rfl (aD (bJ (aC 3) aM) (aD (bJ (aC 4) aM) aJ))) aM) (aI (bM bB) aQ) aQ) (aI (cM (QW.pt (Ej (rN (aC 2)) (wT (bV (dX hr.u100) (bA kE (hr.mono (by decide)) jV eZ.kp jP rfl (aD (bJ (aC 3) aM) (aD (bJ (aC 4) aM) aJ))) aM)))) (aI (bM bB) aQ) aQ) (aI (cM (QW.pt (Ej (rN (aC 2)) (wT (bV (dX hr.u100) (bA kE (hr.mono (by decide)) jV eZ.kp jP rfl (aD (bJ (aC 3) aM) (aD (bJ (aC 4) aM) aJ))) aM)))) (aI (bM bB) aQ) aQ) (aI (bI 5 nd (cV (aD (cV (aD bB (aD bB (aD bB aJ)))) (aD (cV (aD bB (aD bB (aD bB aJ)))) (aD (cV (aD bB (aD bB (aD bB aJ)))) aJ))))) (aI (bM (bJ (bJ (aC 5) (bK dH aM (bA kE (hr.mono (by decide)) jV eZ.kp jP rfl (aD (bJ (aC 3) aM) (aD (bJ (aC 4) aM) aJ))))) (bK dH aM (bA kE (hr.mono (by decide)) jV eZ.kp jP rfl (aD (bJ (aC 3) aM) (aD (bJ (aC 4) aM) aJ)))))) aQ)))))))))) vc
theorem S7 {iB : Addr} {gK : FuncData} (iE : Fun K "_law_words" "_law_words" fP iB gK) 
  (vc : ∀ ds m R, ds.length = iO.length → mF ds m R → sI { nx := fun _ m => R (.dat .none) m, rt := R } (aX Cb ds) m) : FnOk P w K mg base aT 1 iB gK iO (LSp K 1 mF) :=
 cP (k := 0) iE Mj (body := sI) (fun cdv A outer s H E hr => have nd := (Mj).nd; (aI (cM (bV (dX hr.u100) (aC 0) (cV (aD bB (aD bB aJ)))) (aI (bI 1 nd (gI (aD bB (aD bB (aD bB (aD bB (aD bB (aD bB (aD bB aJ))))))))) (aI (bM (bK dH (aC 1) (gI (aD bB (aD bB (aD bB (aD bB (aD bB (aD bB aJ))))))))) aQ)) aQ) (aI (cM (bV (dX hr.u100) (aC 0) (cV (aD bB (aD bB aJ)))) (aI (bM (gI (aD bB (aD bB (aD bB aJ))))) aQ) aQ) (aI (cM (bV (dX hr.u100) (bJ (aC 0) aM) bB) (aI (bM (gI (aD bB (aD bB (aD bB (aD bB (aD bB aJ))))))) aQ) aQ) (aI (bM (gI (aD bB (aD bB (aD bB (aD bB (aD bB aJ))))))) aQ))))) vc
theorem Te {nN : Addr} {pF : FuncData} (lW : Fun K "_law_kinds" "_law_kinds" gX nN pF) {dC : Addr} {dD : FuncData} (cD : Fun K "_law_draw" "_law_draw" eM dC dD) (cO : Binds K dD eG []) (cQ : mg "_law_draw" = some (.ref dC)) (cJ : FnOk P w K mg base aT 1 dC dD eG (LSp K 2 cK)) (fI : mg "range" = none) (cF : mg "tuple" = none)
  (vc : ∀ ds m R, ds.length = mJ.length → rV ds m R → wG { nx := fun _ m => R (.dat .none) m, rt := R } (aX wU ds) m) : FnOk P w K mg base aT 2 nN pF mJ (LSp K 2 rV) :=
 cP (k := 1) lW Jy (body := wG) (fun cdv A outer s H E hr => have nd := (Jy).nd; (aI (Dk 2 ["_law_k", "_law_feed_here"] [none, some 0] rfl nd (qC rfl fI (aC 1)) (fun cl C s2 H2 pins fp => (cE 0 Rz)) (fun cl C s2 H2 pins fp => mV) (fun cl C s2 H2 pins fp => (bJ (gI (aD bB (aD bB aJ))) (bA cJ (hr.mono (by decide)) cQ cD.kp cO rfl (aD (aC 1) (aD aM aJ)))))) (aI (cM (bV (dX hr.u100) (bA cJ (hr.mono (by decide)) cQ cD.kp cO rfl (aD (aC 0) (aD aM aJ))) aM) (aI (Dk 2 ["_law_k"] [none] rfl nd (qC rfl fI (aC 1)) (fun cl C s2 H2 pins fp => (cE 0 Qp)) (fun cl C s2 H2 pins fp => mV) (fun cl C s2 H2 pins fp => bB)) aQ) aQ) (aI (bM (iQ lR rfl cF fR (aD (aC 2) aJ))) aQ)))) vc
theorem Tf {oG : Addr} {oX : FuncData} (mI : Fun K "_law_may" "_law_may" gW oG oX) {iB : Addr} {gK : FuncData} (iE : Fun K "_law_words" "_law_words" fP iB gK) (nK : Binds K gK iO []) (oJ : mg "_law_words" = some (.ref iB)) (nR : FnOk P w K mg base aT 1 iB gK iO (LSp K 1 mF)) {dC : Addr} {dD : FuncData} (cD : Fun K "_law_draw" "_law_draw" eM dC dD) (cO : Binds K dD eG []) (cQ : mg "_law_draw" = some (.ref dC)) (cJ : FnOk P w K mg base aT 1 dC dD eG (LSp K 2 cK)) (eE : mg "len" = none) (cF : mg "tuple" = none)
  (vc : ∀ ds m R, ds.length = kS.length → rB ds m R → uO { nx := fun _ m => R (.dat .none) m, rt := R } (aX wV ds) m) : FnOk P w K mg base aT 2 oG oX kS (LSp K 2 rB) :=
 cP (k := 1) mI Nm (body := uO) (fun cdv A outer s H E hr => have nd := (Nm).nd; (aI (bI 2 nd (bA nR (hr.mono (by decide)) oJ iE.kp nK rfl (aD (aC 1) aJ))) (aI (bI 3 nd (bK dH aM (bA cJ (hr.mono (by decide)) cQ cD.kp cO rfl (aD (aC 0) (aD aM aJ))))) (aI (Dk 4 ["_law_word_here", "_law_feed_here", "_law_piece"] [none, some 0, some 3] rfl nd (iW (aC 2)) (fun cl C s2 H2 pins fp => (cE 0 X0)) (fun cl C s2 H2 pins fp => (wS (bV (dX hr.u100) (bA cJ (hr.mono (by decide)) cQ cD.kp cO rfl (aD (aC 1) (aD (aC 2) aJ))) aM))) (fun cl C s2 H2 pins fp => (aC 0))) (aI (bI 5 nd (bA cJ (hr.mono (by decide)) cQ cD.kp cO rfl (aD (aC 0) (aD aM aJ)))) (aI (cM (bV (dX hr.u100) (aC 5) aM) (aI (bI 4 nd (gI (aD (bJ (aC 2) (bA cJ (hr.mono (by decide)) cQ cD.kp cO rfl (aD (aC 0) (aD (eB pM rfl eE lG (aD (aC 2) aJ)) aJ)))) aJ))) aQ) aQ) (aI (cM (bV (dX hr.u100) (aC 5) aM) (aI (bI 4 nd (gI aJ)) aQ) aQ) (aI (bM (iQ lR rfl cF fR (aD (aC 4) aJ))) aQ)))))))) vc
theorem A7 {nC : Addr} {nP : FuncData} (lX : Fun K "_law_times" "_law_times" gJ nC nP) {pD : Addr} {mM : FuncData} (iK : Fun K "_law_fraction" "_law_fraction" gD pD mM) (qO : Binds K mM lF []) (rJ : mg "_law_fraction" = some (.ref pD)) (rH : FnOk P w K mg base aT 1 pD mM lF (LSp K 2 jQ)) {dC : Addr} {dD : FuncData} (cD : Fun K "_law_draw" "_law_draw" eM dC dD) (cO : Binds K dD eG []) (cQ : mg "_law_draw" = some (.ref dC)) (cJ : FnOk P w K mg base aT 1 dC dD eG (LSp K 2 cK))
  (vc : ∀ ds m R, ds.length = lB.length → pP ds m R → rS { nx := fun _ m => R (.dat .none) m, rt := R } (aX xZ ds) m) : FnOk P w K mg base aT 2 nC nP lB (LSp K 5 pP) :=
 cP (k := 1) lX Io (body := rS) (fun cdv A outer s H E hr => have nd := (Io).nd; (aI (cM (bV (dX hr.u100) (aC 1) bB) (aI (bM (bA rH (hr.mono (by decide)) rJ iK.kp qO rfl (aD (bK dH (aC 2) (bA cJ (hr.mono (by decide)) cQ cD.kp cO rfl (aD (aC 0) (aD (aC 3) aJ)))) (aD (aC 4) aJ)))) aQ) aQ) (aI (bI 5 nd (bA cJ (hr.mono (by decide)) cQ cD.kp cO rfl (aD (aC 0) (aD (bK jM (aC 3) aM) aJ)))) (aI (bI 6 nd (bK dH (bK dH (aC 5) aM) (bA cJ (hr.mono (by decide)) cQ cD.kp cO rfl (aD (aC 0) (aD (bK jM (bK jM (aC 3) aM) (aC 5)) aJ))))) (aI (bM (cV (aD (bA rH (hr.mono (by decide)) rJ iK.kp qO rfl (aD (bK dH (aC 2) (aC 5)) (aD (aC 4) aJ))) (aD (bA rH (hr.mono (by decide)) rJ iK.kp qO rfl (aD (bK dH (aC 2) (aC 6)) (aD (aC 4) aJ))) aJ)))) aQ))))) vc
theorem v7 {oV : Addr} {mU : FuncData} (lH : Fun K "_law_telling" "_law_telling" gS oV mU) {dC : Addr} {dD : FuncData} (cD : Fun K "_law_draw" "_law_draw" eM dC dD) (cO : Binds K dD eG []) (cQ : mg "_law_draw" = some (.ref dC)) (cJ : FnOk P w K mg base aT 1 dC dD eG (LSp K 2 cK)) {nC : Addr} {nP : FuncData} (lX : Fun K "_law_times" "_law_times" gJ nC nP) (Cv : Binds K nP lB []) (yO : mg "_law_times" = some (.ref nC)) (Ec : FnOk P w K mg base aT 2 nC nP lB (LSp K 5 pP)) (cF : mg "tuple" = none)
  (vc : ∀ ds m R, ds.length = mE.length → rL ds m R → uA { nx := fun _ m => R (.dat .none) m, rt := R } (aX Dr ds) m) : FnOk P w K mg base aT 3 oV mU mE (LSp K 2 rL) :=
 cP (k := 2) lH Et (body := uA) (fun cdv A outer s H E hr => have nd := (Et).nd; (aI (bI 2 nd (bK dH aM (bA cJ (hr.mono (by decide)) cQ cD.kp cO rfl (aD (aC 0) (aD aM aJ))))) (aI (bI 3 nd (bJ (gI (aD aM (aD aM (aD aM (aD aM (aD aM (aD aM aJ))))))) (bA cJ (hr.mono (by decide)) cQ cD.kp cO rfl (aD (aC 0) (aD aM aJ))))) (aI (bI 4 nd (bK jM (bJ (gI (aD aM (aD aM (aD (Ua aM) (aD aM (aD aM aJ)))))) (bA cJ (hr.mono (by decide)) cQ cD.kp cO rfl (aD (aC 0) (aD aM aJ)))) (bA cJ (hr.mono (by decide)) cQ cD.kp cO rfl (aD (aC 0) (aD aM aJ))))) (aI (bM (iQ lR rfl cF fR (aD (rQ ["_law_name", "_law_kind", "_law_feed_here", "_law_many", "_law_bottom", "_law_base"] [none, none, some 0, some 2, some 3, some 4] rfl (iW (aC 1)) (fun cl C s2 H2 pins fp => (nY rfl (eD (cE 0 Kj) (eD (cE 1 Kj) nG)))) (fun cl C s2 H2 pins fp => mV) (fun cl C s2 H2 pins fp => (bA Ec (hr.mono (by decide)) yO lX.kp Cv rfl (aD (aC 2) (aD (aC 1) (aD (aC 5) (aD (aC 3) (aD (aC 4) aJ)))))))) aJ))) aQ))))) vc
theorem b6 {Fa : Addr} {Mw : FuncData} (Ci : Fun K "law" "law" fE Fa Mw) {mW : Addr} {nL : FuncData} (kI : Fun K "_law_feed" "_law_feed" hJ mW nL) (zY : Binds K nL mK []) (Bs : mg "_law_feed" = some (.ref mW)) (yY : FnOk P w K mg base aT 1 mW nL mK (LSp K 2 qZ)) {nN : Addr} {pF : FuncData} (lW : Fun K "_law_kinds" "_law_kinds" gX nN pF) (Ca : Binds K pF mJ []) (zE : mg "_law_kinds" = some (.ref nN)) (yA : FnOk P w K mg base aT 2 nN pF mJ (LSp K 2 rV)) {oV : Addr} {mU : FuncData} (lH : Fun K "_law_telling" "_law_telling" gS oV mU) (Dn : Binds K mU mE []) (Av : mg "_law_telling" = some (.ref oV)) (xS : FnOk P w K mg base aT 3 oV mU mE (LSp K 2 rL)) {nX : Addr} {mP : FuncData} (fD : Fun K "_law_word" "_law_word" gZ nX mP) (kA : Binds K mP kX []) (jW : mg "_law_word" = some (.ref nX)) (jH : FnOk P w K mg base aT 2 nX mP kX (LSp K 2 fO)) {eK : Addr} {eN : FuncData} (eC : Fun K "behind_words" "behind_words" eR eK eN) (fV : Binds K eN fG []) (fS : mg "behind_words" = some (.ref eK)) (fX : FnOk P w K mg base aT 4 eK eN fG (LSp K 3 fM)) {pN : Addr} {oB : FuncData} (jI : Fun K "fits_three" "fits_three" hR pN oB) (sZ : Binds K oB lI []) (tI : mg "fits_three" = some (.ref pN)) (vP : FnOk P w K mg base aT 5 pN oB lI (LSp K 4 pI)) {nF : Addr} {nJ : FuncData} (lD : Fun K "turned_may" "turned_may" iD nF nJ) (Ef : Binds K nJ lQ []) (Dz : mg "turned_may" = some (.ref nF)) (Ek : FnOk P w K mg base aT 2 nF nJ lQ (LSp K 1 qW)) {iB : Addr} {gK : FuncData} (iE : Fun K "_law_words" "_law_words" fP iB gK) (nK : Binds K gK iO []) (oJ : mg "_law_words" = some (.ref iB)) (nR : FnOk P w K mg base aT 1 iB gK iO (LSp K 1 mF)) {dC : Addr} {dD : FuncData} (cD : Fun K "_law_draw" "_law_draw" eM dC dD) (cO : Binds K dD eG []) (cQ : mg "_law_draw" = some (.ref dC)) (cJ : FnOk P w K mg base aT 1 dC dD eG (LSp K 2 cK)) {oG : Addr} {oX : FuncData} (mI : Fun K "_law_may" "_law_may" gW oG oX) (yZ : Binds K oX kS []) (yJ : mg "_law_may" = some (.ref oG)) (yX : FnOk P w K mg base aT 2 oG oX kS (LSp K 2 rB)) {oM : Addr} {mX : FuncData} (kY : Fun K "behind_mays" "behind_mays" gH oM mX) (Cs : Binds K mX kP []) (De : mg "behind_mays" = some (.ref oM)) (xK : FnOk P w K mg base aT 7 oM mX kP (LSp K 3 qG)) (kC : mg "repr" = none) (eE : mg "len" = none) (cF : mg "tuple" = none) (fI : mg "range" = none)
  (vc : ∀ ds m R, ds.length = vT.length → pO ds m R → vS { nx := fun _ m => R (.dat .none) m, rt := R } (aX Ee ds) m) : FnOk P w K mg base aT 8 Fa Mw vT (LSp K 1 pO) :=
 cP (k := 7) Ci Nk (body := vS) (fun cdv A outer s H E hr => have nd := (Nk).nd; (aI (kR PassesOwn.never rfl (qC rfl fI aM) (cE 1 nd) (aI (bI 2 nd (bA yY (hr.mono (by decide)) Bs kI.kp zY rfl (aD (aC 0) (aD (aC 1) aJ)))) (aI (bI 3 nd (bA yA (hr.mono (by decide)) zE lW.kp Ca rfl (aD (aC 2) (aD aM aJ)))) (aI (zJ (bA xS (hr.mono (by decide)) Av lH.kp Dn rfl (aD (aC 2) (aD (cV (aD (cV (aD bB (aD (bJ (aC 3) aM) aJ))) (aD (cV (aD bB (aD (bJ (aC 3) aM) aJ))) (aD (cV (aD bB (aD (bJ (aC 3) aM) aJ))) aJ)))) aJ))) (nY rfl (eD (cE 4 nd) (eD (cE 5 nd) (eD (cE 6 nd) nG))))) (aI (bI 7 nd (bA jH (hr.mono (by decide)) jW fD.kp kA rfl (aD (aC 4) (aD (aC 5) aJ)))) (aI (bI 8 nd (bA jH (hr.mono (by decide)) jW fD.kp kA rfl (aD (aC 5) (aD (aC 6) aJ)))) (aI (bI 9 nd (bA fX (hr.mono (by decide)) fS eC.kp fV rfl (aD (aC 3) (aD (aC 7) (aD (aC 8) aJ))))) (aI (cM (QW.pt (Fx (bV Tz (bA jH (hr.mono (by decide)) jW fD.kp kA rfl (aD (aC 4) (aD (aC 6) aJ))) (aC 9) (hm := by with_unfolding_all rfl)) (Ks (bV Wy (bA vP (hr.mono (by decide)) tI jI.kp sZ rfl (aD (aC 3) (aD (aC 7) (aD (aC 8) (aD (bA jH (hr.mono (by decide)) jW fD.kp kA rfl (aD (aC 4) (aD (aC 6) aJ))) aJ))))) iZ)))) (aI (bM iZ) aQ) aQ) (aI (bI 10 nd (bA fX (hr.mono (by decide)) fS eC.kp fV rfl (aD (M1 (aC 3)) (aD (bA jH (hr.mono (by decide)) jW fD.kp kA rfl (aD (aC 6) (aD (aC 5) aJ))) (aD (bA jH (hr.mono (by decide)) jW fD.kp kA rfl (aD (aC 5) (aD (aC 4) aJ))) aJ))))) (aI (cM (bV (uU hr.u100) (eB (mQ hr.u200 hr.gd) rfl kC oQ (aD (bA Ek (hr.mono (by decide)) Dz lD.kp Ef rfl (aD (aC 9) aJ)) aJ)) (eB (mQ hr.u200 hr.gd) rfl kC oQ (aD (aC 10) aJ))) (aI (bM iZ) aQ) aQ) (aI (bI 11 nd (bA nR (hr.mono (by decide)) oJ iE.kp nK rfl (aD (cV (aD (bJ (aC 3) aM) (aD (bJ (aC 3) aM) aJ))) aJ))) (aI (bI 12 nd (bJ (aC 11) (bA cJ (hr.mono (by decide)) cQ cD.kp cO rfl (aD (aC 2) (aD (eB pM rfl eE lG (aD (aC 11) aJ)) aJ))))) (aI (cM (bV (uU hr.u100) (eB (mQ hr.u200 hr.gd) rfl kC oQ (aD (bA vP (hr.mono (by decide)) tI jI.kp sZ rfl (aD (aC 3) (aD (aC 7) (aD (aC 8) (aD (aC 12) aJ))))) aJ)) (eB (mQ hr.u200 hr.gd) rfl kC oQ (aD (wI He (aC 12) (aC 9) (hm := by with_unfolding_all rfl)) aJ))) (aI (bM iZ) aQ) aQ) (aI (bI 13 nd (bA yX (hr.mono (by decide)) yJ mI.kp yZ rfl (aD (aC 2) (aD (rX (aC 3) tL (oH aM)) aJ)))) (aI (bI 13 nd (rX (rX (aC 13) (oH (bA cJ (hr.mono (by decide)) cQ cD.kp cO rfl (aD (aC 2) (aD (bK dH (eB pM rfl eE lG (aD (aC 13) aJ)) aM) aJ)))) tL) tL (oH aM))) (aI (bI 14 nd (bA xK (hr.mono (by decide)) De kY.kp Cs rfl (aD (aC 3) (aD (aC 13) (aD (cV (aD (aC 8) aJ)) aJ))))) (aI (bI 15 nd (Cn aJ)) (aI (kR PassesOwn.never rfl (iW (aC 13)) (cE 16 nd) (aI (Vt (O9 (aC 15) (bA fX (hr.mono (by decide)) fS eC.kp fV rfl (aD (aC 3) (aD (aC 16) (aD (aC 8) aJ)))))) aQ)) (aI (cM (bV (uU hr.u100) (eB (mQ hr.u200 hr.gd) rfl kC oQ (aD (aC 14) aJ)) (eB (mQ hr.u200 hr.gd) rfl kC oQ (aD (iQ lR rfl cF fR (aD (rQ ["_law_word_here", "_law_met"] [none, some 15] rfl (iW (aC 11)) (fun cl C s2 H2 pins fp => (cE 0 Y7)) (fun cl C s2 H2 pins fp => (wS (bV M9 (aC 0) (aC 1) (hm := by with_unfolding_all rfl)))) (fun cl C s2 H2 pins fp => (aC 0))) aJ)) aJ))) (aI (bM iZ) aQ) aQ) aQ))))))))))))))))))) (aI (bM iZ) aQ))) vc
end
end K08
namespace K08
open PySem PySem.Spec PyProof.Rows L2 DL K01
@[simp] theorem w9 : PyData.strOk (Str.ofString "point") = true := by decide +kernel
@[simp] theorem w8 : PyData.strOk (Str.ofString "stretch") = true := by decide +kernel
@[simp] theorem w6 (x : PyData) (xs : List PyData) : bR (x :: xs) 0 = some x := by simp [bR, dL]
@[simp] theorem x3 (x y : PyData) (xs : List PyData) : bR (x :: y :: xs) 1 = some y := by
 have : (1 : Int) < xs.length + 1 + 1 := by omega
 simp [bR, dL, this]
abbrev EN (R : DK) : Ends2 := { nx := fun _ m => R (.dat .none) m, rt := R }
theorem sz {n : Nat} (h : n ≤ 1000) : n ≤ sizeLine := Nat.le_trans h (by rw [sizeLine_eq]; decide)
theorem uF {m : Mu} {a : Addr} {x y z w : Int} : dW (bN m a (.l [.int x, .int y, .int z, .int w])) a := ⟨_, cX, x, y, z, w, rfl⟩
theorem v6 {ns : List Int} {i : Int} (h0 : 0 ≤ i) (h : i < (ns.length : Int)) : ∃ v : Int, bR (ns.map PyData.int) i = some (.int v) := by
 obtain ⟨k, rfl⟩ : ∃ k : Nat, i = k := ⟨i.toNat, by omega⟩
 have hk : k < ns.length := by omega
 exact ⟨ns[k], qX (by rw [List.getElem?_map, List.getElem?_eq_getElem hk] <;> rfl)⟩
theorem Yq : ∀ ds m R, ds.length = mK.length → qZ ds m R → qH { nx := fun _ m => R (.dat .none) m, rt := R } (aX xF ds) m := by
 rintro ds m R hl ⟨ns, k, rfl, hn, h0, h1, h⟩
 by_cases hz : ns.length = 0
 ·have e : ns = [] := List.length_eq_zero_iff.mp hz
  subst e; simp [zA, xN, qH, PyData.eqv, PyData.canLay0, PyData.depth]; exact ⟨sz (by decide), fun a _ => h a _ uF⟩
 ·have hz' : ¬ ((ns.length : Int) = 0) := by omega
  have hp : (0 : Int) < ns.length := by omega
  obtain ⟨v, hv⟩ := v6 (ns := ns) (i := k.fmod ns.length) (Int.fmod_nonneg_of_pos _ hp) (Int.fmod_lt_of_pos _ hp); simp [zA, xN, qH, PyData.eqv, PyData.canLay0, PyData.depth, hz', hz]; refine ⟨_, hv, ?_⟩; simp; exact ⟨sz (by decide), fun a _ => h a _ uF⟩
theorem nB {i j : Int} (h : Bd 64 i) : IntMulOk i j := IntMulOk.of_left (intBits_le_iff.mpr h)
theorem wD {x p : Int} (h : 0 < p) (hp : p ≤ 2147483629) : Bd 31 (x.fmod p) := by
 have h1 := Int.fmod_lt_of_pos x h
 have h2 := Int.fmod_nonneg_of_pos x h
 unfold Bd; have e : (2 : Nat) ^ 31 = 2147483648 := by decide
 omega
set_option exponentiation.threshold 3000 in
theorem uN {i : Int} {n : Nat} (h : i.natAbs < 2 ^ n := by decide) : Bd n i := h
theorem Xa : ∀ ds m R, ds.length = eG.length → cK ds m R → sM { nx := fun _ m => R (.dat .none) m, rt := R } (aX zV ds) m := by
 rintro ds m R hl ⟨a, n, rfl, h0, hb, ⟨xs, hm, f0, f1, f2, f3, rfl⟩, h⟩; simp [Kv, Mr, Ko, Fu, Nn, Kq, Ha, No, sM, bR, dL, hm, cX, and_assoc]
 by_cases hf : f0 ≤ 0
 ·left
  refine ⟨hf, nB uN, nB uN, (wD (by decide) (by decide)).mulOk (wD (by decide) (by decide)) (by decide), nB uN, (wD (by decide) (by decide)).mulOk (wD (by decide) (by decide)) (by decide), nB uN, by omega, ?_⟩
  exact h _ _ (Int.fmod_nonneg_of_pos _ h0) (Int.fmod_lt_of_pos _ h0) ⟨uF, fun c hc => by simp only [bP hc]⟩
 ·right
  refine ⟨by omega, by omega, Nat.lt_of_lt_of_le (hb.log (by decide)) (by decide), ?_⟩
  exact h _ _ (Int.fmod_nonneg_of_pos _ h0) (Int.fmod_lt_of_pos _ h0) ⟨uF, fun c hc => by simp only [bP hc]⟩
theorem Lr {xs : List PyData} {P : PyData → Prop} {r : Int} (h : ∀ p ∈ xs, P p) (h0 : 0 ≤ r) (h1 : r < (xs.length : Int)) : ∃ p, bR xs r = some p ∧ P p := by
 obtain ⟨k, rfl⟩ : ∃ k : Nat, r = k := ⟨r.toNat, by omega⟩
 have hk : k < xs.length := by omega
 exact ⟨xs[k], qX (List.getElem?_eq_getElem hk), h _ (List.getElem_mem hk)⟩
theorem rO {g : DG} {t : DT} {f : DE} {Q : List PyData → Mu → Prop} (J : List D → List PyData → aY → Mu → Prop) (fin : ∀ acc d m, J [] acc d m → Q acc m)
  (step : ∀ x xs acc d m (k : List PyData → aY → Mu → Prop), J (x :: xs) acc d m → (∀ acc' d' m', J xs acc' d' m' → k acc' d' m') → g x d m fun d1 m1 => t d1 m1 fun b m2 => if b = true then f d1 m2 fun y m3 => ∃ p, y = .dat p ∧ acc.length < sizeLine ∧ k (acc ++ [p]) d1 m3 else k acc d1 m2) :
  ∀ xs acc d m, J xs acc d m → cY g t f xs acc d m Q
 | [], acc, d, m, h => fin acc d m h
 | x :: xs, acc, d, m, h => step x xs acc d m (fun acc' d' m' => cY g t f xs acc' d' m' Q) h (rO J fin step xs)
theorem Sm : ∀ ds m R, ds.length = lV.length → fU ds m R → sL (EN R) (aX Cu ds) m := by
 rintro ds m R hl ⟨⟨a, b⟩, ⟨c, d⟩, rfl, b1, b2, b3, b4, h⟩; simp [sL, Fo, bR, dL, and_assoc]; refine ⟨b1.mulOk b4 (by decide), b3.mulOk b2 (by decide), ?_⟩
 simpa [aK, eL] using h
theorem Of (i j : Int) (hi : i = -1 ∨ i = 0 ∨ i = 1) (hj : j = -1 ∨ j = 0 ∨ j = 1) : ∃ xs, bR [PyData.tuple [.str "overlaps", .str "ended", .str "holds"], .tuple [.str "begins", .str "same", .str "begun"], .tuple [.str "within", .str "ends", .str "lapped"]] (1 + i) = some (.tuple xs) ∧ bR xs (1 + j) = some (.str (row i j)) := by
 rcases hi with rfl | rfl | rfl <;> rcases hj with rfl | rfl | rfl <;> exact ⟨_, rfl, rfl⟩
theorem rA (x : Int) : eL x = -1 ∨ eL x = 0 ∨ eL x = 1 := by
 unfold eL
 split <;> split <;> simp <;> omega
theorem pQ {x y : Int × Int} {m : Mu} {R : DK} (h1 : Bd 60 x.1 ∧ Bd 60 x.2) (h2 : Bd 60 y.1 ∧ Bd 60 y.2) (h : R (I (aK x y)) m) : fU [.dat (fq x), .dat (fq y)] m R := ⟨x, y, rfl, h1.1, h1.2, h2.1, h2.2, h⟩
theorem W3 {m : Mu} {R : DK} {x0 x1 z : Option D} {both : Bool} {a0 a1 b0 b1 : Int × Int} (h1 : Bd 60 a0.1 ∧ Bd 60 a0.2) (h2 : Bd 60 a1.1 ∧ Bd 60 a1.2) (h3 : Bd 60 b0.1 ∧ Bd 60 b0.2) (h4 : Bd 60 b1.1 ∧ Bd 60 b1.2)
  (h : R (.dat (.str (wd both a0 a1 b0 b1))) m) : Bf (EN R) [x0, x1, some (.dat (.bool both)), some (.dat (.tuple [fq a0, fq a1])), some (.dat (.tuple [fq b0, fq b1])), z] m := by
 obtain ⟨xs, r1, r2⟩ := Of (aK a0 b0) (aK a1 b1) (rA _) (rA _); unfold wd wc at h; simp [Bf]; refine pQ h2 h3 ?_
 by_cases c1 : aK a1 b0 < 0
 ·rw [if_pos c1] at h; simp [c1]; exact h
 rw [if_neg c1] at h; simp [c1, Kl]; refine pQ h1 h4 ?_
 by_cases c2 : 0 < aK a0 b1
 ·rw [if_pos c2] at h; simp [c2]; exact h
 rw [if_neg c2] at h; simp [c2, Kf]; have last : R (.dat (.str (row (aK a0 b0) (aK a1 b1)))) m → yC (EN R) [x0, x1, some (.dat (.bool both)), some (.dat (.tuple [fq a0, fq a1])), some (.dat (.tuple [fq b0, fq b1])), z] m := fun h => by
  simp [yC, Fm, sz]; refine pQ h1 h3 ⟨_, r1, ?_⟩; exact pQ h2 h4 ⟨_, r2, h⟩
 cases both with
 | false =>
  simp [Cf]; exact last (by simpa using h)
 | true =>
  simp; refine pQ h2 h3 ?_
  by_cases c3 : aK a1 b0 = 0
  ·rw [if_pos ⟨rfl, c3⟩] at h; simp [c3, PyData.eqv, PyData.canLay0, PyData.depth]; exact h
  rw [if_neg (fun q => c3 q.2)] at h; simp [c3, Cf, PyData.eqv, PyData.canLay0, PyData.depth]; refine pQ h1 h4 ?_
  by_cases c4 : aK a0 b1 = 0
  ·rw [if_pos ⟨rfl, c4⟩] at h; simp [c4, PyData.eqv, PyData.canLay0, PyData.depth]; exact h
  rw [if_neg (fun q => c4 q.2)] at h; simp [c4, PyData.eqv, PyData.canLay0, PyData.depth]; exact last h
theorem Xd : ∀ ds m R, ds.length = kX.length → fO ds m R → lO (EN R) (aX Du ds) m := by
 rintro ds m R hl ⟨p, q, k, l, a0, a1, b0, b1, rfl, ha, hb, h⟩; have e1 := ha.eq
 have e2 := hb.eq
 subst e1 e2; have W := fun x0 x1 z => W3 (x0 := x0) (x1 := x1) (z := z) (R := R) (m := m) (both := k && l) ⟨ha.b1, ha.b2⟩ ⟨ha.b3, ha.b4⟩ ⟨hb.b1, hb.b2⟩ ⟨hb.b3, hb.b4⟩ h
 cases k with
 | true =>
  cases l with
  | true =>
   simp [lO, qD, rT, sz]; exact W _ _ _
  | false =>
   cases hb.pt rfl
   simp [lO, qD, rT, sz]; exact W _ _ _
 | false =>
  cases ha.pt rfl
  cases l with
  | true =>
   simp [lO, qD, rT, sz]; exact W _ _ _
  | false =>
   cases hb.pt rfl
   simp [lO, qD, rT, sz]; exact W _ _ _
theorem Ux : ∀ ds m R, ds.length = iO.length → mF ds m R → sI (EN R) (aX Cb ds) m := by
 rintro ds m R hl ⟨k, l, rfl, h⟩
 cases k <;> cases l <;> simp (decide := true) [sI, Gd, Nv, Ls, Mt, Gc, kd, PyData.eqv, PyData.eqvAll, PyData.canLay0, PyData.canLayAll0, PyData.depth, PyData.depthAll, bR, dL, and_assoc, sz] <;> exact h
theorem S8 : ∀ z ∈ cU, dS vI z = some (.tuple ((w4 z).map .int)) ∧ ∃ a b c d, w4 z = [a, b, c, d] := by
 intro z hz; unfold cU at hz; simp only [List.mem_cons, List.not_mem_nil, or_false] at hz; rcases hz with rfl | rfl | rfl | rfl | rfl | rfl | rfl | rfl | rfl | rfl | rfl | rfl | rfl <;> exact ⟨rfl, _, _, _, _, rfl⟩
theorem V3 : ∀ ds m R, ds.length = iV.length → iI ds m R → vV (EN R) (aX Cm ds) m := by
 rintro ds m R hl ⟨k, l, z, rfl, hz, h⟩; obtain ⟨v, a, b, c, d, e⟩ := S8 z hz; unfold vV; simp only [aF, aV, kH, aA, aX]; refine ⟨_, rfl, z, _, rfl, v, ?_⟩; unfold WB at h; rw [e] at h ⊢
 cases k <;> cases l <;> simp (decide := true) [Ji, Ey, Hv, kd, PyData.eqv, PyData.eqvAll, PyData.canLay0, PyData.canLayAll0, PyData.depth, PyData.depthAll, bR, dL, and_assoc, sz] at h ⊢
 all_goals exact h
theorem jR (k l : Bool) : ∀ z ∈ WS k l, z ∈ cU := by cases k <;> cases l <;> decide +kernel
theorem Gj {i : Int} (h0 : -100000000 ≤ i) (h1 : i ≤ 100000000) : Bd 64 i := by
 unfold Bd; have e : (2 : Nat) ^ 64 = 18446744073709551616 := by decide
 omega
theorem xD {n i : Nat} (h : i < n) : (dG 0 n).drop i = I (i : Int) :: (dG 0 n).drop (i + 1) := by
 have hl : i < (dG 0 n).length := by unfold dG; simpa using h
 rw [List.drop_eq_getElem_cons hl]
 congr 1
 unfold dG; simp
theorem Ob {n : Nat} : (dG 0 n).drop n = [] := by
 rw [List.drop_eq_nil_iff]; unfold dG; simp
theorem Z6 {g : DG} {t : DT} {f : DE} {Q : List PyData → Mu → Prop} {n : Nat} (J : Nat → List PyData → aY → Mu → Prop) (fin : ∀ acc d m, J n acc d m → Q acc m)
  (step : ∀ i acc d m (k : List PyData → aY → Mu → Prop), i < n → J i acc d m → (∀ acc' d' m', J (i + 1) acc' d' m' → k acc' d' m') → g (I (i : Int)) d m fun d1 m1 => t d1 m1 fun b m2 => if b = true then f d1 m2 fun y m3 => ∃ p, y = .dat p ∧ acc.length < sizeLine ∧ k (acc ++ [p]) d1 m3 else k acc d1 m2) :
  ∀ acc d m, J 0 acc d m → cY g t f (dG 0 n) acc d m Q := by
 intro acc d m h; refine rO (fun rest acc d m => ∃ i, i ≤ n ∧ rest = (dG 0 n).drop i ∧ J i acc d m) ?_ ?_ _ _ _ _ ⟨0, Nat.zero_le _, rfl, h⟩
 ·rintro acc d m ⟨i, hi, e, hj⟩; have : i = n := by
   have := congrArg List.length e
   unfold dG at this; simp at this; omega
  subst this; exact fin _ _ _ hj
 ·rintro x xs acc d m k ⟨i, hi, e, hj⟩ hk; have hlt : i < n := by
   have := congrArg List.length e
   unfold dG at this; simp at this; omega
  rw [xD hlt] at e; obtain ⟨rfl, rfl⟩ := List.cons.inj e; exact step i acc d m k hlt hj fun acc' d' m' h' => hk _ _ _ ⟨i + 1, hlt, rfl, h'⟩
theorem Sl {g : DG} {b : DS} {E : Ends2} {n : Nat} (J : Nat → aY → Mu → Prop) (hd : ∀ d m, J n d m → E.nx d m)
  (step : ∀ i, i < n → ∀ (k : aY → Mu → Prop), (∀ d m, J (i + 1) d m → k d m) → ∀ d m, J i d m → g (I (i : Int)) d m fun d' m' => b { E with nx := k, ct := k, bk := E.nx } d' m') : ∀ d m, J 0 d m → dP g b E (dG 0 n) d m := by
 have key : ∀ (r i : Nat), r + i = n → ∀ d m, J i d m → dP g b E ((dG 0 n).drop i) d m := by
  intro r
  induction r with
  | zero =>
   intro i hi d m hj; have : i = n := by omega
   subst this; rw [Ob]; exact hd d m hj
  | succ r ih =>
   intro i hi d m hj; rw [xD (by omega)]
   exact step i (by omega) _ (ih (i + 1) (by omega)) d m hj
 intro d m h; have := key n 0 (by omega) d m h
 simpa using this
theorem Fd.trans {m m1 m2 : Mu} {a : Addr} (h : Fd m m1 a) (g : Fd m1 m2 a) : Fd m m2 a := ⟨g.1, fun c hc => (g.2 c hc).trans (h.2 c hc)⟩
theorem Kn.refl {m : Mu} : Kn m m := fun _ _ => rfl
theorem Kn.trans {m m1 m2 : Mu} (h : Kn m m1) (g : Kn m1 m2) : Kn m m2 := fun c hc => by
 have e := h c hc
 rw [g c (by rw [e]; exact hc), e]
theorem Kn.new {m m1 : Mu} {c : Addr} {x : Cel} (h : Kn m m1) (hc : m c = none) : Kn m (bN m1 c x) := fun y hy => by
 have ne : y ≠ c := by rintro rfl; rw [hc] at hy; cases hy
 rw [bP ne]; exact h y hy
theorem iT {a : Addr} {n : Int} {m : Mu} {R : DK} (h0 : 0 < n) (hb : n < 1000000) (hf : dW m a) (h : ∀ (r : Int) m', 0 ≤ r → r < n → Fd m m' a → R (I r) m') : cK [.cel a, I n] m R := by
 refine ⟨a, n, rfl, h0, ?_, hf, h⟩; refine Bd.mono (m := 20) ?_ (by decide)
 unfold Bd; have e : (2 : Nat) ^ 20 = 1048576 := by decide
 omega
theorem jN (k l : Bool) : 1 ≤ (WS k l).length ∧ (WS k l).length ≤ 13 := by cases k <;> cases l <;> decide
theorem Kk {g : DE} {pr : Str → Bool} {ws : List Str} {d1 : aY} {m : Mu} {o : Option D} {op : D2} {f : DE} {Q : List PyData → Mu → Prop} (hn : ws.length ≤ 13) (ht : ∀ (z : Str) (Q' : Bool → Mu → Prop), z ∈ ws → Q' (pr z) m → bH (aG op f g) (some (.dat (.str z)) :: d1) m Q') (h : Q ((ws.filter pr).map .str) m) :
  cY (gN 0) (bH (aG op f g)) (aA 0) (ws.map (D.dat ∘ PyData.str)) [] (o :: d1) m Q := by
 refine rO (fun rest acc d m' => m' = m ∧ (∃ o, d = o :: d1) ∧ ∃ done todo, ws = done ++ todo ∧ rest = todo.map (D.dat ∘ PyData.str) ∧ acc = (done.filter pr).map .str) ?_ ?_ _ _ _ _ ⟨rfl, ⟨o, rfl⟩, [], ws, rfl, rfl, rfl⟩
 ·rintro acc d m' ⟨rfl, _, done, todo, e1, e2, rfl⟩; have e3 : todo = [] := by simpa using e2.symm
  subst e3; rw [List.append_nil] at e1; rw [← e1]; exact h
 ·rintro x xs acc d m' k ⟨rfl, ⟨o, rfl⟩, done, todo, e1, e2, rfl⟩ hk
  cases todo with
  | nil => simp at e2
  | cons z todo =>
   obtain ⟨rfl, rfl⟩ := List.cons.inj e2; have hln : (done.filter pr).length < 14 := by
    have := congrArg List.length e1
    have q := List.length_filter_le pr done
    simp at this; omega
   have e3 : ws = (done ++ [z]) ++ todo := by rw [e1]; simp
   show bH (aG op f g) (some (.dat (.str z)) :: d1) m' _
   refine ht z _ (by rw [e1]; simp) ?_
   cases c : pr z with
   | true =>
    simp; exact ⟨Nat.lt_of_lt_of_le hln (sz (by decide)), hk _ _ _ ⟨rfl, ⟨_, rfl⟩, done ++ [z], todo, e3, rfl, by simp [c]⟩⟩
   | false =>
    simp; exact hk _ _ _ ⟨rfl, ⟨_, rfl⟩, done ++ [z], todo, e3, rfl, by simp [c]⟩
theorem V7 : ∀ ds m R, ds.length = iP.length → lA ds m R → tU (EN R) (aX Ao ds) m := by
 rintro ds m R hl ⟨k, l, rfl, h⟩; unfold tU; simp only [aF, bF, sF, aA, aE, aX]; refine ⟨_, rfl, [kd k, kd l], rfl, ?_⟩
 cases k <;> cases l <;> exact h
end K08
namespace K08
open PySem PySem.Spec PyProof.Rows L2 DL K01
theorem P9 : ∀ ds m R, ds.length = lC.length → qJ ds m R → wO (EN R) (aX Da ds) m := by
 rintro ds m R hl ⟨a, b, rfl, h⟩; unfold fF at h; simp [wO, PyData.eqv, PyData.canLay0, PyData.depth]
 by_cases c1 : a = 0
 ·rw [if_pos c1] at h; exact .inr ⟨c1, h⟩
 ·rw [if_neg c1] at h; refine .inl ⟨c1, ?_⟩; simp [Ft, PyData.eqv, PyData.canLay0, PyData.depth]
  by_cases c2 : b = 0 ∨ b = a
  ·rw [if_pos c2] at h
   by_cases c3 : b = 0
   ·exact .inr ⟨c3, h⟩
   ·refine .inl ⟨c3, .inr ⟨by rcases c2 with q | q; exact absurd q c3; exact q, h⟩⟩
  ·rw [if_neg c2] at h; refine .inl ⟨fun q => c2 (.inl q), .inl ⟨fun q => c2 (.inr q), ?_⟩⟩; simp [Ku]; exact h
theorem j5 : ∀ ds m R, ds.length = mB.length → pK ds m R → uM (EN R) (aX Aq ds) m := by
 rintro ds m R hl ⟨xs, ys, rfl, h⟩; simp only [uM, aF, eF, wQ, aA]; refine ⟨_, rfl, _, rfl, _, _, rfl, rfl, ?_⟩; have e : ((xs.map PyData.int).zip (ys.map PyData.int)) = (xs.zip ys).map fun z => (PyData.int z.1, PyData.int z.2) := by
  rw [List.zip_map]; rfl
 rw [e, List.map_map]
 generalize hps : xs.zip ys = ps at h
 have key : ∀ (ps : List (Int × Int)) (o2 o3 o4 : Option D), R (.dat (oD (bL ps))) m → dP (gT 2 (dF (gN 2) (dF (gN 3) fW))) sP { nx := zZ (EN R), rt := R } (ps.map ((fun z => D.dat (PyData.tuple [z.1, z.2])) ∘ fun z => (PyData.int z.1, PyData.int z.2))) [some (.dat (.tuple (xs.map .int))), some (.dat (.tuple (ys.map .int))), o2, o3, o4] m := by
  intro ps
  induction ps with
  | nil =>
   intro o2 o3 o4 h; simp [dP, zZ]; exact h
  | cons p ps ih =>
   intro o2 o3 o4 h; simp only [List.map_cons, dP]
   generalize hG : dP _ sP _ (ps.map _) = G at ih ⊢
   simp [sP]; refine ⟨p.1, p.2, rfl, ?_⟩; simp only [bL] at h
   cases c : fF p.1 p.2 with
   | none =>
    simp [zP, oD]; exact ih _ _ _ (by simpa [c] using h)
   | some i =>
    simp [zP, oD]; simpa [c, oD] using h
 exact key ps _ _ _ h
theorem Os (fs : List (Option Int)) : eI fs [] = true := by
 cases fs with
 | nil => rfl
 | cons f r => cases f <;> rfl
theorem T7 : ∀ ds m R, ds.length = mD.length → nS ds m R → uB (EN R) (aX yP ds) m := by
 rintro ds m R hl ⟨fs, ws, rfl, f4, w4', h⟩; simp only [uB, aF, eF, tT, aA]; refine ⟨_, rfl, _, rfl, _, _, rfl, rfl, ?_⟩; have key : ∀ (fs : List (Option Int)) (ws : List Int) (x0 x1 o2 o3 : Option D), R (.dat (.bool (eI fs ws))) m → dP (gT 2 (dF (gN 2) (dF (gN 3) fW))) qI { nx := vF (EN R), rt := R } (((fs.map oD).zip (ws.map PyData.int)).map fun z => .dat (.tuple [z.1, z.2])) [x0, x1, o2, o3] m := by
  intro fs
  induction fs with
  | nil =>
   intro ws x0 x1 o2 o3 h; simp [dP, vF]; exact h
  | cons f fs ih =>
   intro ws x0 x1 o2 o3 h
   cases ws with
   | nil =>
    rw [Os] at h; simp [dP, vF]; exact h
   | cons w ws =>
    have ih := ih ws x0 x1
    simp only [List.map_cons, List.zip_cons_cons, dP]
    generalize hG : dP _ qI _ (((fs.map oD).zip (ws.map PyData.int)).map _) = G at ih ⊢
    cases f with
    | none =>
     simp [qI, oD]; exact ih _ _ h
    | some i =>
     simp only [eI] at h; simp [qI, oD, PyData.eqv, PyData.canLay0, PyData.depth]
     by_cases c : i = w
     ·refine .inl ⟨c, ih _ _ ?_⟩; simpa [c] using h
     ·refine .inr ⟨c, ?_⟩; simpa [c] using h
 exact key fs ws _ _ _ _ h
theorem kL (k : Bool) : 1 ≤ bO k ∧ bO k ≤ 2 := by cases k <;> decide
theorem Mg {st : rZ} {Q : List PyData → aY → Mu → Prop} {n : Nat} (J : Nat → List PyData → aY → Mu → Prop) (fin : ∀ acc d m, J n acc d m → Q acc d m)
  (step : ∀ i acc d m (K : List PyData → aY → Mu → Prop), i < n → J i acc d m → (∀ acc' d' m', J (i + 1) acc' d' m' → K acc' d' m') → st (I (i : Int)) acc d m K) : ∀ acc d m, J 0 acc d m → cH st (dG 0 n) acc d m Q := by
 have key : ∀ (r i : Nat), r + i = n → ∀ acc d m, J i acc d m → cH st ((dG 0 n).drop i) acc d m Q := by
  intro r
  induction r with
  | zero =>
   intro i hi acc d m hj; have : i = n := by omega
   subst this; rw [Ob]; exact fin acc d m hj
  | succ r ih =>
   intro i hi acc d m hj; rw [xD (by omega)]
   exact step i acc d m _ (by omega) hj fun acc' d' m' h' => ih (i + 1) (by omega) acc' d' m' h'
 intro acc d m h; have := key n 0 (by omega) acc d m h
 simpa using this
theorem Ck {α : Type} (f : Nat → Nat → α) {c : Nat} (hc : c ≤ 2) : ∀ x : Nat, (((List.range x).map fun i => (List.range c).map (f i)).flatten).length ≤ 2 * x
 | 0 => by simp
 | x + 1 => by
  have ih := Ck f hc x
  rw [List.range_succ, List.map_append, List.flatten_append, List.length_append]; have e : (([x].map fun i => (List.range c).map (f i)).flatten).length = c := by simp
  rw [e]; omega
theorem Ly {α β : Type} (f : α → β) (xs : List α) (lo hi : Option Int) : cC (xs.map f) lo hi = (cC xs lo hi).map f := by
 unfold cC; rw [List.length_map, List.map_take, List.map_drop]
theorem Gh {α β : Type} (f : α → β) (xs : List α) : ∀ is : List Nat, pick (xs.map f) is = (pick xs is).map f
 | [] => rfl
 | i :: is => by
  have ih := Gh f xs is
  unfold pick at ih ⊢; rw [List.filterMap_cons, List.filterMap_cons, List.getElem?_map, ih]
  cases xs[i]? <;> rfl
theorem Ab (l : Bool) : dS nT (kd l) = some (.int (bO l)) := by cases l <;> rfl
theorem Ac (k l : Bool) : ∀ z ∈ WS k l, (WB k l z).length = bO k * bO l := by cases k <;> cases l <;> decide +kernel
theorem Ze : ∀ ds m R, ds.length = kW.length → qS ds m R → uG (EN R) (aX Bk ds) m := by
 rintro ds m R hl ⟨k, l, n, z, w, rfl, hz, hw, h⟩; have lz := Ac k l z hz
 have lw := Ac l n w hw
 simp [uG]; simp [Kb, Ab]; simp [Lh, Ab]; simp [Hm, sz]; refine ⟨k, l, z, rfl, jR k l z hz, ?_⟩; simp [Fe, sz]; refine ⟨l, n, w, rfl, jR l n w hw, ?_⟩; simp [Hw, bT, Ab]; have ck := kL k
 have cl := kL l
 have cn := kL n
 refine ⟨by omega, ?_⟩
 have one : ∀ (x y : Nat) (Q : DK), x < bO k → y < bO n → Q (.dat (oD (hU k l n z w x y))) m → aU 2 pK (aB (jO (aA 4) (gO (aG eJ (aA 0) (aA 2))) (gO (aG eJ (aG dB (aA 0) (aE (PyData.int 1))) (aA 2)))) (aB (uH (aA 5) (aA 1) (aA 3)) aH))
   [some (I x), some (I y), some (I (bO l)), some (I (bO n)), some (.dat (.tuple ((WB k l z).map .int))), some (.dat (.tuple ((WB l n w).map .int)))] m Q := fun x y Q hx hy hq => by
  simp; refine ⟨nB (Gj (by omega) (by omega)), nB (Gj (by omega) (by omega)), ?_⟩
  have m1 : y ≤ (WB l n w).length := by
   rw [lw]; have := Nat.mul_le_mul_right (bO n) cl.1
   omega
  refine ⟨y, rfl, bO n, rfl, m1, cn.1, ?_⟩; rw [Ly, Gh]; exact ⟨_, _, rfl, hq⟩
 refine Mg (n := bO k) (fun i acc d m' => m' = m ∧ acc = (((List.range i).map fun x => (List.range (bO n)).map fun y => hU k l n z w x y).flatten).map oD ∧ ∃ o0 o1, d = [o0, o1, some (I (bO l)), some (I (bO n)), some (.dat (.tuple ((WB k l z).map .int))), some (.dat (.tuple ((WB l n w).map .int)))]) ?_ ?_ _ _ _ ⟨rfl, rfl, _, _, rfl⟩
 ·rintro acc d m' ⟨rfl, rfl, _⟩; exact h
 ·rintro x acc d m' K hx ⟨rfl, rfl, o0, o1, rfl⟩ hK; simp [fH]; refine ⟨by omega, ?_⟩
  refine Mg (n := bO n) (fun j acc d m'' => m'' = m' ∧ acc = ((((List.range x).map fun x => (List.range (bO n)).map fun y => hU k l n z w x y).flatten) ++ (List.range j).map fun y => hU k l n z w x y).map oD ∧ ∃ o1, d = [some (I x), o1, some (I (bO l)), some (I (bO n)), some (.dat (.tuple ((WB k l z).map .int))), some (.dat (.tuple ((WB l n w).map .int)))]) ?_ ?_ _ _ _ ⟨rfl, by simp, _, rfl⟩
  ·rintro acc d m'' ⟨rfl, rfl, o1, rfl⟩; refine hK _ _ _ ⟨rfl, ?_, _, _, rfl⟩; rw [List.range_succ]; simp
  ·rintro y acc d m'' K2 hy ⟨rfl, rfl, o1, rfl⟩ hK2; have al : ((((List.range x).map fun x => (List.range (bO n)).map fun y => hU k l n z w x y).flatten) ++ (List.range y).map fun y => hU k l n z w x y).length ≤ 10 := by
    have q := Ck (hU k l n z w) cn.2 x
    rw [List.length_append, List.length_map, List.length_range]; exact Nat.le_trans (Nat.add_le_add (show _ ≤ 2 * x from q) (Nat.le_of_lt hy)) (by omega)
   simp only [DL.stepI, gN, gG]; refine one x y _ hx hy ⟨_, rfl, ?_, hK2 _ _ _ ⟨rfl, ?_, _, rfl⟩⟩
   ·rw [List.length_map]; exact Nat.lt_of_lt_of_le (Nat.lt_succ_of_le al) (sz (by decide))
   ·rw [List.range_succ, List.map_append (f := fun y => hU k l n z w x y), ← List.append_assoc, List.map_append (f := oD) (l₂ := [y].map _)]; rfl
theorem D4 (k l n : Bool) (z w : Str) : (FW k l n z w).length ≤ 4 := by
 have q := Ck (hU k l n z w) (kL n).2 (bO k)
 have := kL k
 exact Nat.le_trans (show (FW k l n z w).length ≤ 2 * bO k from q) (by omega)
theorem Vo (k l : Bool) : ∀ z ∈ WS k l, (WB k l z).length ≤ 4 := fun z hz => by
 rw [Ac k l z hz]; exact Nat.mul_le_mul (kL k).2 (kL l).2
theorem Ps : ∀ ds m R, ds.length = fG.length → fM ds m R → uS (EN R) (aX Ax ds) m := by
 rintro ds m R hl ⟨k, l, n, z, w, rfl, hz, hw, h⟩; simp [uS]; simp [Ni, sz]; simp [Hd]; refine ⟨k, l, n, z, w, rfl, hz, hw, ?_⟩; simp [En, bT]; refine ⟨k, n, rfl, ?_⟩; simp; have lp : ∀ (todo done : List Str) (o0 : Option D), WS k n = done ++ todo → cY (gN 0) (bH (aU 2 nS (aB (aA 2) (aB (aU 2 iI (aB (aA 1) (aB (aA 0) aH))) aH)))) (aA 0) (todo.map (D.dat ∘ PyData.str)) ((done.filter fun u => eI (FW k l n z w) (WB k n u)).map .str) [o0, some (.dat (nU k n)), some (.dat (.list ((FW k l n z w).map oD)))] m (fun ps m2 => R (.dat (.tuple ps)) m2) := by
  intro todo
  induction todo with
  | nil =>
   intro done o0 e; rw [List.append_nil] at e; simp only [List.map_nil, cY]; unfold BW at h; rw [e] at h; exact h
  | cons u todo ih =>
   intro done o0 e; have ih := ih (done ++ [u]) (some (.dat (.str u))) (by rw [e]; simp)
   have hu : u ∈ WS k n := by rw [e]; simp
   have dl : (done.filter fun u => eI (FW k l n z w) (WB k n u)).length < 14 := by
    have q1 := congrArg List.length e
    have q2 := (jN k n).2
    have q3 := List.length_filter_le (fun u => eI (FW k l n z w) (WB k n u)) done
    simp at q1; omega
   simp only [List.map_cons, cY]
   generalize hG : cY _ _ _ (todo.map _) = G at ih ⊢
   simp; refine ⟨k, n, u, rfl, jR k n u hu, ?_⟩; refine ⟨FW k l n z w, WB k n u, rfl, D4 k l n z w, Vo k n u hu, ?_⟩
   cases c : eI (FW k l n z w) (WB k n u) with
   | true =>
    simp [c] at ih ⊢; exact ⟨Nat.lt_of_lt_of_le dl (sz (by decide)), ih⟩
   | false =>
    simp [c] at ih ⊢; exact ih
 exact lp (WS k n) [] none rfl
end K08
namespace K08
open PySem PySem.Spec PyProof.Rows L2 DL K01
theorem j4 {i : Int} (h0 : 0 ≤ i) (h1 : i < 2) : ∃ b, bR [PyData.str "point", .str "stretch"] i = some (.str (kd b)) := by
 obtain rfl | rfl : i = 0 ∨ i = 1 := by omega
 ·exact ⟨false, rfl⟩
 ·exact ⟨true, rfl⟩
theorem Y4 {α : Type} {xs : List α} (h : xs.length = 3) : ∃ a b c, xs = [a, b, c] := by
 match xs, h with
 | [a, b, c], _ => exact ⟨a, b, c, rfl⟩
theorem Sk : ∀ ds m R, ds.length = mJ.length → rV ds m R → wG (EN R) (aX wU ds) m := by
 rintro ds m R hl ⟨a, rfl, hf, h⟩; simp [wG, bT]; refine Z6 (n := 3) (fun i acc d m' => ∃ ks : List Bool, ks.length = i ∧ acc = ks.map (fun k => .str (kd k)) ∧ dW m' a ∧ (∀ c, c ≠ a → m' c = m c) ∧ ∃ o, d = [o, some (.cel a)]) ?_ ?_ _ _ _ ⟨[], rfl, rfl, hf, fun _ _ => rfl, _, rfl⟩
 ·rintro acc d m1 ⟨ks, kl, rfl, hf1, fr1, _⟩; simp [Hq]; refine iT (by decide) (by decide) hf1 fun r m2 r0 r1 hf2 => ?_
  have fd : Fd m m2 a := ⟨hf2.1, fun c hc => (hf2.2 c hc).trans (fr1 c hc)⟩
  obtain ⟨k, l, n, rfl⟩ := Y4 kl; simp [PyData.eqv, PyData.canLay0, PyData.depth, bT]
  by_cases c : r = 0
  ·refine .inr ⟨c, ?_⟩; simp [dG, List.range_succ, cY]; refine ⟨by rw [sizeLine_eq]; decide, by rw [sizeLine_eq]; decide, by rw [sizeLine_eq]; decide, ?_⟩
   simp [Db]; exact h true true true m2 fd
  ·refine .inl ⟨c, ?_⟩; simp [Db]; exact h k l n m2 fd
 ·rintro i acc d m1 K hi ⟨ks, kl, rfl, hf1, fr1, o, rfl⟩ hK; simp [sz]; refine iT (by decide) (by decide) hf1 fun r m2 r0 r1 hf2 => ?_
  obtain ⟨b, eb⟩ := j4 r0 r1; refine ⟨_, eb, _, rfl, ?_, hK _ _ _ ⟨ks ++ [b], by simp [kl], by simp, hf2.1, fun c hc => (hf2.2 c hc).trans (fr1 c hc), _, rfl⟩⟩
  exact Nat.lt_of_lt_of_le (show ks.length < 10 by omega) (sz (by decide))
end K08
namespace K08
open PySem PySem.Spec PyProof.Rows L2 DL K01
theorem N4 : ∀ ds m R, ds.length = kS.length → rB ds m R → uO (EN R) (aX wV ds) m := by
 rintro ds m R hl ⟨a, k, l, rfl, hf, h⟩; obtain ⟨w1, w2⟩ := jN k l; have h : ∀ sel m', List.Sublist sel (WS k l) → Fd m m' a → R (.dat (.tuple (sel.map .str))) m' := fun sel m' hs fd => h sel m' (Nat.le_trans hs.length_le w2) (fun z hz => hs.subset hz) fd
 simp [uO]; refine ⟨k, l, rfl, ?_⟩; simp [Gp]; refine iT (by decide) (by decide) hf fun r m1 r0 r1 hf1 => ?_
 simp [Jp, bT]; refine rO (fun rest acc d m' => Fd m m' a ∧ (∃ o, d = [o, some (.cel a), some (I (1 + r))]) ∧ ∃ done todo sel, WS k l = done ++ todo ∧ rest = todo.map (fun z => .dat (.str z)) ∧ acc = sel.map .str ∧ List.Sublist sel done) ?_ ?_ _ _ _ _ ⟨hf1, ⟨none, rfl⟩, [], WS k l, [], rfl, by simp, rfl, List.Sublist.refl _⟩
 ·rintro acc d m2 ⟨hf2, _, done, todo, sel, e1, e2, rfl, hs⟩; have e3 : todo = [] := by simpa using e2.symm
  subst e3; rw [List.append_nil] at e1; subst e1; simp [Gf]; refine iT (by decide) (by decide) hf2.1 fun way m3 _ _ hf3 => ?_
  have hf3 := hf2.trans hf3
  have fin : ∀ sel m', Fd m m' a → List.Sublist sel (WS k l) → Ah (EN R) [some (.cel a), some (.dat (nU k l)), some (.dat (.list ((WS k l).map .str))), some (I (1 + r)), some (.dat (.list (sel.map .str))), some (I way)] m' := fun sel m' hf' hs' => by
   simp [Ah]; exact h sel m' hs' hf'
  simp [Nt, Gk, PyData.eqv, PyData.canLay0, PyData.depth]
  by_cases c0 : way = 0
  ·right
   refine ⟨c0, iT (by omega) (by omega) hf3.1 fun q m4 q0 q1 hf4 => ?_⟩
   obtain ⟨j, rfl⟩ : ∃ j : Nat, q = j := ⟨q.toNat, by omega⟩
   have hj : j < (WS k l).length := by omega
   refine ⟨.str (WS k l)[j], qX (by rw [List.getElem?_map, List.getElem?_eq_getElem hj]; rfl), _, rfl, sz (by show 1 ≤ 1000; decide), .inl ⟨by omega, fin [(WS k l)[j]] m4 (hf3.trans hf4) (List.singleton_sublist.mpr (List.getElem_mem hj))⟩⟩
  ·left
   refine ⟨c0, ?_⟩
   by_cases c1 : way = 1
   ·exact .inr ⟨c1, fin [] m3 hf3 (List.nil_sublist _)⟩
   ·exact .inl ⟨c1, fin sel m3 hf3 hs⟩
 ·rintro x xs acc d m2 k2 ⟨hf2, ⟨o, rfl⟩, done, todo, sel, e1, e2, rfl, hs⟩ hk
  cases todo with
  | nil => simp at e2
  | cons z todo =>
   obtain ⟨rfl, rfl⟩ := List.cons.inj e2; have e3 : WS k l = (done ++ [z]) ++ todo := by rw [e1]; simp
   have hsl : sel.length < 14 := by
    have q1 := hs.length_le
    have q2 := congrArg List.length e1
    simp at q2; omega
   simp; refine iT (by omega) (by omega) hf2.1 fun q m3 _ _ hf3 => ?_
   simp [PyData.eqv, PyData.canLay0, PyData.depth]
   by_cases c : q = 0
   ·right
    refine ⟨c, Nat.lt_of_lt_of_le hsl (sz (by decide)), hk _ _ _ ⟨hf2.trans hf3, ⟨_, rfl⟩, done ++ [z], todo, sel ++ [z], e3, rfl, by simp, hs.append (List.Sublist.refl _)⟩⟩
   ·left
    exact ⟨c, hk _ _ _ ⟨hf2.trans hf3, ⟨_, rfl⟩, done ++ [z], todo, sel, e3, rfl, rfl, hs.trans (List.sublist_append_left _ _)⟩⟩
end K08
namespace K08
open PySem PySem.Spec PyProof.Rows L2 DL K01
theorem Yv : ∀ ds m R, ds.length = lS.length → qQ ds m R → vC (EN R) (aX xW ds) m := by
 rintro ds m R hl ⟨a, rfl, ha, h⟩; simp [vC]; intro c1 h1; have ac1 : a ≠ c1 := by rintro rfl; rw [ha] at h1; cases h1
 refine ⟨_, by rw [bP ac1]; exact ha, by decide, ?_⟩
 simp [Mo, putO]; intro c2 h2; have ac2 : a ≠ c2 := by rintro rfl; rw [cX] at h2; cases h2
 have c12 : c1 ≠ c2 := by rintro rfl; rw [bP ac1.symm, cX] at h2; cases h2
 rw [bP ac2.symm, bP c12.symm] at h2; refine ⟨_, by rw [bP ac2, cX], by simp, ?_⟩
 simp [putO, show ¬ (("by_words" : Str) = "by_mays") by decide]
 refine h c1 c2 _ h1 h2 (fun b n1 n2 n3 => by rw [bP n1, bP n3, bP n1, bP n2]) ⟨cX, ⟨[], by rw [bP ac1.symm, bP c12, bP ac1.symm, cX], Nat.le_refl _, fun ks x e => by cases e⟩, ac1⟩
theorem Yy (k : Bool) : PyData.strOk (kd k) = true := by cases k <;> decide +kernel
theorem Ht : ∀ z ∈ cU, PyData.strOk z = true := by decide +kernel
theorem wZ {k l : Bool} (h : kd k = kd l) : k = l := by
 cases k <;> cases l <;> first | rfl | exact absurd h (by decide)
theorem G0 {k l n : Bool} {z w : Str} (hz : z ∈ cU) (hw : w ∈ cU) : fJ (.dat (.tuple [dA k l n, .str z, .str w])) = some [dA k l n, .str z, .str w] := by
 simp [fJ, L2.isKs, L2.isK, Yy, Ht z hz, Ht w hw, PyData.depthAll, PyData.depth]
theorem D1 {k l n k' l' n' : Bool} {z w z' w' : Str} (h : ([dA k l n, .str z, .str w] : List PyData) = [dA k' l' n', .str z', .str w']) : k = k' ∧ l = l' ∧ n = n' ∧ z = z' ∧ w = w' := by
 simp at h; obtain ⟨⟨h1, h2, h3⟩, h4, h5⟩ := h; exact ⟨wZ h1, wZ h2, wZ h3, h4, h5⟩
theorem Vk : ∀ ds m R, ds.length = lY.length → qF ds m R → tJ (EN R) (aX zX ds) m := by
 rintro ds m R hl ⟨a, c1, c2, q, k, l, n, z, w, rfl, hz, hw, B, hq, h⟩; obtain ⟨ob, ⟨kvs, t1, tl, tg⟩, n1⟩ := B; have hkey := G0 (k := k) (l := l) (n := n) (jR k l z hz) (jR l n w hw)
 have last : ∀ m' kvs', m' a = some (.o "Behinds" [("by_words", .cel c1), ("by_mays", .cel c2)]) → m' c1 = some (.n kvs') → kvs'.length ≤ q + 1 → Ms kvs' → (∀ b, b ≠ c1 → m' b = m b) → (cS kvs' [dA k l n, .str z, .str w]).isSome = true →
   zO (EN R) [some (.cel a), some (.dat (dA k l n)), some (.dat (.str z)), some (.dat (.str w)), some (.dat (.tuple [dA k l n, .str z, .str w]))] m' := fun m' kvs' ob' t1' tl' tg' fr hv => by
  obtain ⟨x, hx⟩ := Option.isSome_iff_exists.mp hv; obtain ⟨k', l', n', z', w', e, rfl⟩ := tg' _ _ hx; obtain ⟨rfl, rfl, rfl, rfl, rfl⟩ := D1 e; simp only [zO, aF, bF, uD, jU, aA]; refine ⟨_, rfl, a, _, _, rfl, ob', rfl, fun b e => by cases e; rw [t1']; rfl, _, rfl, c1, _, _, _, rfl, hkey, t1', hx, fun b e => (nomatch e), ?_⟩
  exact h m' ⟨ob', ⟨kvs', t1', tl', tg'⟩, n1⟩ fr
 simp [tJ]; refine ⟨sz (by decide), ?_⟩
 simp only [Km, aF, bY, bH, aG, aA, jU]; refine ⟨_, rfl, _, rfl, a, _, _, rfl, ob, rfl, fun b e => by cases e; rw [t1]; rfl, ?_⟩
 refine ⟨_, _, hkey, t1, _, rfl, ?_⟩
 cases e : cS kvs [dA k l n, .str z, .str w] with
 | some x =>
  simp; exact last m kvs ob t1 (by omega) tg (fun _ _ => rfl) (by rw [e]; rfl)
 | none =>
  simp only [Option.isSome_none, Bool.not_false, if_true]; simp only [aF, vX, aU, aB, aH, aA, jU, aP]; refine ⟨_, rfl, _, rfl, _, rfl, rfl, k, l, n, z, w, rfl, hz, hw, ?_⟩; refine ⟨_, rfl, a, _, _, rfl, ob, rfl, fun b e => by cases e; rw [t1]; rfl, _, rfl, c1, _, _, rfl, hkey, t1, Nat.lt_of_le_of_lt tl (Nat.lt_of_lt_of_le (show q < 1000 by omega) (sz (Nat.le_refl _))), ?_⟩
  refine last _ (eQ kvs [dA k l n, .str z, .str w] (.dat (.tuple ((BW k l n z w).map .str)))) (by rw [bP n1]; exact ob) cX ?_ ?_ (fun b hb => bP hb) ?_
  ·have := F0 kvs [dA k l n, .str z, .str w] (.dat (.tuple ((BW k l n z w).map .str)))
   omega
  ·intro ks x hx; rw [Ez] at hx
   split at hx
   ·rename_i e
    cases hx
    exact ⟨k, l, n, z, w, e, rfl⟩
   ·exact tg ks x hx
  ·rw [Ez, if_pos rfl]; rfl
end K08
namespace K08
open PySem PySem.Spec PyProof.Rows L2 DL K01
def tr (u : Str) : aS × PyData := (.inr u, .bool true)
def kT (us : List Str) (u : Str) : List Str := if u ∈ us then us else us ++ [u]
theorem Mm (v : Str) : ∀ us : List Str, dS (us.map tr) (.inr v) = if v ∈ us then some (.bool true) else none
 | [] => rfl
 | u :: us => by
  have ih := Mm v us
  unfold dS at ih ⊢; rw [List.map_cons, List.find?_cons]
  by_cases e : u = v
  ·subst e; simp [tr]
  ·have d : decide ((tr u).1 = (Sum.inr v : aS)) = false := by simp [tr, e]
   rw [d]; simp only [ih, List.mem_cons, Ne.symm e, false_or]
theorem Uz (v : Str) (us : List Str) : ((us.map tr).any fun kv => decide (kv.1 = (.inr v : aS))) = decide (v ∈ us) := by
 induction us with
 | nil => rfl
 | cons u us ih =>
  rw [List.map_cons, List.any_cons, ih]
  by_cases e : u = v
  ·simp [tr, e]
  ·simp [tr, e, Ne.symm e]
theorem Zx (us : List Str) (u : Str) : oO (us.map tr) (.inr u) (.bool true) = (kT us u).map tr := by
 unfold oO kT; rw [Uz]
 by_cases e : u ∈ us
 ·rw [if_pos (decide_eq_true e), if_pos e, List.map_map]; refine List.map_congr_left fun x _ => ?_; show (if (tr x).1 = _ then ((tr x).1, PyData.bool true) else tr x) = tr x
  split <;> rfl
 ·rw [if_neg (by simpa using e), if_neg e, List.map_append]
  rfl
theorem Nf {us : List Str} {u v : Str} : v ∈ kT us u ↔ v ∈ us ∨ v = u := by
 unfold kT
 split
 ·rename_i h; exact ⟨.inl, fun q => q.elim id fun e => e ▸ h⟩
 ·simp
theorem A6 {us : List Str} {u : Str} (h : us.Nodup) : (kT us u).Nodup := by
 unfold kT
 split
 ·exact h
 ·rename_i q; rw [List.nodup_append]; exact ⟨h, by simp, fun a ha b hb e => q (by simp at hb; rw [← hb, ← e]; exact ha)⟩
theorem yR : ∀ {us ws : List Str}, us.Nodup → (∀ u ∈ us, u ∈ ws) → us.length ≤ ws.length
 | [], _, _, _ => Nat.zero_le _
 | u :: us, ws, nd, h => by
  have hu := h u List.mem_cons_self
  rw [List.nodup_cons] at nd; have := yR (us := us) (ws := ws.erase u) nd.2 fun v hv => by
   refine (List.mem_erase_of_ne ?_).mpr (h v (List.mem_cons_of_mem _ hv)); rintro rfl; exact nd.1 hv
  rw [List.length_erase_of_mem hu] at this; have := List.length_pos_of_mem hu
  rw [List.length_cons]; omega
theorem Wx {us ws : List Str} (nd : us.Nodup) (h : ∀ u ∈ us, u ∈ ws) (hl : us.length = ws.length) : ∀ w ∈ ws, w ∈ us := fun w hw => by
 by_cases c : w ∈ us
 ·exact c
 ·have := yR (us := w :: us) (ws := ws) (List.nodup_cons.mpr ⟨c, nd⟩) fun v hv => by
   rcases List.mem_cons.mp hv with e | e
   ·rw [e]; exact hw
   ·exact h v e
  rw [List.length_cons] at this; omega
theorem qM {g : DG} {b : DS} {E : Ends2} (J : List D → aY → Mu → Prop) (fin : ∀ d m, J [] d m → E.nx d m)
  (step : ∀ x rest (k : aY → Mu → Prop) d m, J (x :: rest) d m → (∀ d' m', J rest d' m' → k d' m') → g x d m fun d' m' => b { E with nx := k, ct := k, bk := E.nx } d' m') : ∀ xs d m, J xs d m → dP g b E xs d m
 | [], d, m, h => fin d m h
 | x :: xs, d, m, h => step x xs _ d m h (qM J fin step xs)
theorem Aw {k l n : Bool} {z w : Str} : ∀ u ∈ BW k l n z w, u ∈ WS k n := fun u hu => (List.mem_filter.mp hu).1
theorem Dy (k l n : Bool) (z w : Str) : (BW k l n z w).length ≤ 13 := Nat.le_trans (List.length_filter_le _ _) (jN k n).2
structure Ga (m0 m : Mu) (a c1 c2 f : Addr) (k l n : Bool) (done : List (Str × Str)) : Prop where
 b : Bh m a c1 c2 done.length
 us : ∃ us : List Str, m f = some (.d (us.map tr)) ∧ us.Nodup ∧ (∀ u ∈ us, u ∈ WS k n) ∧ ∀ u, u ∈ us ↔ ∃ p ∈ done, u ∈ BW k l n p.1 p.2
 fr : ∀ b, b ≠ c1 → b ≠ f → m b = m0 b
theorem Bt {k l n : Bool} {zs ws : List Str} {u : Str} : (zs.any fun z => ws.any fun w => decide (u ∈ BW k l n z w)) = true ↔ ∃ z ∈ zs, ∃ w ∈ ws, u ∈ BW k l n z w := by
 simp [List.any_eq_true]
theorem Df (x : PyData) (xs : List PyData) : bR (x :: xs) 0 = some x := by
 have : (0 : Int) < xs.length + 1 := by omega
 simp [bR, dL, this]
theorem Dh (x y z : PyData) (xs : List PyData) : bR (x :: y :: z :: xs) 2 = some z := by
 have : (2 : Int) < xs.length + 1 + 1 + 1 := by omega
 simp [bR, dL, this]
theorem Uh : ∀ ds m R, ds.length = kK.length → rF ds m R → vA (EN R) (aX zL ds) m := by
 rintro ds m R hl ⟨a, c1, c2, k, l, n, zs, ws, rfl, lz, lw, hz, hw, B, h⟩; have h : ∀ m' zs', (∀ b, b ≠ c1 → (m b).isSome = true → m' b = m b) → zs' = BM k l n zs ws → R (.dat (.tuple (zs'.map .str))) m' := fun m' zs' q e => by rw [e]; exact h m' q
 simp only [vA, aF, aV, aU, aB, aH, cA, aG, aA, aE, bD]; refine ⟨_, rfl, _, Df _ _, _, rfl, _, Dh _ _ _ _, _, rfl, sz (by simp), rfl, k, n, rfl, ?_⟩
 simp [Fv]; intro f hf; have fa : f ≠ a := by rintro rfl; rw [B.ob] at hf; cases hf
 have fc : f ≠ c1 := by rintro rfl; obtain ⟨kvs, q, _⟩ := B.t1; rw [q] at hf; cases hf
 have g0 : Ga (bN m f (.d [])) (bN m f (.d [])) a c1 c2 f k l n [] := by
  obtain ⟨ob, ⟨kvs, t1, t2, t3⟩, n1⟩ := B; exact ⟨⟨by rw [bP fa.symm]; exact ob, ⟨kvs, by rw [bP fc.symm]; exact t1, t2, t3⟩, n1⟩, ⟨[], cX, List.nodup_nil, by simp, by simp⟩, fun _ _ _ => rfl⟩
 have keep : ∀ {m'} {done}, Ga (bN m f (.d [])) m' a c1 c2 f k l n done → ∀ b, b ≠ c1 → (m b).isSome = true → m' b = m b := fun {m' done} G b hb hs => by
  have bf : b ≠ f := by rintro rfl; rw [hf] at hs; cases hs
  rw [G.fr b hb bf, bP bf]
 simp only [Im, aF, eF, dQ, aA]; refine ⟨_, rfl, .inr ⟨_, rfl, ?_⟩⟩; refine qM (fun rest d m' => ∃ zd zt, zs = zd ++ zt ∧ rest = (zt.map PyData.str).map .dat ∧ (∃ o6 o7 o8, d = [some (.cel a), some (.dat (dA k l n)), some (.dat (.tuple (zs.map .str))), some (.dat (.tuple (ws.map .str))), some (.dat (.tuple ((WS k n).map .str))), some (.cel f), o6, o7, o8]) ∧
   ∃ done, Ga (bN m f (.d [])) m' a c1 c2 f k l n done ∧ done.length ≤ 13 * zd.length ∧ (∀ p, p ∈ done ↔ p.1 ∈ zd ∧ p.2 ∈ ws)) ?_ ?_ _ _ _ ⟨[], zs, rfl, rfl, ⟨_, _, _, rfl⟩, [], g0, Nat.le_refl _, by simp⟩
 ·rintro d m' ⟨zd, zt, e1, e2, ⟨o6, o7, o8, rfl⟩, done, G, _, hd⟩; have : zt = [] := by simpa using e2.symm
  subst this; rw [List.append_nil] at e1; subst e1; obtain ⟨us, mf, nd, sub, iff⟩ := G.us; simp only [Ke, aF, bF, bU, aB, aH, dY, dQ, aA, bT]; refine ⟨_, rfl, .inr ⟨_, rfl, ?_⟩⟩; rw [List.map_map]; refine Kk (pr := fun u => decide (u ∈ us)) (jN k n).2 (fun v Q' hv hq => ?_) ?_
  ·simp [mf, Mm]
   by_cases c : v ∈ us <;> simp [c] at hq ⊢ <;> exact hq
  ·simp; refine h _ _ (keep G) ?_; unfold BM; refine List.filter_congr fun u hu => ?_; rw [Bool.eq_iff_iff, Bt, decide_eq_true_iff, iff]
   constructor
   ·rintro ⟨p, hp, q⟩; exact ⟨p.1, ((hd p).mp hp).1, p.2, ((hd p).mp hp).2, q⟩
   ·rintro ⟨z, h1, w, h2, q⟩; exact ⟨(z, w), (hd (z, w)).mpr ⟨h1, h2⟩, q⟩
 ·rintro x rest K d m' ⟨zd, zt, e1, e2, ⟨o6, o7, o8, rfl⟩, done, G, dl, hd⟩ hK
  cases zt with
  | nil => simp at e2
  | cons z zt =>
   obtain ⟨rfl, rfl⟩ := List.cons.inj e2; have hzz : z ∈ WS k l := hz z (by rw [e1]; simp)
   have zdl : zd.length ≤ 12 := by have := congrArg List.length e1; simp at this; omega
   simp only [gN, Ki, aF, eF, dQ, aA]; refine ⟨_, rfl, .inr ⟨_, rfl, ?_⟩⟩; refine qM (fun rest d m' => ∃ wd wt, ws = wd ++ wt ∧ rest = (wt.map PyData.str).map .dat ∧ (∃ o7 o8, d = [some (.cel a), some (.dat (dA k l n)), some (.dat (.tuple (zs.map .str))), some (.dat (.tuple (ws.map .str))), some (.dat (.tuple ((WS k n).map .str))), some (.cel f), some (.dat (.str z)), o7, o8]) ∧
     ∃ done, Ga (bN m f (.d [])) m' a c1 c2 f k l n done ∧ done.length ≤ 13 * zd.length + wd.length ∧ (∀ p, p ∈ done ↔ (p.1 ∈ zd ∧ p.2 ∈ ws) ∨ (p.1 = z ∧ p.2 ∈ wd))) ?_ ?_ _ _ _ ⟨[], ws, rfl, rfl, ⟨_, _, rfl⟩, done, G, by simpa using dl, by simpa using hd⟩
   ·rintro d m' ⟨wd, wt, f1, f2, ⟨o7, o8, rfl⟩, done, G, dl, hd⟩; have : wt = [] := by simpa using f2.symm
    subst this; rw [List.append_nil] at f1; subst f1; refine hK _ _ ⟨zd ++ [z], zt, by rw [e1]; simp, rfl, ⟨_, _, _, rfl⟩, done, G, by simp; omega, fun p => ?_⟩
    rw [hd p]; simp
    constructor
    ·rintro (⟨q1, q2⟩ | ⟨q1, q2⟩)
     ·exact ⟨.inl q1, q2⟩
     ·exact ⟨.inr q1, q2⟩
    ·rintro ⟨q1 | q1, q2⟩
     ·exact .inl ⟨q1, q2⟩
     ·exact .inr ⟨q1, q2⟩
   ·rintro x rest K2 d m' ⟨wd, wt, f1, f2, ⟨o7, o8, rfl⟩, done, G, dl, hd⟩ hK2
    cases wt with
    | nil => simp at f2
    | cons w wt =>
     obtain ⟨rfl, rfl⟩ := List.cons.inj f2; have hww : w ∈ WS l n := hw w (by rw [f1]; simp)
     have wdl : wd.length ≤ 12 := by have := congrArg List.length f1; simp at this; omega
     obtain ⟨us, mf, nd, sub, iff⟩ := G.us; simp only [gN, List.set_cons_succ, List.set_cons_zero]; simp [Mi, mf, PyData.eqv, PyData.canLay0, PyData.depth]
     by_cases c : us.length = (WS k n).length
     ·refine .inr ⟨by omega, ?_⟩
      refine h _ _ (keep G) ?_; have fl := Wx nd sub c
      unfold BM; rw [List.filter_eq_self.mpr fun u hu => ?_]; rw [Bt]; obtain ⟨p, hp, q⟩ := (iff u).mp (fl u hu); rcases (hd p).mp hp with ⟨q1, q2⟩ | ⟨q1, q2⟩
      ·exact ⟨p.1, by rw [e1]; simp [q1], p.2, q2, q⟩
      ·exact ⟨p.1, by rw [e1, q1]; simp, p.2, by rw [f1]; simp [q2], q⟩
     ·refine .inl ⟨by omega, ?_⟩
      simp only [Gz, aF, eF, dQ, nV, aB, aH, aA]; refine ⟨_, rfl, a, _, rfl, G.b.ob, rfl, _, rfl, _, rfl, _, rfl, rfl, ?_⟩; refine ⟨a, c1, c2, done.length, k, l, n, z, w, rfl, hzz, hww, G.b, by omega, fun m2 B2 fr2 => .inr ⟨_, rfl, ?_⟩⟩
      have mf2 : m2 f = some (.d (us.map tr)) := by rw [fr2 f fc]; exact mf
      refine qM (fun rest d m' => ∃ ud ut, BW k l n z w = ud ++ ut ∧ rest = (ut.map PyData.str).map .dat ∧ (∃ o8, d = [some (.cel a), some (.dat (dA k l n)), some (.dat (.tuple (zs.map .str))), some (.dat (.tuple (ws.map .str))), some (.dat (.tuple ((WS k n).map .str))), some (.cel f), some (.dat (.str z)), some (.dat (.str w)), o8]) ∧
        (∃ us', m' f = some (.d (us'.map tr)) ∧ us'.Nodup ∧ (∀ u ∈ us', u ∈ WS k n) ∧ ∀ u, u ∈ us' ↔ u ∈ us ∨ u ∈ ud) ∧ ∀ b, b ≠ f → m' b = m2 b) ?_ ?_ _ _ _ ⟨[], _, rfl, rfl, ⟨_, rfl⟩, ⟨us, mf2, nd, sub, by simp⟩, fun _ _ => rfl⟩
      ·rintro d m' ⟨ud, ut, g1, g2, ⟨o8, rfl⟩, ⟨us', mf', nd', sub', iff'⟩, fr'⟩; have : ut = [] := by simpa using g2.symm
       subst this; rw [List.append_nil] at g1; have B3 : Bh m' a c1 c2 (done.length + 1) := by
        obtain ⟨ob, ⟨kvs, t1, t2, t3⟩, n1⟩ := B2; exact ⟨by rw [fr' a fa.symm]; exact ob, ⟨kvs, by rw [fr' c1 fc.symm]; exact t1, t2, t3⟩, n1⟩
       refine hK2 _ _ ⟨wd ++ [w], wt, by rw [f1]; simp, rfl, ⟨_, _, rfl⟩, done ++ [(z, w)], ⟨by simpa using B3, ⟨us', mf', nd', sub', fun u => ?_⟩, fun b q1 q2 => ?_⟩, by simp; omega, fun p => ?_⟩
       ·rw [iff' u, iff u, ← g1]
        constructor
        ·rintro (⟨p, hp, q⟩ | q)
         ·exact ⟨p, by simp [hp], q⟩
         ·exact ⟨(z, w), by simp, q⟩
        ·rintro ⟨p, hp, q⟩; rcases List.mem_append.mp hp with hp | hp
         ·exact .inl ⟨p, hp, q⟩
         ·simp at hp; subst hp; exact .inr q
       ·rw [fr' b q2, fr2 b q1]; exact G.fr b q1 q2
       ·rw [List.mem_append, hd p]; simp
        constructor
        ·rintro ((q | q) | q)
         ·exact .inl q
         ·exact .inr ⟨q.1, .inl q.2⟩
         ·subst q; exact .inr ⟨rfl, .inr rfl⟩
        ·rintro (q | ⟨q1, q2 | q2⟩)
         ·exact .inl (.inl q)
         ·exact .inl (.inr ⟨q1, q2⟩)
         ·exact .inr (Prod.ext q1 q2)
      ·rintro x rest K3 d m' ⟨ud, ut, g1, g2, ⟨o8, rfl⟩, ⟨us', mf', nd', sub', iff'⟩, fr'⟩ hK3
       cases ut with
       | nil => simp at g2
       | cons u ut =>
        obtain ⟨rfl, rfl⟩ := List.cons.inj g2; have hu : u ∈ BW k l n z w := by rw [g1]; simp
        have ul : us'.length ≤ 13 := Nat.le_trans (yR nd' sub') (jN k n).2
        simp only [gN, List.set_cons_succ, List.set_cons_zero]; simp [La, mf', Zx]; refine ⟨Nat.lt_of_le_of_lt ul (Nat.lt_of_lt_of_le (show 13 < 1000 by decide) (sz (Nat.le_refl _))), ?_⟩
        refine hK3 _ _ ⟨ud ++ [u], ut, by rw [g1]; simp, rfl, ⟨_, rfl⟩, ⟨kT us' u, cX, A6 nd', fun v hv => ?_, fun v => ?_⟩, fun b hb => by rw [bP hb]; exact fr' b hb⟩
        ·rcases Nf.mp hv with q | q
         ·exact sub' v q
         ·rw [q]; exact Aw u hu
        ·rw [Nf, iff' v]; simp [or_assoc]
theorem Qs : ∀ ds m R, ds.length = kP.length → qG ds m R → vH (EN R) (aX Bl ds) m := by
 rintro ds m R hl ⟨k, l, n, zs, ws, rfl, lz, lw, hz, hw, h⟩; simp only [vH, aF, bF, nV, uQ, aB, aH, aA]; refine ⟨rfl, fun a ha => ?_⟩; refine ⟨a, rfl, cX, fun c1 c2 m1 h1 h2 fr B => ⟨rfl, ?_⟩⟩; refine ⟨a, _, rfl, B.ob, rfl, _, rfl, _, rfl, _, rfl, rfl, ?_⟩; refine ⟨a, c1, c2, k, l, n, zs, ws, rfl, lz, lw, hz, hw, B, fun m2 fr2 => ?_⟩; refine h m2 fun c hc => ?_; have ca : c ≠ a := by rintro rfl; rw [ha] at hc; cases hc
 have nn : ∀ b, bN m a (.o "Behinds" []) b = none → c ≠ b := fun b hb e => by
  subst e; rw [bP ca] at hb; rw [hb] at hc
  cases hc
 have e1 : m1 c = m c := by rw [fr c ca (nn c1 h1) (nn c2 h2), bP ca]
 rw [fr2 c (nn c1 h1) (by rw [e1]; exact hc), e1]
end K08
namespace K08
open PySem PySem.Spec PyProof.Rows L2 DL K01
theorem mC {a : Addr} {n : Int} {m : Mu} {R : DK} (h0 : 0 < n) (hb : n < 1000000) (hf : dW m a) (h : ∀ (r : Int) m', 0 ≤ r → r < n → dW m' a → R (I r) m') : cK [.cel a, I n] m R :=
 iT h0 hb hf fun r m' r0 r1 fd => h r m' r0 r1 fd.1
theorem W4 : ∀ ds m R, ds.length = lF.length → jQ ds m R → uV { nx := fun _ m => R (.dat .none) m, rt := R } (aX Bn ds) m := by
 rintro ds m R hl ⟨t, b, rfl, h0, hb, h⟩; have g0 := Ld (t := t) (b := b) (by omega)
 have gb : Bd 2000 ((t.gcd b : Nat) : Int) := by
  have := Int.gcd_le_natAbs_right t (b := b) (by omega)
  unfold Bd at *; omega
 have gl := gb.log (by decide)
 simp [Kp, Lq, Jq, Gn, Fk, Hk, uV]; refine ⟨fun n d m' => m' = m ∧ ∃ (x y : Int) (z : Option D), d = [some (I t), some (I b), some (I x), some (I y), z] ∧ n = y.natAbs ∧ 0 ≤ y ∧ 0 ≤ x ∧ Int.gcd x y = Int.gcd t b, ⟨_, rfl, b, (if t < 0 then -t else t), none, rfl, rfl, by split <;> omega, by omega, ?_⟩, ?_⟩
 ·rw [Int.gcd_comm]
  split
  ·rw [Int.neg_gcd]
  ·rfl
 rintro n d m' ⟨rfl, x, y, z, rfl, rfl, hy0, hx0, hg⟩
 by_cases hy : y = 0
 ·subst hy; rw [Int.gcd_zero_right] at hg; have ex : x = ((t.gcd b : Nat) : Int) := by rw [← hg]; omega
  subst ex; simp; refine ⟨fun _ => by omega, Nat.lt_of_lt_of_le (by simpa using gl) (show 2000 ≤ 9000 by decide), fun _ => by omega, Nat.lt_of_lt_of_le (by simpa using gl) (show 2000 ≤ 9000 by decide), sz (by decide), ?_⟩
  rw [Int.fdiv_eq_ediv_of_nonneg _ (by omega), Int.fdiv_eq_ediv_of_nonneg _ (by omega)]
  exact h
 ·have hp : 0 < y := by omega
  simp [hy, hp]; refine ⟨fun d' m'' => m'' = m' ∧ d' = [some (I t), some (I b), some (I y), some (I (x.fmod y)), some (I (x.fmod y))], ?_, by simp⟩
  rintro d' m'' ⟨rfl, rfl⟩; exact ⟨_, R6 x y hy, rfl, y, x.fmod y, ⟨_, rfl⟩, rfl, Int.fmod_nonneg_of_pos _ hp, hy0, by rw [K4]; exact hg⟩
theorem xA {t b : Int} (hb : 0 < b) : ∃ n d g : Int, fr t b = .tuple [.int n, .int d] ∧ 0 < g ∧ t = g * n ∧ b = g * d ∧ 0 < d := by
 have g0 := Ld (t := t) (b := b) (by omega)
 have d1 : ((t.gcd b : Nat) : Int) ∣ t := Int.gcd_dvd_left ..
 have d2 : ((t.gcd b : Nat) : Int) ∣ b := Int.gcd_dvd_right ..
 exact ⟨_, _, ((t.gcd b : Nat) : Int), rfl, g0, (Int.mul_ediv_cancel' d1).symm, (Int.mul_ediv_cancel' d2).symm, (P0 g0 d2).mpr hb⟩
theorem kD {g n x : Int} (h : x = g * n) (hg : 0 < g) (h1 : -2000000 ≤ x) (h2 : x ≤ 2000000) : Bd 60 n := by
 unfold Bd; have q : n.natAbs ≤ x.natAbs := by
  rw [h, Int.natAbs_mul]; exact Nat.le_mul_of_pos_left _ (by omega)
 have e : (2 : Nat) ^ 60 = 1152921504606846976 := by decide
 omega
theorem zB {t b : Int} {m : Mu} {R : DK} (h0 : 0 < b) (hb : b ≤ 1000000) (h : R (.dat (fr t b)) m) : jQ [I t, I b] m R := by
 refine ⟨t, b, rfl, h0, ?_, h⟩; refine Bd.mono (m := 20) ?_ (by decide)
 unfold Bd; have e : (2 : Nat) ^ 20 = 1048576 := by decide
 omega
theorem M4 : ∀ ds m R, ds.length = lB.length → pP ds m R → rS (EN R) (aX xZ ds) m := by
 rintro ds m R hl ⟨a, k, base, bZ, bottom, rfl, m1, m2, s1, s2, t1, t2, hf, h⟩
 cases k with
 | false =>
  simp [rS, kd]; refine mC (by omega) (by omega) hf fun q n1 q0 q1 hf1 => ?_
  refine zB (by omega) (by omega) ?_
  obtain ⟨n, d, g, e, g0, e1, e2, d0⟩ := xA (t := base + q) (b := bottom) (by omega)
  rw [e]; exact h _ (n, d) (n, d) _ ⟨rfl, d0, d0, (fun z => absurd z (by decide)), fun _ => rfl, kD e1 g0 (by omega) (by omega), kD e2 g0 (by omega) (by omega), kD e1 g0 (by omega) (by omega), kD e2 g0 (by omega) (by omega)⟩ hf1
 | true =>
  simp (decide := true) [rS, kd, Gm]; refine mC (by omega) (by omega) hf fun f n1 f0 f1 hf1 => ?_
  simp [Kx]; refine mC (by omega) (by omega) hf1 fun q n2 q0 q1 hf2 => ?_
  simp [Fj]; refine zB (by omega) (by omega) ?_
  refine zB (by omega) (by omega) ?_
  obtain ⟨n, d, g, e, g0, e1, e2, d0⟩ := xA (t := base + f) (b := bottom) (by omega)
  obtain ⟨n', d', g', e', g0', e1', e2', d0'⟩ := xA (t := base + (f + 1 + q)) (b := bottom) (by omega)
  rw [e, e']; simp [sz]; refine h _ (n, d) (n', d') _ ⟨rfl, d0, d0', fun _ => ?_, (fun z => absurd z (by decide)), kD e1 g0 (by omega) (by omega), kD e2 g0 (by omega) (by omega), kD e1' g0' (by omega) (by omega), kD e2' g0' (by omega) (by omega)⟩ hf2
  show n * d' < n' * d
  have gg : 0 < g * g' := Int.mul_pos g0 g0'
  refine Int.lt_of_mul_lt_mul_left (a := g * g') ?_ (Int.le_of_lt gg); have x1 : g * g' * (n * d') = (base + f) * bottom := by rw [e1, e2']; ac_rfl
  have x2 : g * g' * (n' * d) = (base + (f + 1 + q)) * bottom := by rw [e1', e2]; ac_rfl
  rw [x1, x2]; exact Int.mul_lt_mul_of_pos_right (by omega) (by omega)
theorem yI {a : Addr} {k : Bool} {base bZ bottom : Int} {m : Mu} {R : DK} (m1 : 2 ≤ bZ) (m2 : bZ ≤ 9) (s1 : -1000 ≤ base) (s2 : base ≤ 1000000) (t1 : 1 ≤ bottom) (t2 : bottom ≤ 1000000) (hf : dW m a)
  (h : ∀ p x y m', Tm p k x y → dW m' a → R (.dat p) m') : pP [.cel a, .dat (.str (kd k)), I base, I bZ, I bottom] m R := ⟨a, k, base, bZ, bottom, rfl, m1, m2, s1, s2, t1, t2, hf, h⟩
theorem Qt : ∀ ds m R, ds.length = mE.length → rL ds m R → uA (EN R) (aX Dr ds) m := by
 rintro ds m R hl ⟨a, k, l, n, rfl, hf, h⟩; simp [uA]; refine mC (by decide) (by decide) hf fun mn m1 n0 n1 hf1 => ?_
 simp [Lz, sz]; refine mC (by decide) (by decide) hf1 fun r m2 r0 r1 hf2 => ?_
 obtain ⟨p, e, bo, rfl, u0, u1⟩ := Lr (xs := [.int 1, .int 1, .int 2, .int 3, .int 7, .int 999983]) (P := fun p => ∃ i : Int, p = .int i ∧ 1 ≤ i ∧ i ≤ 999983) (r := r) (by simp) r0 r1
 refine ⟨_, e, ?_⟩; simp [Jf, sz]; refine mC (by decide) (by decide) hf2 fun q m3 q0 q1 hf3 => ?_
 obtain ⟨p, e, bs, rfl, v0, v1⟩ := Lr (xs := [.int 0, .int 0, .int (-5), .int 12, .int 900000]) (P := fun p => ∃ i : Int, p = .int i ∧ -5 ≤ i ∧ i ≤ 900000) (r := q) (by simp) q0 q1
 refine ⟨_, e, ?_⟩; refine mC (by decide) (by decide) hf3 fun w m4 w0 w1 hf4 => ?_
 simp [Gq, bT, cY]; refine yI (by omega) (by omega) (by omega) (by omega) (by omega) (by omega) hf4 fun p x y m5 tp hf5 => ⟨p, rfl, Nat.lt_of_lt_of_le (by decide) (sz (n := 1000) (by decide)), ?_⟩
 refine yI (by omega) (by omega) (by omega) (by omega) (by omega) (by omega) hf5 fun q x' y' m6 tq hf6 => ⟨q, rfl, Nat.lt_of_lt_of_le (by decide) (sz (n := 1000) (by decide)), ?_⟩
 refine yI (by omega) (by omega) (by omega) (by omega) (by omega) (by omega) hf6 fun s x'' y'' m7 ts hf7 => ⟨s, rfl, Nat.lt_of_lt_of_le (by decide) (sz (n := 1000) (by decide)), ?_⟩
 exact h p q s x y x' y' x'' y'' m7 tp tq ts hf7
theorem Fy {x : Int} : eL x < 0 ↔ x < 0 := by
 unfold eL
 split <;> split <;> omega
theorem Lb {x : Int} : eL x = 0 ↔ x = 0 := by
 unfold eL
 split <;> split <;> omega
theorem lT {a b c d e f : Int} (hb : 0 < b) (hd : 0 < d) (hf : 0 < f) (h1 : a * d ≤ c * b) (h2 : c * f < e * d) : a * f < e * b := by
 refine Int.lt_of_mul_lt_mul_left (a := d) ?_ (Int.le_of_lt hd); have x1 : a * d * f ≤ c * b * f := Int.mul_le_mul_of_nonneg_right h1 (Int.le_of_lt hf)
 have x2 : c * f * b < e * d * b := Int.mul_lt_mul_of_pos_right h2 hb
 have y1 : d * (a * f) = a * d * f := by ac_rfl
 have y2 : d * (e * b) = e * d * b := by ac_rfl
 have y3 : c * b * f = c * f * b := by ac_rfl
 omega
theorem Tm.le {p : PyData} {k : Bool} {x y : Int × Int} (h : Tm p k x y) : x.1 * y.2 ≤ y.1 * x.2 := by
 cases k with
 | true => exact Int.le_of_lt (h.st rfl)
 | false => rw [h.pt rfl]; exact Int.le_refl _
theorem P4 : ∀ z ∈ cU, bR (cU.map PyData.str) (12 - (cU.idxOf z : Int)) = some (.str (tn z)) := by
 intro z hz; have h1 : cU.idxOf z < cU.length := List.idxOf_lt_length_iff.mpr hz
 have h2 : cU.length = 13 := rfl
 obtain ⟨k, hk⟩ : ∃ k, cU.idxOf z = k := ⟨_, rfl⟩; rw [h2, hk] at h1; unfold tn; rw [hk, show (12 : Int) - (k : Int) = ((12 - k : Nat) : Int) by omega]
 refine qX ?_; rw [List.getElem?_map, List.getD_eq_getElem?_getD, List.getElem?_eq_getElem (by omega)]
 rfl
theorem Y1 : ∀ ds m R, ds.length = lZ.length → qE ds m R → tY (EN R) (aX Al ds) m := by
 rintro ds m R hl ⟨z, rfl, hz, h⟩; have q := P4 z hz
 unfold tY; simp only [aF, bF, aG, aE, fN, vO, aA, aX]; refine ⟨_, rfl, z, rfl, hz, ?_⟩; exact ⟨_, q, h⟩
theorem L6 : ∀ ds m R, ds.length = lQ.length → qW ds m R → tW (EN R) (aX yS ds) m := by
 rintro ds m R hl ⟨zs, rfl, hz, hn, h⟩; unfold tW; simp only [aF, bF, bU, aB, aH, dY, tR, aA, aX]; refine ⟨_, rfl, _, rfl, ?_⟩; refine rO (fun rest acc d m' => m' = m ∧ (∃ o, d = [o]) ∧ ∃ done todo, zs.reverse = done ++ todo ∧ rest = todo.map (fun z => .dat (.str z)) ∧ acc = (done.map tn).map .str) ?_ ?_ _ _ _ _ ⟨rfl, ⟨none, rfl⟩, [], zs.reverse, rfl, by rw [← List.map_reverse, List.map_map]; rfl, rfl⟩
 ·rintro acc d m' ⟨rfl, _, done, todo, e1, e2, rfl⟩; have e3 : todo = [] := by simpa using e2.symm
  subst e3; rw [List.append_nil] at e1; simp only [gP]; rw [← e1]; exact h
 ·rintro x xs acc d m' k ⟨rfl, ⟨o, rfl⟩, done, todo, e1, e2, rfl⟩ hk
  cases todo with
  | nil => simp at e2
  | cons z todo =>
   obtain ⟨rfl, rfl⟩ := List.cons.inj e2; have hzz : z ∈ zs := by
    rw [← List.mem_reverse, e1]; simp
   have hln : done.length < 100 := by
    have := congrArg List.length e1
    simp at this; omega
   simp only [gN, gG, if_true, aU, aB, aH, aA]; refine ⟨_, rfl, rfl, z, rfl, hz z hzz, _, rfl, by rw [List.length_map, List.length_map]; exact Nat.lt_of_lt_of_le hln (sz (by decide)), hk _ _ _ ⟨rfl, ⟨_, rfl⟩, done ++ [z], todo, by rw [e1]; simp, rfl, by simp⟩⟩
theorem Y6 (x : Int) : eL (-x) = -eL x := by
 unfold eL
 by_cases h : 0 < x
 ·have : ¬ x < 0 := by omega
  simp [h, this]
 ·by_cases h2 : x < 0
  ·simp [h, h2]
  ·simp [h, h2]
theorem uC (x y : Int × Int) : aK y x = -aK x y := by
 unfold aK; rw [← Y6]
 congr 1
 omega
theorem Xj (i j : Int) (hi : i = -1 ∨ i = 0 ∨ i = 1) (hj : j = -1 ∨ j = 0 ∨ j = 1) : tn (row i j) = row (-i) (-j) ∧ row i j ∈ cU := by
 rcases hi with rfl | rfl | rfl <;> rcases hj with rfl | rfl | rfl <;> decide +kernel
theorem mL {a b c d e f : Int} (hb : 0 < b) (hd : 0 < d) (hf : 0 < f) (h1 : a * d < c * b) (h2 : c * f ≤ e * d) : a * f < e * b := by
 refine Int.lt_of_mul_lt_mul_left (a := d) ?_ (Int.le_of_lt hd); have x1 : a * d * f < c * b * f := Int.mul_lt_mul_of_pos_right h1 hf
 have x2 : c * f * b ≤ e * d * b := Int.mul_le_mul_of_nonneg_right h2 (Int.le_of_lt hb)
 have y1 : d * (a * f) = a * d * f := by ac_rfl
 have y2 : d * (e * b) = e * d * b := by ac_rfl
 have y3 : c * b * f = c * f * b := by ac_rfl
 omega
theorem j6 : tn "ahead" = "behind" := by decide +kernel
theorem Q8 : tn "behind" = "ahead" := by decide +kernel
theorem p9 : tn "meets" = "met" := by decide +kernel
theorem B6 : tn "met" = "meets" := by decide +kernel
theorem Qx (both : Bool) (s1 s2 s3 s4 : Int) (i3 : s3 = -1 ∨ s3 = 0 ∨ s3 = 1) (i4 : s4 = -1 ∨ s4 = 0 ∨ s4 = 1) (h1 : s1 < 0 → s2 < 0) (h2 : both = true → s1 = 0 → s2 < 0) :
  tn (wc both s1 s2 s3 s4) = wc both (-s2) (-s1) (-s3) (-s4) ∧ wc both s1 s2 s3 s4 ∈ cU := by
 obtain ⟨r1, r2⟩ := Xj s3 s4 i3 i4; unfold wc
 by_cases c1 : s1 < 0
 ·have c2 := h1 c1
  rw [if_pos c1, if_neg (by omega), if_pos (by omega)]
  exact ⟨j6, by decide +kernel⟩
 rw [if_neg c1]
 by_cases c2 : 0 < s2
 ·rw [if_pos c2, if_pos (by omega)]
  exact ⟨Q8, by decide +kernel⟩
 rw [if_neg c2, if_neg (show ¬ (-s2 < 0) by omega), if_neg (show ¬ (0 < -s1) by omega)]
 cases both with
 | false => simpa using ⟨r1, r2⟩
 | true =>
  by_cases c3 : s1 = 0
  ·have := h2 rfl c3
   rw [if_pos ⟨rfl, c3⟩, if_neg (by omega), if_pos ⟨rfl, by omega⟩]
   exact ⟨p9, by decide +kernel⟩
  ·rw [if_neg (fun q => c3 q.2)]
   by_cases c4 : s2 = 0
   ·rw [if_pos ⟨rfl, c4⟩, if_pos ⟨rfl, by omega⟩]
    exact ⟨B6, by decide +kernel⟩
   ·rw [if_neg (fun q => c4 q.2), if_neg (by omega), if_neg (by omega)]
    exact ⟨r1, r2⟩
theorem Jx {p q : PyData} {k l : Bool} {a0 a1 b0 b1 : Int × Int} (ha : Tm p k a0 a1) (hb : Tm q l b0 b1) : tn (wd (k && l) a0 a1 b0 b1) = wd (l && k) b0 b1 a0 a1 ∧ wd (k && l) a0 a1 b0 b1 ∈ cU := by
 have h1 : aK a1 b0 < 0 → aK a0 b1 < 0 := fun h => by
  unfold aK at h ⊢; rw [Fy] at h ⊢; have x := lT (a := a0.1) (b := a0.2) (c := a1.1) (d := a1.2) (e := b0.1) (f := b0.2) ha.px ha.py hb.px ha.le (by omega)
  have y := mL (a := a0.1) (b := a0.2) (c := b0.1) (d := b0.2) (e := b1.1) (f := b1.2) ha.px hb.px hb.py x hb.le
  omega
 have h2 : (k && l) = true → aK a1 b0 = 0 → aK a0 b1 < 0 := fun hk h => by
  rw [Bool.and_eq_true] at hk; unfold aK at h ⊢; rw [Lb] at h; rw [Fy]; have x := mL (a := a0.1) (b := a0.2) (c := a1.1) (d := a1.2) (e := b0.1) (f := b0.2) ha.px ha.py hb.px (ha.st hk.1) (by omega)
  have y := mL (a := a0.1) (b := a0.2) (c := b0.1) (d := b0.2) (e := b1.1) (f := b1.2) ha.px hb.px hb.py x hb.le
  omega
 have e : wd (l && k) b0 b1 a0 a1 = wc (k && l) (-aK a0 b1) (-aK a1 b0) (-aK a0 b0) (-aK a1 b1) := by
  unfold wd wc; rw [uC a0 b1, uC a1 b0, uC a0 b0, uC a1 b1, Bool.and_comm l k]
 rw [e]; exact Qx (k && l) _ _ _ _ (rA _) (rA _) h1 h2
def S3 : List Int := [-1, 0, 1]
theorem Qb : ∀ s00 ∈ S3, ∀ s01 ∈ S3, ∀ s10 ∈ S3, ∀ s11 ∈ S3, (s00 ≤ 0 → s01 < 0) → (s10 ≤ 0 → s11 < 0) → (0 ≤ s00 → 0 < s10) → (0 ≤ s01 → 0 < s11) → ((WS true true).filter fun z => decide (WB true true z = [s00, s01, s10, s11])).head? = some (wc true s10 s01 s00 s11) := by decide +kernel
theorem Oc : ∀ s00 ∈ S3, ∀ s10 ∈ S3, (0 ≤ s00 → 0 < s10) → ((WS true false).filter fun z => decide (WB true false z = [s00, s10])).head? = some (wc false s10 s00 s00 s10) := by decide +kernel
theorem So : ∀ s00 ∈ S3, ∀ s01 ∈ S3, (s00 ≤ 0 → s01 < 0) → ((WS false true).filter fun z => decide (WB false true z = [s00, s01])).head? = some (wc false s00 s01 s00 s01) := by decide +kernel
theorem Zv : ∀ s00 ∈ S3, ((WS false false).filter fun z => decide (WB false false z = [s00])).head? = some (wc false s00 s00 s00 s00) := by decide +kernel
theorem iN (x y : Int × Int) : aK x y ∈ S3 := by
 unfold S3; rcases rA (x.1 * y.2 - y.1 * x.2) with h | h | h <;> simp [aK, h]
theorem jK (x y : Int × Int) : aK x y = if x.1 * y.2 < y.1 * x.2 then -1 else if y.1 * x.2 < x.1 * y.2 then 1 else 0 := by
 unfold aK eL
 split <;> split <;> split <;> (try split) <;> omega
theorem zT {q : PyData} {b0 b1 x : Int × Int} (h : Tm q true b0 b1) (hx : 0 < x.2) (c : aK x b0 ≤ 0) : aK x b1 < 0 := by
 rw [jK] at c ⊢; have := lT (a := x.1) (b := x.2) (c := b0.1) (d := b0.2) (e := b1.1) (f := b1.2) hx h.px h.py (by
  split at c
  ·omega
  ·split at c <;> omega) (h.st rfl)
 rw [if_pos this]; decide
theorem xX {p : PyData} {a0 a1 y : Int × Int} (h : Tm p true a0 a1) (hy : 0 < y.2) (c : 0 ≤ aK a0 y) : 0 < aK a1 y := by
 rw [jK] at c ⊢; have := lT (a := y.1) (b := y.2) (c := a0.1) (d := a0.2) (e := a1.1) (f := a1.2) hy h.px h.py (by split at c <;> omega) (h.st rfl)
 rw [if_neg (by omega), if_pos this]
 decide
end K08
namespace K08
open PySem PySem.Spec PyProof.Rows L2 DL K01
def SG (k l : Bool) (a0 a1 b0 b1 : Int × Int) : List Int := match k, l with
 | true, true => [aK a0 b0, aK a0 b1, aK a1 b0, aK a1 b1]
 | true, false => [aK a0 b0, aK a1 b0]
 | false, true => [aK a0 b0, aK a0 b1]
 | false, false => [aK a0 b0]
theorem vZ {ws : List Str} {p : Str → Bool} {z : Str} (h : (ws.filter p).head? = some z) : z ∈ ws ∧ p z = true := List.mem_filter.mp (List.mem_of_mem_head? (by rw [h]; rfl))
theorem jC {p q : PyData} {k l : Bool} {a0 a1 b0 b1 : Int × Int} (ha : Tm p k a0 a1) (hb : Tm q l b0 b1) : wd (k && l) a0 a1 b0 b1 ∈ WS k l ∧ WB k l (wd (k && l) a0 a1 b0 b1) = SG k l a0 a1 b0 b1 := by
 cases k with
 | true =>
  cases l with
  | true =>
   obtain ⟨h1, h2⟩ := vZ (Qb (aK a0 b0) (iN _ _) (aK a0 b1) (iN _ _) (aK a1 b0) (iN _ _) (aK a1 b1) (iN _ _) (zT hb ha.px) (zT hb ha.py) (xX ha hb.px) (xX ha hb.py)); exact ⟨h1, of_decide_eq_true h2⟩
  | false =>
   have e := hb.pt rfl
   subst e; obtain ⟨h1, h2⟩ := vZ (Oc (aK a0 b1) (iN _ _) (aK a1 b1) (iN _ _) (xX ha hb.px)); exact ⟨h1, of_decide_eq_true h2⟩
 | false =>
  have e := ha.pt rfl
  subst e
  cases l with
  | true =>
   obtain ⟨h1, h2⟩ := vZ (So (aK a1 b0) (iN _ _) (aK a1 b1) (iN _ _) (zT hb ha.px)); exact ⟨h1, of_decide_eq_true h2⟩
  | false =>
   have e := hb.pt rfl
   subst e; obtain ⟨h1, h2⟩ := vZ (Zv (aK a1 b1) (iN _ _)); exact ⟨h1, of_decide_eq_true h2⟩
theorem Zy {x y : Int × Int} : aK x y = 0 ↔ x.1 * y.2 = y.1 * x.2 := by
 unfold aK; rw [Lb]; omega
theorem cG {x y z : Int × Int} (hx : 0 < x.2) (hy : 0 < y.2) (hz : 0 < z.2) : ∀ i, fF (aK x y) (aK y z) = some i → aK x z = i := by
 intro i h; have le_trans : ∀ {a b c : Int × Int}, 0 < a.2 → 0 < b.2 → 0 < c.2 → a.1 * b.2 ≤ b.1 * a.2 → b.1 * c.2 ≤ c.1 * b.2 → a.1 * c.2 ≤ c.1 * a.2 := fun {a b c} ha hb hc h1 h2 => by
  refine Int.le_of_mul_le_mul_left (a := b.2) ?_ hb; have x1 : a.1 * b.2 * c.2 ≤ b.1 * a.2 * c.2 := Int.mul_le_mul_of_nonneg_right h1 (Int.le_of_lt hc)
  have x2 : b.1 * c.2 * a.2 ≤ c.1 * b.2 * a.2 := Int.mul_le_mul_of_nonneg_right h2 (Int.le_of_lt ha)
  have y1 : b.2 * (a.1 * c.2) = a.1 * b.2 * c.2 := by ac_rfl
  have y2 : b.2 * (c.1 * a.2) = c.1 * b.2 * a.2 := by ac_rfl
  have y3 : b.1 * a.2 * c.2 = b.1 * c.2 * a.2 := by ac_rfl
  omega
 unfold fF at h
 by_cases c1 : aK x y = 0
 ·rw [if_pos c1] at h
  cases h
  have e := Zy.mp c1
  rw [jK, jK]
  by_cases d1 : y.1 * z.2 < z.1 * y.2
  ·rw [if_pos d1, if_pos (lT hx hy hz (by omega) d1)]
  ·rw [if_neg d1]; have f1 : ¬ x.1 * z.2 < z.1 * x.2 := fun q => d1 (lT hy hx hz (by omega) q)
   rw [if_neg f1]
   by_cases d2 : z.1 * y.2 < y.1 * z.2
   ·rw [if_pos d2, if_pos (mL hz hy hx d2 (by omega))]
   ·rw [if_neg d2, if_neg fun q => d2 (mL hz hx hy q (by omega))]
 ·rw [if_neg c1] at h
  by_cases c2 : aK y z = 0 ∨ aK y z = aK x y
  ·rw [if_pos c2] at h
   cases h
   rw [jK y z] at c2; rw [jK x y] at c1 c2; rw [jK x z, jK x y]
   by_cases d1 : x.1 * y.2 < y.1 * x.2
   ·rw [if_pos d1] at c2 ⊢; have d2 : y.1 * z.2 ≤ z.1 * y.2 := by
     by_cases q : y.1 * z.2 < z.1 * y.2
     ·omega
     ·rw [if_neg q] at c2
      by_cases q2 : z.1 * y.2 < y.1 * z.2
      ·rw [if_pos q2] at c2; omega
      ·omega
    rw [if_pos (mL hx hy hz d1 d2)]
   ·rw [if_neg d1] at c1 c2 ⊢
    by_cases d3 : y.1 * x.2 < x.1 * y.2
    ·rw [if_pos d3] at c2 ⊢; have d2 : z.1 * y.2 ≤ y.1 * z.2 := by
      by_cases q : y.1 * z.2 < z.1 * y.2
      ·rw [if_pos q] at c2; omega
      ·omega
     have d4 := lT hz hy hx d2 d3
     rw [if_neg (by omega), if_pos d4]
    ·rw [if_neg d3] at c1; exact absurd rfl c1
  ·rw [if_neg c2] at h
   cases h
theorem yU {v : Int} : ∀ {l : List (Int × Int)}, (∀ p ∈ l, ∀ i, fF p.1 p.2 = some i → v = i) → ∀ i, bL l = some i → v = i
 | [], _, i, h => by cases h
 | (a, b) :: r, q, i, h => by
  unfold bL at h
  cases e : fF a b with
  | some j =>
   rw [e] at h
   cases h
   exact q _ List.mem_cons_self i e
  | none =>
   rw [e] at h; exact yU (fun p hp => q p (List.mem_cons_of_mem _ hp)) i h
theorem dM {f : Option Int} {w : Int} {r : List (Option Int)} {ws : List Int} (h : ∀ i, f = some i → w = i) (q : eI r ws = true) : eI (f :: r) (w :: ws) = true := by
 cases f with
 | none => exact q
 | some i =>
  unfold eI; rw [q, decide_eq_true (h i rfl).symm]; rfl
theorem iS {v a b : Int} (h : ∀ i, fF a b = some i → v = i) : ∀ i, bL [(a, b)] = some i → v = i := yU fun p hp => by rw [List.mem_singleton.mp hp]; exact h
theorem iY {v a b c d : Int} (h : ∀ i, fF a b = some i → v = i) (g : ∀ i, fF c d = some i → v = i) : ∀ i, bL [(a, b), (c, d)] = some i → v = i := yU fun p hp => by
 rcases List.mem_cons.mp hp with e | e
 ·rw [e]; exact h
 ·rw [List.mem_singleton.mp e]; exact g
def FX (k l n : Bool) (a0 a1 b0 b1 c0 c1 : Int × Int) : List (Option Int) := match k, l, n with
 | true, true, true => [bL [(aK a0 b0, aK b0 c0), (aK a0 b1, aK b1 c0)], bL [(aK a0 b0, aK b0 c1), (aK a0 b1, aK b1 c1)], bL [(aK a1 b0, aK b0 c0), (aK a1 b1, aK b1 c0)], bL [(aK a1 b0, aK b0 c1), (aK a1 b1, aK b1 c1)]]
 | true, true, false => [bL [(aK a0 b0, aK b0 c0), (aK a0 b1, aK b1 c0)], bL [(aK a1 b0, aK b0 c0), (aK a1 b1, aK b1 c0)]]
 | true, false, true => [bL [(aK a0 b0, aK b0 c0)], bL [(aK a0 b0, aK b0 c1)], bL [(aK a1 b0, aK b0 c0)], bL [(aK a1 b0, aK b0 c1)]]
 | true, false, false => [bL [(aK a0 b0, aK b0 c0)], bL [(aK a1 b0, aK b0 c0)]]
 | false, true, true => [bL [(aK a0 b0, aK b0 c0), (aK a0 b1, aK b1 c0)], bL [(aK a0 b0, aK b0 c1), (aK a0 b1, aK b1 c1)]]
 | false, true, false => [bL [(aK a0 b0, aK b0 c0), (aK a0 b1, aK b1 c0)]]
 | false, false, true => [bL [(aK a0 b0, aK b0 c0)], bL [(aK a0 b0, aK b0 c1)]]
 | false, false, false => [bL [(aK a0 b0, aK b0 c0)]]
def dU (k l n : Bool) (xs ys : List Int) : List (Option Int) := ((List.range (bO k)).map fun (x : Nat) => (List.range (bO n)).map fun y => bL ((cC xs (some ((x : Int) * bO l)) (some (((x : Int) + 1) * bO l))).zip (pick ys (bS ys.length y (bO n))))).flatten
theorem A2 (s00 s01 s10 s11 t00 t01 t10 t11 : Int) : dU true true true [s00, s01, s10, s11] [t00, t01, t10, t11] = [bL [(s00, t00), (s01, t10)], bL [(s00, t01), (s01, t11)], bL [(s10, t00), (s11, t10)], bL [(s10, t01), (s11, t11)]] := by simp (decide := true) [dU, bO, List.range_succ, cC, HT.sIx, pick, bS, bZ]
theorem F1 (s00 s01 s10 s11 t00 t10 : Int) : dU true true false [s00, s01, s10, s11] [t00, t10] = [bL [(s00, t00), (s01, t10)], bL [(s10, t00), (s11, t10)]] := by simp (decide := true) [dU, bO, List.range_succ, cC, HT.sIx, pick, bS, bZ]
theorem Sg (s00 s10 t00 t01 : Int) : dU true false true [s00, s10] [t00, t01] = [bL [(s00, t00)], bL [(s00, t01)], bL [(s10, t00)], bL [(s10, t01)]] := by simp (decide := true) [dU, bO, List.range_succ, cC, HT.sIx, pick, bS, bZ]
theorem Ue (s00 s10 t00 : Int) : dU true false false [s00, s10] [t00] = [bL [(s00, t00)], bL [(s10, t00)]] := by simp (decide := true) [dU, bO, List.range_succ, cC, HT.sIx, pick, bS, bZ]
theorem Um (s00 s01 t00 t01 t10 t11 : Int) : dU false true true [s00, s01] [t00, t01, t10, t11] = [bL [(s00, t00), (s01, t10)], bL [(s00, t01), (s01, t11)]] := by simp (decide := true) [dU, bO, List.range_succ, cC, HT.sIx, pick, bS, bZ]
theorem L0 (s00 s01 t00 t10 : Int) : dU false true false [s00, s01] [t00, t10] = [bL [(s00, t00), (s01, t10)]] := by simp (decide := true) [dU, bO, List.range_succ, cC, HT.sIx, pick, bS, bZ]
theorem i0 (s00 t00 t01 : Int) : dU false false true [s00] [t00, t01] = [bL [(s00, t00)], bL [(s00, t01)]] := by simp (decide := true) [dU, bO, List.range_succ, cC, HT.sIx, pick, bS, bZ]
theorem Qc (s00 t00 : Int) : dU false false false [s00] [t00] = [bL [(s00, t00)]] := by simp (decide := true) [dU, bO, List.range_succ, cC, HT.sIx, pick, bS, bZ]
theorem R7 {k l n : Bool} {z w : Str} {a0 a1 b0 b1 c0 c1 : Int × Int} (h1 : WB k l z = SG k l a0 a1 b0 b1) (h2 : WB l n w = SG l n b0 b1 c0 c1) : FW k l n z w = FX k l n a0 a1 b0 b1 c0 c1 := by
 have e : FW k l n z w = dU k l n (WB k l z) (WB l n w) := rfl
 rw [e, h1, h2]
 cases k <;> cases l <;> cases n
 ·exact Qc _ _
 ·exact i0 _ _ _
 ·exact L0 _ _ _ _
 ·exact Um _ _ _ _ _ _
 ·exact Ue _ _ _
 ·exact Sg _ _ _ _
 ·exact F1 _ _ _ _ _ _
 ·exact A2 _ _ _ _ _ _ _ _
theorem N7 {p q r : PyData} {k l n : Bool} {a0 a1 b0 b1 c0 c1 : Int × Int} (ha : Tm p k a0 a1) (hb : Tm q l b0 b1) (hc : Tm r n c0 c1) :
  wd (k && n) a0 a1 c0 c1 ∈ BW k l n (wd (k && l) a0 a1 b0 b1) (wd (l && n) b0 b1 c0 c1) := by
 obtain ⟨m1, e1⟩ := jC ha hb; obtain ⟨m2, e2⟩ := jC hb hc; obtain ⟨m3, e3⟩ := jC ha hc; refine List.mem_filter.mpr ⟨m3, ?_⟩; rw [e3]; rw [R7 e1 e2]; have A0 := ha.px
 have A1 := ha.py
 have B0 := hb.px
 have B1 := hb.py
 have C0 := hc.px
 have C1 := hc.py
 cases k <;> cases l <;> cases n
 ·exact dM (iS (cG A0 B0 C0)) rfl
 ·exact dM (iS (cG A0 B0 C0)) (dM (iS (cG A0 B0 C1)) rfl)
 ·exact dM (iY (cG A0 B0 C0) (cG A0 B1 C0)) rfl
 ·exact dM (iY (cG A0 B0 C0) (cG A0 B1 C0)) (dM (iY (cG A0 B0 C1) (cG A0 B1 C1)) rfl)
 ·exact dM (iS (cG A0 B0 C0)) (dM (iS (cG A1 B0 C0)) rfl)
 ·exact dM (iS (cG A0 B0 C0)) (dM (iS (cG A0 B0 C1)) (dM (iS (cG A1 B0 C0)) (dM (iS (cG A1 B0 C1)) rfl)))
 ·exact dM (iY (cG A0 B0 C0) (cG A0 B1 C0)) (dM (iY (cG A1 B0 C0) (cG A1 B1 C0)) rfl)
 ·exact dM (iY (cG A0 B0 C0) (cG A0 B1 C0)) (dM (iY (cG A0 B0 C1) (cG A0 B1 C1)) (dM (iY (cG A1 B0 C0) (cG A1 B1 C0)) (dM (iY (cG A1 B0 C1) (cG A1 B1 C1)) rfl)))
theorem Ph (k l n : Bool) : ∀ z ∈ WS k l, ∀ w ∈ WS l n, (BW k l n z w).reverse.map tn = BW n l k (tn w) (tn z) := by cases k <;> cases l <;> cases n <;> decide +kernel
end K08
namespace K08
open PySem PySem.Spec PyProof.Rows L2 DL K01
theorem Rm : ∀ ds m R, ds.length = lI.length → pI ds m R → vU (EN R) (aX zQ ds) m := by
 rintro ds m R hl ⟨k, l, n, z, w, u, rfl, hz, hw, h⟩; simp only [vU, aF, bF, aG, aU, aB, aH, aA]; refine ⟨_, rfl, _, rfl, _, rfl, _, rfl, rfl, k, l, n, z, w, rfl, hz, hw, ?_⟩; exact ⟨_, rfl, h⟩
theorem Rn : ∀ z ∈ cU, z.cps.toList.all (fun c => decide (c < 1114112)) = true ∧ z.length ≤ 20 := by decide +kernel
theorem Nc {zs : List Str} (hn : zs.length ≤ 13) (h : ∀ z ∈ zs, z ∈ cU) : (PyData.tuple (zs.map .str)).showable = true ∧ (PyData.tuple (zs.map .str)).shown.length ≤ sizeLine ∧ (PyData.tuple (zs.map .str)).depth ≤ 100 := by
 refine Jj (B := 8) (v5 (w := 20) (e := 1) (n := 13) (fun x hx => ?_) (by simpa using hn)) (by decide) (by decide) (by decide)
 obtain ⟨z, hz, rfl⟩ := List.mem_map.mp hx; obtain ⟨q1, q2⟩ := Rn z (h z hz); exact F9 q1 q2
theorem T5 (b : Bool) : (PyData.bool b).showable = true ∧ (PyData.bool b).shown.length ≤ sizeLine ∧ (PyData.bool b).depth ≤ 100 :=
 Jj (B := 8) (w := 20) (v8 b) (by decide) (by decide) (by decide)
theorem Ih {α : Type} {xs : List α} {lo hi : Option Int} : (∀ x ∈ cC xs lo hi, x ∈ xs) ∧ (cC xs lo hi).length ≤ xs.length := by
 unfold cC; exact ⟨fun x hx => List.drop_subset _ _ (List.take_subset _ _ hx), by rw [List.length_take, List.length_drop]; omega⟩
theorem K5 {ws : List Str} {r : Int} (h0 : 0 ≤ r) (h1 : r < (ws.length : Int)) : ∃ z ∈ ws, bR (ws.map PyData.str) r = some (.str z) := by
 obtain ⟨k, rfl⟩ : ∃ k : Nat, r = k := ⟨r.toNat, by omega⟩
 have hk : k < ws.length := by omega
 exact ⟨ws[k], List.getElem_mem hk, qX (by rw [List.getElem?_map, List.getElem?_eq_getElem hk]; rfl)⟩
theorem E7 (x y : PyData) (xs : List PyData) : bR (x :: y :: xs) 1 = some y := by
 have : (1 : Int) < xs.length + 1 + 1 := by omega
 simp [bR, dL, this]
theorem pX {p q : PyData} {k l : Bool} {a0 a1 b0 b1 : Int × Int} {m : Mu} {R : DK} (ha : Tm p k a0 a1) (hb : Tm q l b0 b1) (h : R (.dat (.str (wd (k && l) a0 a1 b0 b1))) m) : fO [.dat p, .dat q] m R := ⟨p, q, k, l, a0, a1, b0, b1, rfl, ha, hb, h⟩
theorem Wq {k l n : Bool} {zs : List Str} {w : Str} {us : List Str} (h : ∀ u, u ∈ us ↔ ∃ z ∈ zs, u ∈ BW k l n z w) : (WS k n).filter (fun u => decide (u ∈ us)) = BM k l n zs [w] := by
 unfold BM; refine List.filter_congr fun u _ => ?_; rw [Bool.eq_iff_iff, Bt, decide_eq_true_iff, h]; simp
abbrev EL (K : aY → Mu → Prop) (R : DK) : Ends2 := { nx := K, rt := R, bk := Bq (EN R), ct := K }
theorem Vh {K : aY → Mu → Prop} {R : DK} {ns : List Int} {i : Int} {a : Addr} {k l n : Bool} {p q r : PyData} {z w : Str} {o9 o10 o12 o13 o14 o15 o16 : Option D} {m : Mu} (hf : dW m a) (hw : w ∈ WS l n)
  (hK : ∀ d m', (∃ o1 o2 o3 o4 o5 o6 o7 o8 o9 o10 o11 o12 o13 o14 o15 o16, d = [some (.dat (.list (ns.map .int))), o1, o2, o3, o4, o5, o6, o7, o8, o9, o10, o11, o12, o13, o14, o15, o16]) → K d m') :
  yE (EL K R) [some (.dat (.list (ns.map .int))), some (I i), some (.cel a), some (.dat (dA k l n)), some (.dat p), some (.dat q), some (.dat r), some (.dat (.str z)), some (.dat (.str w)), o9, o10, some (.dat (.list ((WS k n).map .str))), o12, o13, o14, o15, o16] m := by
 simp [yE]; refine ⟨a, k, l, rfl, hf, fun zs m1 zl hz hf1 => ?_⟩; simp [Iu]; refine iT (by omega) (by omega) hf1.1 fun t m2 _ _ hf2 => ?_
 simp [Ly]; obtain ⟨c1, c2⟩ := Ih (xs := zs) (lo := some t) (hi := none); obtain ⟨c3, c4⟩ := Ih (xs := cC zs (some t) none) (lo := none) (hi := some 3); have hz' : ∀ z ∈ cC (cC zs (some t) none) none (some 3), z ∈ WS k l := fun w q => hz w (c1 w (c3 w q))
 have zl' : (cC (cC zs (some t) none) none (some 3)).length ≤ 13 := by omega
 generalize cC (cC zs (some t) none) none (some 3) = zs' at hz' zl'
 simp [Nr]; refine ⟨sz (by decide), k, l, n, zs', [w], rfl, zl', by simp, hz', (fun w' h' => by rw [List.mem_singleton.mp h']; exact hw), fun m3 k3 => ?_⟩
 simp [Kd]; intro c hc; simp only [Em, aF, eF, dQ, aA]; refine ⟨_, rfl, .inr ⟨_, rfl, ?_⟩⟩; obtain ⟨f1, f2, f3⟩ := Nc (zs := BM k l n zs' [w]) (Nat.le_trans (List.length_filter_le _ _) (jN k n).2) fun z hz' => jR k n z (List.mem_filter.mp hz').1; refine qM (fun rest d m' => ∃ zd zt, zs' = zd ++ zt ∧ rest = (zt.map PyData.str).map .dat ∧ (∃ o16, d = [some (.dat (.list (ns.map .int))), some (I i), some (.cel a), some (.dat (dA k l n)), some (.dat p), some (.dat q), some (.dat r), some (.dat (.str z)), some (.dat (.str w)), o9, o10, some (.dat (.list ((WS k n).map .str))), o12, some (.dat (.tuple (zs'.map .str))), some (.dat (.tuple ((BM k l n zs' [w]).map .str))), some (.cel c), o16]) ∧
   ∃ us : List Str, m' c = some (.l (us.map .str)) ∧ us.length ≤ 13 * zd.length ∧ ∀ u, u ∈ us ↔ ∃ z ∈ zd, u ∈ BW k l n z w) ?_ ?_ _ _ _ ⟨[], zs', rfl, rfl, ⟨_, rfl⟩, [], cX, Nat.le_refl _, by simp⟩
 ·rintro d m' ⟨zd, zt, e1, e2, ⟨o16, rfl⟩, us, mc, _, iff⟩; have : zt = [] := by simpa using e2.symm
  subst this; rw [List.append_nil] at e1; subst e1; simp only [Mz, aF, bY, bH, aG, bU, aB, aH, aA, iX]; refine ⟨_, rfl, f1, f2, f3, ?_⟩; simp only [dY, dQ, aA, bT]; refine ⟨_, rfl, .inl ⟨_, rfl, ?_⟩⟩; rw [List.map_map]; refine Kk (pr := fun u => decide (u ∈ us)) (jN k n).2 (fun v Q' hv hq => ?_) ?_
  ·simp [mc]; refine ⟨_, rfl, ?_⟩
   by_cases c : v ∈ us <;> simp [c] at hq ⊢ <;> exact hq
  ·rw [Wq iff]; simp [f1, f2, f3]; exact hK _ _ ⟨_, _, _, _, _, _, _, _, _, _, _, _, _, _, _, _, rfl⟩
 ·rintro x rest K2 d m' ⟨zd, zt, e1, e2, ⟨o16, rfl⟩, us, mc, ul, iff⟩ hK2
  cases zt with
  | nil => simp at e2
  | cons z1 zt =>
   obtain ⟨rfl, rfl⟩ := List.cons.inj e2; have hz1 : z1 ∈ WS k l := hz' z1 (by rw [e1]; simp)
   have zdl : zd.length ≤ 12 := by have := congrArg List.length e1; simp at this; omega
   simp only [gN, List.set_cons_succ, List.set_cons_zero]; simp only [Fz, aF, wK, wN, aU, aB, aH, aA]; have bl := Dy k l n z1 w
   refine ⟨_, rfl, c, rfl, ⟨_, mc⟩, _, rfl, _, rfl, _, rfl, rfl, k, l, n, z1, w, rfl, hz1, hw, _, _, .inl rfl, mc, by rw [List.length_map, List.length_map]; exact sz (by omega), ?_⟩
   rw [← List.map_append]; refine hK2 _ _ ⟨zd ++ [z1], zt, by rw [e1]; simp, rfl, ⟨_, rfl⟩, us ++ BW k l n z1 w, cX, by simp; omega, fun u => ?_⟩
   rw [List.mem_append, iff u]
   constructor
   ·rintro (⟨z2, q1, q2⟩ | q)
    ·exact ⟨z2, by simp [q1], q2⟩
    ·exact ⟨z1, by simp, q⟩
   ·rintro ⟨z2, q1, q2⟩; rcases List.mem_append.mp q1 with q1 | q1
    ·exact .inl ⟨z2, q1, q2⟩
    ·rw [List.mem_singleton.mp q1] at q2; exact .inr q2
theorem K8 : ∀ ds m R, ds.length = vT.length → pO ds m R → vS (EN R) (aX Ee ds) m := by
 rintro ds m R hl ⟨ns, rfl, hn, h⟩; simp [vS]; refine Sl (n := 3) (fun i d m' => ∃ o1 o2 o3 o4 o5 o6 o7 o8 o9 o10 o11 o12 o13 o14 o15 o16, d = [some (.dat (.list (ns.map .int))), o1, o2, o3, o4, o5, o6, o7, o8, o9, o10, o11, o12, o13, o14, o15, o16]) ?_ ?_ _ _ ⟨_, _, _, _, _, _, _, _, _, _, _, _, _, _, _, _, rfl⟩
 ·rintro d m' ⟨o1, o2, o3, o4, o5, o6, o7, o8, o9, o10, o11, o12, o13, o14, o15, o16, rfl⟩; simp [Bq]; exact h m'
 rintro i hi K hK d m1 ⟨o1, o2, o3, o4, o5, o6, o7, o8, o9, o10, o11, o12, o13, o14, o15, o16, rfl⟩; simp [Ir]; refine ⟨ns, i, rfl, hn, by omega, by omega, fun a m2 hf2 => ?_⟩
 simp [Fq]; refine ⟨a, rfl, hf2, fun k l n m3 hf3 => ?_⟩; simp only [Is, aF, mS, aU, aB, aH, cA, aG, aA, aE, bD]; refine ⟨_, rfl, _, rfl, _, Df _ _, _, rfl, sz (by simp), _, rfl, _, E7 _ _ _, _, rfl, sz (by simp), _, rfl, _, Dh _ _ _ _, _, rfl, sz (by simp), _, rfl, sz (by simp), rfl, ?_⟩
 refine ⟨a, k, l, n, rfl, hf3.1, fun p q r x y z w u v m4 tp tq tr hf4 => ?_⟩; simp only [gT, dF, gN, fW]; refine ⟨_, rfl, rfl, rfl, ?_⟩; simp only [List.set_cons_succ, List.set_cons_zero]; obtain ⟨hz, _⟩ := jC tp tq; obtain ⟨hw, _⟩ := jC tq tr; obtain ⟨hv, _⟩ := jC tp tr; have hs := N7 tp tq tr
 obtain ⟨t1, t2⟩ := Jx tp tq; obtain ⟨t3, t4⟩ := Jx tq tr; have tb := Ph k l n _ hz _ hw
 rw [t1, t3] at tb; obtain ⟨hz2, _⟩ := jC tq tp; obtain ⟨hw2, _⟩ := jC tr tq; simp only [Kr, aF, aV, aU, aB, aH, aA]; refine ⟨_, rfl, _, rfl, rfl, pX tp tq ?_⟩; simp only [Jl, aF, aV, aU, aB, aH, aA, List.set_cons_succ, List.set_cons_zero]; refine ⟨_, rfl, _, rfl, rfl, pX tq tr ?_⟩
 generalize hZ : wd (k && l) x y z w = Z at *
 generalize hW : wd (l && n) z w u v = W at *
 simp only [Mq, aF, aV, aU, aB, aH, aA, List.set_cons_succ, List.set_cons_zero]; refine ⟨_, rfl, _, rfl, _, rfl, rfl, k, l, n, Z, W, rfl, hz, hw, ?_⟩; simp only [Fg, aF, bY, qV, bH, aG, aU, aB, aH, aA, aE, List.set_cons_succ, List.set_cons_zero]; refine ⟨_, rfl, _, rfl, rfl, pX tp tr ⟨_, rfl, _, rfl, _, rfl, ?_⟩⟩; simp only [hs, not_true, decide_false, Bool.not_true, decide_true, Bool.false_eq_true, if_false]; refine ⟨_, rfl, _, rfl, _, rfl, _, rfl, _, rfl, rfl, pX tp tr ⟨rfl, k, l, n, Z, W, _, rfl, hz, hw, ?_⟩⟩; simp only [hs, decide_true]; refine ⟨_, rfl, ?_⟩; simp only [beq_self_eq_true, Bool.not_true, Bool.false_eq_true, if_false, aP]; simp [Fh]; refine pX tr tq ?_; refine pX tq tp ?_; refine ⟨n, l, k, _, _, rfl, hw2, hz2, ?_⟩; simp [Mx]; refine ⟨_, rfl, fun z' hz' => jR k n z' (Aw z' hz'), Nat.le_trans (Dy _ _ _ _ _) (by decide), ?_⟩
 rw [tb]; obtain ⟨f1, f2, f3⟩ := Nc (zs := BW n l k (wd (n && l) u v z w) (wd (l && k) z w x y)) (Dy _ _ _ _ _) fun z' hz' => jR n k z' (Aw z' hz'); simp [f1, f2, f3]; simp only [Es, aF, aV, aU, aB, aH, cA, aG, aA, aE, bD]; refine ⟨_, rfl, _, Df _ _, _, rfl, _, Dh _ _ _ _, _, rfl, sz (by simp), rfl, k, n, rfl, ?_⟩
 simp only [List.set_cons_succ, List.set_cons_zero]; obtain ⟨w1, w2⟩ := jN k n; simp [Jm]; refine iT (by omega) (by omega) hf4 fun t m5 t0 t1 hf5 => ?_
 obtain ⟨V, hV, eV⟩ := K5 t0 t1; refine ⟨_, eV, ?_⟩; obtain ⟨g1, g2, g3⟩ := T5 (decide (V ∈ BW k l n Z W)); simp only [Hi, aF, bY, bH, aG, bU, aB, aH, aU, aA]; refine ⟨_, rfl, _, rfl, _, rfl, _, rfl, rfl, k, l, n, Z, W, V, rfl, hz, hw, g1, g2, g3, _, rfl, _, rfl, _, rfl, g1, g2, g3, ?_⟩; simp; exact Vh hf5.1 hw hK
end K08
namespace HD
open PySem PySem.W
section
variable {α β : Type} {tb : String → Option Builtin} {p : Program} {w : World} {n₀ : Nat} {ann : Option Value} {c : Code} {B : List Frame}
theorem My {b : Nat} : ∀ {n m : Nat} {s s1 s2 : Shared} {t t1 t2 : Thread}, segGo tb p w n₀ ann b n s t = some (s1, t1) → segGo tb p w n₀ ann b m s1 t1 = some (s2, t2) → segGo tb p w n₀ ann b (n + m) s t = some (s2, t2)
 | 0, m, s, s1, s2, t, t1, t2, h, k => by
  obtain ⟨rfl, rfl⟩ : s = s1 ∧ t = t1 := by simpa [segGo] using h
  rw [Nat.zero_add]; exact k
 | n + 1, m, s, s1, s2, t, t1, t2, h, k => by
  rw [show n + 1 + m = n + m + 1 by omega]
  unfold segGo at h ⊢
  cases he : endAt b t with
  | some f => rw [he] at h; cases h
  | none =>
   rw [he] at h
   cases hk : stepOk n₀ ann t with
   | false => rw [hk] at h; cases h
   | true =>
    rw [hk] at h
    cases hs : step (denote tb) p w s t with
    | halt o s' => rw [hs] at h; cases h
    | go s' t' => rw [hs] at h; exact My h k
def R (N : Nat) (tb : String → Option Builtin) (p : Program) (w : World) (n₀ : Nat) (ann : Option Value) (c : Code) (B : List Frame) (m : Sem α) (s : Shared) (pos : Pos) (a : α) (s' : Shared) (pos' : Pos) : Prop :=
 ∀ (K : α → Sem Fin) (H : Value → Sem Fin) (gd : Bool → Bool) (lv : List Value → List Value), ∃ n, n ≤ N ∧ segGo tb p w n₀ ann B.length n s ⟨m.wrap K H gd lv, c, pos, B⟩ = some (s', ⟨K a, c, pos', B⟩)
variable {s s1 s' : Shared} {pos pos1 pos' : Pos} {N N1 N2 : Nat}
theorem R.pure {a : α} : R 0 tb p w n₀ ann c B (Pure.pure a) s pos a s pos := fun K H gd lv => ⟨0, Nat.le_refl _, rfl⟩
theorem R.mono {m : Sem α} {a : α} (hN : N1 ≤ N) (h : R N1 tb p w n₀ ann c B m s pos a s' pos') : R N tb p w n₀ ann c B m s pos a s' pos' := fun K H gd lv => let ⟨n, l, e⟩ := h K H gd lv; ⟨n, Nat.le_trans l hN, e⟩
theorem R.bind {m : Sem α} {f : α → Sem β} {a : α} {b : β} (h : R N1 tb p w n₀ ann c B m s pos a s1 pos1) (k : R N2 tb p w n₀ ann c B (f a) s1 pos1 b s' pos') : R (N1 + N2) tb p w n₀ ann c B (m >>= f) s pos b s' pos' := fun K H gd lv => by
 obtain ⟨n1, l1, e1⟩ := h (fun a => (f a).wrap K H gd lv) H gd lv; obtain ⟨n2, l2, e2⟩ := k K H gd lv; refine ⟨n1 + n2, Nat.add_le_add l1 l2, ?_⟩; have e : (m >>= f).wrap K H gd lv = m.wrap (fun a => (f a).wrap K H gd lv) H gd lv := by
  rw [Sem.bind_eq_wrap', Sem.wrap_wrap]; rfl
 rw [e]; exact My e1 e2
theorem R.hold {m : Sem α} {vs : List Value} {a : α} (h : R N tb p w n₀ ann c B m s pos a s' pos') : R N tb p w n₀ ann c B (holding vs m) s pos a s' pos' := by
 unfold holding
 split
 ·exact h
 ·intro K H gd lv; rw [Sem.keep_eq_wrap, Sem.wrap_wrap]; exact h K H _ _
theorem R.leaf {m : Sem α} {a : α} {sT sT' : SharedT} (n : Nat) (h : ∀ (K : α → Sem Fin) (H : Value → Sem Fin) (gd : Bool → Bool) (lv : List Value → List Value), segGoT tb p w n₀ ann B.length n sT ⟨m.wrap K H gd lv, c, pos, B⟩ = some (sT', ⟨K a, c, pos', B⟩)) : R n tb p w n₀ ann c B m sT.abs pos a sT'.abs pos' := fun K H gd lv => ⟨n, Nat.le_refl _, segGo_of (h K H gd lv)⟩
theorem R.piece {m : Sem Flow} {q : Pos} (h : R N tb p w n₀ ann c [topFrame q] m s pos .next s' pos') : ∃ n, n ≤ N + 1 ∧ segRun tb p w n₀ ann 1 n s ⟨m.wrap doneF deadEnd id id, c, pos, [topFrame q]⟩ = some (.next, s', c, pos') := by
 obtain ⟨n, l, e⟩ := h doneF deadEnd id id; exact ⟨n + 1, Nat.succ_le_succ l, seg_go (N := 1) e rfl⟩
end
end HD
namespace HD
open PySem PySem.W
section
variable {α β : Type} {tb : String → Option Builtin} {p : Program} {w : World} {n₀ : Nat} {ann : Option Value} {c : Code} {B : List Frame} {s s1 s' : Shared} {pos pos1 pos' : Pos}
def tS : Stmt → List (Option Expr) | .Assign [.Name _ _] (.Dict ks _ _) _ => ks | _ => []
def tM : Stmt → List Expr | .Assign [.Name _ _] (.Dict _ vs _) _ => vs | _ => []
def qP : Stmt → Pos | .Assign [.Name _ _] (.Dict _ _ dp) _ => dp | _ => default
def Cc : Stmt → Pos | .Assign [.Name _ px] (.Dict _ _ _) _ => px | _ => default
def Ei : Stmt → Pos | .Assign _ _ sp => sp | _ => default
end
end HD
set_option maxHeartbeats 0
namespace H08
open PySem PySem.W HD
open_shared pre for PySem.Challenge.pw_whens_k08_whole_three_things leaving 28
abbrev prog : Program := PySem.Challenge.pw_whens_k08_whole_three_things
abbrev q0 : Pos := ⟨0, 0, 0, 0⟩
def st : Stmt := prog.main.body.getD 2 (.Pass q0)
def xC : Expr := .Constant (.str "a") 0 q0
def xO : Expr := .Constant .none 0 q0
def xT (n : Nat) : Expr := .Tuple (List.replicate n xC) 0 q0
def X5 : Stmt := .Assign [.Name "POINT_WORDS" ⟨3, 0, 3, 11⟩] (.BoolOp .Or (List.replicate 390 xO ++ [.Dict [some xC] [.Tuple [xT 22, xT 1, xT 1, xT 1, xT 1] 0 q0] q0]) q0) q0
def progX : Program := { prog with main := { prog.main with body := prog.main.body.set 2 X5 } }
open_shared prx for H08.progX leaving 0
end H08
set_option maxHeartbeats 0
namespace H08
open PySem PySem.W HD
noncomputable abbrev T0 (w : World) (os : OsState) : SharedT := ⟨pre.tree_6 w.params, 16, {}, ⟨[]⟩, {}, 203, os⟩
abbrev D0 : Obj := { cls := .type "dict", data := .dict #[] }
abbrev tp (vs : List Value) : Obj := { cls := .type "tuple", data := .seq vs.toArray }
noncomputable abbrev T1 (w : World) (os : OsState) : SharedT := ⟨(pre.tree_6 w.params).ins 16 D0, 17, {}, ⟨[]⟩, {}, 203, os⟩
noncomputable def Cw (P : Params) : BT := (((((((pre.tree_6 P).ins 16 D0).ins 17 (tp [.str "point" 203, .str "point" 204])).ins 18 (tp [.str "ahead" 205, .str "same" 206, .str "behind" 207])).ins 19 (tp [.str "point" 208, .str "stretch" 209])).ins 20 (tp [.str "ahead" 210, .str "begins" 211, .str "within" 212, .str "ends" 213, .str "behind" 214])).ins 21 (tp [.str "stretch" 215, .str "point" 216])).ins 22 (tp [.str "ahead" 217, .str "ended" 218, .str "holds" 219, .str "begun" 220, .str "behind" 221])
abbrev dO (es : List DictEntry) : Obj := { cls := .type "dict", data := .dict es.toArray es.length }
noncomputable abbrev TD (es : Params → List DictEntry) (w : World) (os : OsState) (k : Nat) : SharedT := ⟨(Cw w.params).ins 16 (dO (es w.params)), 23, {}, ⟨[]⟩, {}, k, os⟩
abbrev eO : Params → List DictEntry := fun _ => []
abbrev dp : Pos := ⟨3, 14, 3, 204⟩
theorem V9 : st = .Assign [.Name "POINT_WORDS" (Cc st)] (.Dict (tS st) (tM st) (qP st)) (Ei st) := by kernel_rfl
section
variable (w : World) (os : OsState) (p : Program) (b : List Stmt)
abbrev RR {α : Type} (N : Nat) (m : Sem α) (s : SharedT) (pos : Pos) (a : α) (s' : SharedT) (pos' : Pos) : Prop := R N treeTable p w 11 (some (Value.ref 6)) (Code.body b pre.env_1) [topFrame q0] m s.abs pos a s'.abs pos'
theorem Uu : RR w p b 34 (evalPairs (pairTrees (tS st) (tM st) pre.env_1 (qP st))) (T1 w os) dp [(.ref 17, .ref 18), (.ref 19, .ref 20), (.ref 21, .ref 22)] (TD eO w os 222) dp :=
 R.leaf 34 fun K H gd lv => by kernel_rfl
end
abbrev kh (P : Params) (z : Str) : Int := PyData.keyHash P z
def i1 (P : Params) : Int := Builtin.Tuple.tupleHashOf [kh P "point", kh P "point"]
def i2 (P : Params) : Int := Builtin.Tuple.tupleHashOf [kh P "point", kh P "stretch"]
def i3 (P : Params) : Int := Builtin.Tuple.tupleHashOf [kh P "stretch", kh P "point"]
def e1 (P : Params) : DictEntry := ⟨reduceHash (i1 P), .ref 17, .ref 18⟩
def e2 (P : Params) : DictEntry := ⟨reduceHash (i2 P), .ref 19, .ref 20⟩
def e3 (P : Params) : DictEntry := ⟨reduceHash (i3 P), .ref 21, .ref 22⟩
abbrev eT : Params → List DictEntry := fun P => [e1 P]
abbrev eS : Params → List DictEntry := fun P => [e1 P, e2 P]
abbrev row : String := "special-get-raises"
section
variable (v : World) (os : OsState) (p : Program) (b : List Stmt)
theorem oK (w : World) (t : String) (sT : SharedT) (pos : Pos) : RR w p b 1 (rule t) sT pos () sT pos := R.leaf 1 fun K H gd lv => by
 obtain ⟨T, n, l, g, d, k, o⟩ := sT; rfl
theorem nA (w : World) (i : Int) (sT : SharedT) (pos : Pos) : RR w p b 1 (pyHashByItsType.reduced i) sT pos (reduceHash i) sT pos := by
 unfold pyHashByItsType.reduced reduceHash
 by_cases hr : (decide (-(2 : Int) ^ 63 ≤ i) && decide (i < 2 ^ 63)) = true
 ·rw [if_pos hr, if_pos hr]; exact R.mono (by decide) R.pure
 ·rw [if_neg hr, if_neg hr]; exact R.mono (N1 := 1 + 0) (by decide) (R.bind (oK p b w _ sT pos) R.pure)
theorem Z5 : RR (v.withFollow row false) p b 26 (pyHash (.ref 17)) (TD eO (v.withFollow row false) os 222) dp (reduceHash (i1 (v.withFollow row false).params)) (TD eO (v.withFollow row false) os 225) dp := by
 unfold pyHash pyHashByItsType; refine R.mono (N1 := 1 + (1 + (1 + (22 + 1)))) (by decide) (R.bind (R.leaf (sT' := (TD eO (v.withFollow row false) os 222)) (a := ()) (pos' := dp) 1 fun K H gd lv => by rw [Fast.te10295753902157049106, Fast.te14364793385576792824]; kernel_rfl) ?_)
 refine R.bind (R.leaf (sT' := (TD eO (v.withFollow row false) os 222)) (a := some (.builtin "tuple.__hash__")) (pos' := dp) 1 fun K H gd lv => by rw [Fast.te10295753902157049106, Fast.te14364793385576792824]; kernel_rfl) ?_
 rw [if_neg (by decide)]
 refine R.bind (R.leaf (sT' := (TD eO (v.withFollow row false) os 222)) (a := some (.builtin "tuple.__hash__")) (pos' := dp) 1 fun K H gd lv => by rw [Fast.te10295753902157049106, Fast.te14364793385576792824]; kernel_rfl) ?_
 rw [if_neg (by decide)]
 refine R.bind (R.leaf (sT' := (TD eO (v.withFollow row false) os 225)) (a := some (.int (i1 (v.withFollow row false).params) 224)) (pos' := dp) 22 fun K H gd lv => by rw [Fast.te10295753902157049106, Fast.te14364793385576792824]; kernel_rfl) ?_
 exact nA p b _ _ _ _
theorem G3 : RR (v.withFollow row true) p b 26 (pyHash (.ref 17)) (TD eO (v.withFollow row true) os 222) dp (reduceHash (i1 (v.withFollow row true).params)) (TD eO (v.withFollow row true) os 225) dp := by
 unfold pyHash pyHashByItsType; refine R.mono (N1 := 1 + (1 + (1 + (22 + 1)))) (by decide) (R.bind (R.leaf (sT' := (TD eO (v.withFollow row true) os 222)) (a := ()) (pos' := dp) 1 fun K H gd lv => by rw [Fast.te10295753902157049106, Fast.te14364793385576792824]; kernel_rfl) ?_)
 refine R.bind (R.leaf (sT' := (TD eO (v.withFollow row true) os 222)) (a := some (.builtin "tuple.__hash__")) (pos' := dp) 1 fun K H gd lv => by rw [Fast.te10295753902157049106, Fast.te14364793385576792824]; kernel_rfl) ?_
 rw [if_neg (by decide)]
 refine R.bind (R.leaf (sT' := (TD eO (v.withFollow row true) os 222)) (a := some (.builtin "tuple.__hash__")) (pos' := dp) 1 fun K H gd lv => by rw [Fast.te10295753902157049106, Fast.te14364793385576792824]; kernel_rfl) ?_
 rw [if_neg (by decide)]
 refine R.bind (R.leaf (sT' := (TD eO (v.withFollow row true) os 225)) (a := some (.int (i1 (v.withFollow row true).params) 224)) (pos' := dp) 22 fun K H gd lv => by rw [Fast.te10295753902157049106, Fast.te14364793385576792824]; kernel_rfl) ?_
 exact nA p b _ _ _ _
theorem A3 : RR (v.withFollow row false) p b 26 (pyHash (.ref 19)) (TD eT (v.withFollow row false) os 225) dp (reduceHash (i2 (v.withFollow row false).params)) (TD eT (v.withFollow row false) os 228) dp := by
 unfold pyHash pyHashByItsType; refine R.mono (N1 := 1 + (1 + (1 + (22 + 1)))) (by decide) (R.bind (R.leaf (sT' := (TD eT (v.withFollow row false) os 225)) (a := ()) (pos' := dp) 1 fun K H gd lv => by rw [Fast.te10295753902157049106, Fast.te14364793385576792824]; kernel_rfl) ?_)
 refine R.bind (R.leaf (sT' := (TD eT (v.withFollow row false) os 225)) (a := some (.builtin "tuple.__hash__")) (pos' := dp) 1 fun K H gd lv => by rw [Fast.te10295753902157049106, Fast.te14364793385576792824]; kernel_rfl) ?_
 rw [if_neg (by decide)]
 refine R.bind (R.leaf (sT' := (TD eT (v.withFollow row false) os 225)) (a := some (.builtin "tuple.__hash__")) (pos' := dp) 1 fun K H gd lv => by rw [Fast.te10295753902157049106, Fast.te14364793385576792824]; kernel_rfl) ?_
 rw [if_neg (by decide)]
 refine R.bind (R.leaf (sT' := (TD eT (v.withFollow row false) os 228)) (a := some (.int (i2 (v.withFollow row false).params) 227)) (pos' := dp) 22 fun K H gd lv => by rw [Fast.te10295753902157049106, Fast.te14364793385576792824]; kernel_rfl) ?_
 exact nA p b _ _ _ _
theorem Qq : RR (v.withFollow row true) p b 26 (pyHash (.ref 19)) (TD eT (v.withFollow row true) os 225) dp (reduceHash (i2 (v.withFollow row true).params)) (TD eT (v.withFollow row true) os 228) dp := by
 unfold pyHash pyHashByItsType; refine R.mono (N1 := 1 + (1 + (1 + (22 + 1)))) (by decide) (R.bind (R.leaf (sT' := (TD eT (v.withFollow row true) os 225)) (a := ()) (pos' := dp) 1 fun K H gd lv => by rw [Fast.te10295753902157049106, Fast.te14364793385576792824]; kernel_rfl) ?_)
 refine R.bind (R.leaf (sT' := (TD eT (v.withFollow row true) os 225)) (a := some (.builtin "tuple.__hash__")) (pos' := dp) 1 fun K H gd lv => by rw [Fast.te10295753902157049106, Fast.te14364793385576792824]; kernel_rfl) ?_
 rw [if_neg (by decide)]
 refine R.bind (R.leaf (sT' := (TD eT (v.withFollow row true) os 225)) (a := some (.builtin "tuple.__hash__")) (pos' := dp) 1 fun K H gd lv => by rw [Fast.te10295753902157049106, Fast.te14364793385576792824]; kernel_rfl) ?_
 rw [if_neg (by decide)]
 refine R.bind (R.leaf (sT' := (TD eT (v.withFollow row true) os 228)) (a := some (.int (i2 (v.withFollow row true).params) 227)) (pos' := dp) 22 fun K H gd lv => by rw [Fast.te10295753902157049106, Fast.te14364793385576792824]; kernel_rfl) ?_
 exact nA p b _ _ _ _
theorem Pt : RR (v.withFollow row false) p b 26 (pyHash (.ref 21)) (TD eS (v.withFollow row false) os 228) dp (reduceHash (i3 (v.withFollow row false).params)) (TD eS (v.withFollow row false) os 231) dp := by
 unfold pyHash pyHashByItsType; refine R.mono (N1 := 1 + (1 + (1 + (22 + 1)))) (by decide) (R.bind (R.leaf (sT' := (TD eS (v.withFollow row false) os 228)) (a := ()) (pos' := dp) 1 fun K H gd lv => by rw [Fast.te10295753902157049106, Fast.te14364793385576792824]; kernel_rfl) ?_)
 refine R.bind (R.leaf (sT' := (TD eS (v.withFollow row false) os 228)) (a := some (.builtin "tuple.__hash__")) (pos' := dp) 1 fun K H gd lv => by rw [Fast.te10295753902157049106, Fast.te14364793385576792824]; kernel_rfl) ?_
 rw [if_neg (by decide)]
 refine R.bind (R.leaf (sT' := (TD eS (v.withFollow row false) os 228)) (a := some (.builtin "tuple.__hash__")) (pos' := dp) 1 fun K H gd lv => by rw [Fast.te10295753902157049106, Fast.te14364793385576792824]; kernel_rfl) ?_
 rw [if_neg (by decide)]
 refine R.bind (R.leaf (sT' := (TD eS (v.withFollow row false) os 231)) (a := some (.int (i3 (v.withFollow row false).params) 230)) (pos' := dp) 22 fun K H gd lv => by rw [Fast.te10295753902157049106, Fast.te14364793385576792824]; kernel_rfl) ?_
 exact nA p b _ _ _ _
theorem Tl : RR (v.withFollow row true) p b 26 (pyHash (.ref 21)) (TD eS (v.withFollow row true) os 228) dp (reduceHash (i3 (v.withFollow row true).params)) (TD eS (v.withFollow row true) os 231) dp := by
 unfold pyHash pyHashByItsType; refine R.mono (N1 := 1 + (1 + (1 + (22 + 1)))) (by decide) (R.bind (R.leaf (sT' := (TD eS (v.withFollow row true) os 228)) (a := ()) (pos' := dp) 1 fun K H gd lv => by rw [Fast.te10295753902157049106, Fast.te14364793385576792824]; kernel_rfl) ?_)
 refine R.bind (R.leaf (sT' := (TD eS (v.withFollow row true) os 228)) (a := some (.builtin "tuple.__hash__")) (pos' := dp) 1 fun K H gd lv => by rw [Fast.te10295753902157049106, Fast.te14364793385576792824]; kernel_rfl) ?_
 rw [if_neg (by decide)]
 refine R.bind (R.leaf (sT' := (TD eS (v.withFollow row true) os 228)) (a := some (.builtin "tuple.__hash__")) (pos' := dp) 1 fun K H gd lv => by rw [Fast.te10295753902157049106, Fast.te14364793385576792824]; kernel_rfl) ?_
 rw [if_neg (by decide)]
 refine R.bind (R.leaf (sT' := (TD eS (v.withFollow row true) os 231)) (a := some (.int (i3 (v.withFollow row true).params) 230)) (pos' := dp) 22 fun K H gd lv => by rw [Fast.te10295753902157049106, Fast.te14364793385576792824]; kernel_rfl) ?_
 exact nA p b _ _ _ _
end
section
variable (v : World) (bb : Bool) (os : OsState) (p : Program) (b : List Stmt)
noncomputable abbrev TX (es : List DictEntry) (w : World) (os : OsState) (k : Nat) : SharedT := ⟨(Cw w.params).ins 16 (dO es), 23, {}, ⟨[]⟩, {}, k, os⟩
theorem Vs (w : World) (x : Int) : RR w p b 5 (dictSetHashed 16 (.ref 17) x (.ref 18)) (TX [] w os 225) dp () (TX [⟨x, .ref 17, .ref 18⟩] w os 225) dp :=
 R.leaf 5 fun K H gd lv => by rw [Fast.te10295753902157049106, Fast.te14364793385576792824, Fast.te4359058424727691002]; kernel_rfl
theorem Q4 (x y : Int) (k v : Value) : placesWithHash (#[⟨x, k, v⟩] : Array DictEntry).size (fun i => (#[⟨x, k, v⟩] : Array DictEntry)[i]?.map (·.hash)) y = if x = y then [0] else [] := by
 by_cases h : x = y <;> simp [placesWithHash, List.range_succ, h]
theorem Tg (x x' y : Int) (k v k' v' : Value) : placesWithHash (#[⟨x, k, v⟩, ⟨x', k', v'⟩] : Array DictEntry).size (fun i => (#[⟨x, k, v⟩, ⟨x', k', v'⟩] : Array DictEntry)[i]?.map (·.hash)) y = (if x = y then [0] else []) ++ (if x' = y then [1] else []) := by
 by_cases h : x = y <;> by_cases h' : x' = y <;> simp [placesWithHash, List.range_succ, h, h']
theorem Oe (x y : Int) : RR (v.withFollow row bb) p b 31 (dictFind 16 (.ref 19) y) (TX [⟨x, .ref 17, .ref 18⟩] (v.withFollow row bb) os 228) dp none (TX [⟨x, .ref 17, .ref 18⟩] (v.withFollow row bb) os 228) dp := by
 unfold dictFind; refine R.hold (R.bind (N1 := 1) (N2 := 30) (R.leaf (sT' := TX [⟨x, .ref 17, .ref 18⟩] (v.withFollow row bb) os 228) (a := #[⟨x, .ref 17, .ref 18⟩]) (pos' := dp) 1 fun K H gd lv => by rw [Fast.te10295753902157049106, Fast.te14364793385576792824]; kernel_rfl) ?_)
 have e := Q4 x y (.ref 17) (.ref 18)
 by_cases h : x = y
 ·subst h; rw [if_pos rfl] at e; rw [e]; simp [carriedByValue, -bind_pure_comp, -map_pure]; refine R.mono (N1 := 6 + (1 + (20 + (1 + (1 + 0))))) (by decide) (R.bind (R.leaf (sT' := TX [⟨x, .ref 17, .ref 18⟩] (v.withFollow row bb) os 228) (a := false) (pos' := dp) 6 fun K H gd lv => by rw [Fast.te10295753902157049106, Fast.te14364793385576792824, Fast.te11445937954039399578]; cases bb <;> kernel_rfl) ?_)
  refine R.bind (R.leaf (sT' := TX [⟨x, .ref 17, .ref 18⟩] (v.withFollow row bb) os 228) (a := 1) (pos' := dp) 1 fun K H gd lv => by rw [Fast.te10295753902157049106, Fast.te14364793385576792824]; kernel_rfl) ?_
  refine R.bind (R.leaf (sT' := TX [⟨x, .ref 17, .ref 18⟩] (v.withFollow row bb) os 228) (a := false) (pos' := dp) 20 fun K H gd lv => by rw [Fast.te10295753902157049106, Fast.te14364793385576792824, Fast.te13926502685295537346]; cases bb <;> kernel_rfl) ?_
  refine R.bind (R.leaf (sT' := TX [⟨x, .ref 17, .ref 18⟩] (v.withFollow row bb) os 228) (a := 1) (pos' := dp) 1 fun K H gd lv => by rw [Fast.te10295753902157049106, Fast.te14364793385576792824]; kernel_rfl) ?_
  simp [-bind_pure_comp, -map_pure]; exact R.mono (N1 := 1 + 0) (by decide) (R.bind (oK p b _ _ _ _) R.pure)
 ·rw [if_neg h] at e; rw [e]; exact R.mono (by decide) (R.leaf 0 fun K H gd lv => by kernel_rfl)
end
section
variable (v : World) (bb : Bool) (os : OsState) (p : Program) (b : List Stmt) (x x' : Int)
noncomputable abbrev TY (x x' : Int) (w : World) (os : OsState) : SharedT := TX [⟨x, .ref 17, .ref 18⟩, ⟨x', .ref 19, .ref 20⟩] w os 231
theorem jJ (w : World) : RR w p b 1 (dictEpoch 16 (keyPart (.ref 21))) (TY x x' w os) dp 2 (TY x x' w os) dp := R.leaf 1 fun K H gd lv => by rw [Fast.te10295753902157049106, Fast.te14364793385576792824]; kernel_rfl
theorem Gw : RR (v.withFollow row bb) p b 16 (eqBool (.ref 17) (.ref 21)) (TY x x' (v.withFollow row bb) os) dp false (TY x x' (v.withFollow row bb) os) dp := R.leaf 16 fun K H gd lv => by rw [Fast.te10295753902157049106, Fast.te14364793385576792824, Fast.te13926502685295537346]; cases bb <;> kernel_rfl
theorem Ew : RR (v.withFollow row bb) p b 16 (eqBool (.ref 19) (.ref 21)) (TY x x' (v.withFollow row bb) os) dp false (TY x x' (v.withFollow row bb) os) dp := R.leaf 16 fun K H gd lv => by rw [Fast.te10295753902157049106, Fast.te14364793385576792824, Fast.te13926502685295537346]; cases bb <;> kernel_rfl
theorem Zr : RR (v.withFollow row bb) p b 9 (tableMayTell (.ref 21) [.ref 17, .ref 19]) (TY x x' (v.withFollow row bb) os) dp false (TY x x' (v.withFollow row bb) os) dp := R.leaf 9 fun K H gd lv => by rw [Fast.te10295753902157049106, Fast.te14364793385576792824, Fast.te11445937954039399578]; cases bb <;> kernel_rfl
theorem Uo : RR (v.withFollow row bb) p b 6 (tableMayTell (.ref 21) [.ref 17]) (TY x x' (v.withFollow row bb) os) dp false (TY x x' (v.withFollow row bb) os) dp := R.leaf 6 fun K H gd lv => by rw [Fast.te10295753902157049106, Fast.te14364793385576792824, Fast.te11445937954039399578]; cases bb <;> kernel_rfl
theorem Ul : RR (v.withFollow row bb) p b 6 (tableMayTell (.ref 21) [.ref 19]) (TY x x' (v.withFollow row bb) os) dp false (TY x x' (v.withFollow row bb) os) dp := R.leaf 6 fun K H gd lv => by rw [Fast.te10295753902157049106, Fast.te14364793385576792824, Fast.te11445937954039399578]; cases bb <;> kernel_rfl
theorem O2 (y : Int) : RR (v.withFollow row bb) p b 101 (dictFind 16 (.ref 21) y) (TY x x' (v.withFollow row bb) os) dp none (TY x x' (v.withFollow row bb) os) dp := by
 unfold dictFind; refine R.hold (R.bind (N1 := 1) (N2 := 100) (R.leaf (sT' := TY x x' (v.withFollow row bb) os) (a := #[⟨x, .ref 17, .ref 18⟩, ⟨x', .ref 19, .ref 20⟩]) (pos' := dp) 1 fun K H gd lv => by rw [Fast.te10295753902157049106, Fast.te14364793385576792824]; kernel_rfl) ?_)
 have e := Tg x x' y (.ref 17) (.ref 18) (.ref 19) (.ref 20)
 by_cases h : x = y <;> by_cases h' : x' = y
 ·subst h; rw [if_pos rfl, if_pos h'] at e; rw [e]; simp [carriedByValue, -bind_pure_comp, -map_pure, h']; refine R.mono (N1 := 9 + (1 + (16 + (1 + (1 + (1 + (16 + (1 + (1 + 0))))))))) (by decide) (R.bind (Zr v bb os p b x x) ?_)
  rw [if_neg (by decide)]
  refine R.bind (jJ os p b x x _) (R.bind (Gw v bb os p b x x) (R.bind (jJ os p b x x _) ?_)); simp [-bind_pure_comp, -map_pure]; refine R.mono (N1 := 1 + (1 + (16 + (1 + (1 + 0))))) (by decide) (R.bind (oK p b _ _ _ _) ?_)
  refine R.bind (jJ os p b x x _) (R.bind (Ew v bb os p b x x) (R.bind (jJ os p b x x _) ?_)); simp [-bind_pure_comp, -map_pure]; exact R.mono (N1 := 1 + 0) (by decide) (R.bind (oK p b _ _ _ _) R.pure)
 ·subst h; rw [if_pos rfl, if_neg h'] at e; rw [e]; simp [carriedByValue, -bind_pure_comp, -map_pure]; refine R.mono (N1 := 6 + (1 + (16 + (1 + (1 + 0))))) (by decide) (R.bind (Uo v bb os p b x x') ?_)
  refine R.bind (jJ os p b x x' _) (R.bind (Gw v bb os p b x x') (R.bind (jJ os p b x x' _) ?_)); simp [-bind_pure_comp, -map_pure]; exact R.mono (N1 := 1 + 0) (by decide) (R.bind (oK p b _ _ _ _) R.pure)
 ·subst h'; rw [if_neg h, if_pos rfl] at e; rw [e]; simp [carriedByValue, -bind_pure_comp, -map_pure]; refine R.mono (N1 := 6 + (1 + (16 + (1 + (1 + 0))))) (by decide) (R.bind (Ul v bb os p b x x') ?_)
  refine R.bind (jJ os p b x x' _) (R.bind (Ew v bb os p b x x') (R.bind (jJ os p b x x' _) ?_)); simp [-bind_pure_comp, -map_pure]; exact R.mono (N1 := 1 + 0) (by decide) (R.bind (oK p b _ _ _ _) R.pure)
 ·rw [if_neg h, if_neg h'] at e; rw [e]; exact R.mono (by decide) (R.leaf 0 fun K H gd lv => by kernel_rfl)
theorem i7 (y : Int) : RR (v.withFollow row bb) p b 35 (dictSetHashed 16 (.ref 19) y (.ref 20)) (TX [⟨x, .ref 17, .ref 18⟩] (v.withFollow row bb) os 228) dp () (TX [⟨x, .ref 17, .ref 18⟩, ⟨y, .ref 19, .ref 20⟩] (v.withFollow row bb) os 228) dp := by
 unfold dictSetHashed; refine R.hold (R.bind (N1 := 31) (N2 := 4) (Oe v bb os p b x y) ?_); exact R.leaf 4 fun K H gd lv => by rw [Fast.te10295753902157049106, Fast.te14364793385576792824]; kernel_rfl
theorem Rw (y : Int) : RR (v.withFollow row bb) p b 105 (dictSetHashed 16 (.ref 21) y (.ref 22)) (TY x x' (v.withFollow row bb) os) dp () (TX [⟨x, .ref 17, .ref 18⟩, ⟨x', .ref 19, .ref 20⟩, ⟨y, .ref 21, .ref 22⟩] (v.withFollow row bb) os 231) dp := by
 unfold dictSetHashed; refine R.hold (R.bind (N1 := 101) (N2 := 4) (O2 v bb os p b x x' y) ?_); exact R.leaf 4 fun K H gd lv => by rw [Fast.te10295753902157049106, Fast.te14364793385576792824]; kernel_rfl
end
section
variable (v : World) (bb : Bool) (os : OsState) (p : Program) (b : List Stmt)
abbrev p5 : Pos := ⟨2, 0, 2, 5⟩
abbrev sp : Pos := ⟨3, 0, 3, 204⟩
abbrev px : Pos := ⟨3, 0, 3, 11⟩
abbrev dE (P : Params) : List DictEntry := [⟨reduceHash (i1 P), .ref 17, .ref 18⟩, ⟨reduceHash (i2 P), .ref 19, .ref 20⟩, ⟨reduceHash (i3 P), .ref 21, .ref 22⟩]
noncomputable def xV (P : Params) (es : List DictEntry) : BT := ((Cw P).ins 16 (dO es)).set 3 (Obj.putName "POINT_WORDS" (kh P "POINT_WORDS") (.str "POINT_WORDS" 231) (.ref 16))
noncomputable abbrev T6 (es : List DictEntry) (w : World) (os : OsState) : SharedT := ⟨xV w.params es, 23, {}, ⟨[]⟩, {}, 232, os⟩
theorem yQ (w : World) (sT : SharedT) (q q' : Pos) : RR w p b 1 (standAt q') sT q () sT q' := R.leaf 1 fun K H gd lv => by
 obtain ⟨T, n, l, g, d, k, o⟩ := sT; rfl
theorem Ut : RR (v.withFollow row bb) p b 26 (pyHash (.ref 17)) (TX [] (v.withFollow row bb) os 222) dp (reduceHash (i1 (v.withFollow row bb).params)) (TX [] (v.withFollow row bb) os 225) dp := by
 cases bb
 ·exact Z5 v os p b
 ·exact G3 v os p b
theorem Z0 : RR (v.withFollow row bb) p b 26 (pyHash (.ref 19)) (TX [e1 (v.withFollow row bb).params] (v.withFollow row bb) os 225) dp (reduceHash (i2 (v.withFollow row bb).params)) (TX [e1 (v.withFollow row bb).params] (v.withFollow row bb) os 228) dp := by
 cases bb
 ·exact A3 v os p b
 ·exact Qq v os p b
theorem u5 : RR (v.withFollow row bb) p b 26 (pyHash (.ref 21)) (TX [e1 (v.withFollow row bb).params, e2 (v.withFollow row bb).params] (v.withFollow row bb) os 228) dp (reduceHash (i3 (v.withFollow row bb).params)) (TX [e1 (v.withFollow row bb).params, e2 (v.withFollow row bb).params] (v.withFollow row bb) os 231) dp := by
 cases bb
 ·exact Pt v os p b
 ·exact Tl v os p b
theorem Zf (w : World) (es : List DictEntry) : RR w p b 6 (bindName pre.env_1 "POINT_WORDS" (.ref 16)) (TX es w os 231) px () (T6 es w os) px := R.leaf 6 fun K H gd lv => by rw [Fast.te10295753902157049106, Fast.te14364793385576792824, Fast.te7536695828754713326]; kernel_rfl
theorem M7 (w : World) : RR w p b 1 (alloc D0) (T0 w os) dp 16 (T1 w os) dp := R.leaf 1 fun K H gd lv => by kernel_rfl
theorem Jr : qP st = dp := by kernel_rfl
theorem Rb : Cc st = px := by kernel_rfl
theorem C2 : Ei st = sp := by kernel_rfl
theorem Hz : RR (v.withFollow row bb) p b 300 (exec st pre.env_1) (T0 (v.withFollow row bb) os) p5 .next (T6 (dE (v.withFollow row bb).params) (v.withFollow row bb) os) px := by
 rw [V9, exec_Assign_Name (env := pre.env_1) "POINT_WORDS" (Cc st) (.Dict (tS st) (tM st) (qP st)) (Ei st) (by rfl), C2, Rb]
 refine R.mono (N1 := 1 + (292 + (1 + (6 + 0)))) (by decide) (R.bind (yQ p b _ _ _ _) (R.bind (a := .ref 16) (pos1 := dp) ?_ (R.bind (yQ p b _ _ _ _) (R.bind (Zf os p b _ _) R.pure))))
 rw [arm_eval_Dict, zip_pairTrees (tS st) (tM st) pre.env_1 (qP st) (by kernel_rfl) (by kernel_rfl), dictDisplay_pairs _ (fun h => by have := congrArg List.length h; rw [pairTrees_length _ _ _ _ (by kernel_rfl) (by kernel_rfl)] at this; exact absurd this (by decide)) (by rw [pairTrees_length _ _ _ _ (by kernel_rfl) (by kernel_rfl)]; decide)]
 rw [Jr]; refine R.bind (N1 := 1) (N2 := 291) (yQ p b _ _ _ _) (R.bind (N1 := 291) (N2 := 0) (a := 16) (pos1 := dp) ?_ R.pure); unfold subDict; refine R.bind (N1 := 1) (N2 := 290) (M7 os p b _) (R.bind (N1 := 290) (N2 := 0) (a := ()) (pos1 := dp) (R.hold ?_) R.pure); rw [if_pos (by rw [pairTrees_length _ _ _ _ (by kernel_rfl) (by kernel_rfl)]; decide)]
 have pr := Uu (v.withFollow row bb) os p b
 rw [Jr] at pr; refine R.bind (N1 := 34) (N2 := 256) pr (R.hold ?_); simp only [List.forIn_cons, List.forIn_nil, bind_assoc, pure_bind]; refine R.mono (N1 := 26 + 5 + (26 + 35 + (26 + 105 + 0))) (by decide) (R.bind (R.hold (R.bind (Ut v bb os p b) (Vs os p b _ _))) ?_)
 refine R.bind (R.hold (R.bind (Z0 v bb os p b) (i7 v bb os p b _ _))) ?_; refine R.bind (R.hold (R.bind (u5 v bb os p b) (Rw v bb os p b _ _ _))) ?_; exact R.pure
end
end H08
set_option maxHeartbeats 0
namespace H08
open PySem PySem.W HD
noncomputable def ov (es : List DictEntry) (t : BT) : BT := ((((((t.ins 16 (dO es)).ins 17 (tp [.str "point" 203, .str "point" 204])).ins 18 (tp [.str "ahead" 205, .str "same" 206, .str "behind" 207])).ins 19 (tp [.str "point" 208, .str "stretch" 209])).ins 20 (tp [.str "ahead" 210, .str "begins" 211, .str "within" 212, .str "ends" 213, .str "behind" 214])).ins 21 (tp [.str "stretch" 215, .str "point" 216])).ins 22 (tp [.str "ahead" 217, .str "ended" 218, .str "holds" 219, .str "begun" 220, .str "behind" 221])
theorem t6 (P : Params) (es : List DictEntry) : xV P es = ov es (prx.tree_15 P) := by kernel_rfl
noncomputable abbrev TV (es : List DictEntry) (t : BT) (n k : Nat) (os : OsState) : SharedT := ⟨ov es t, n, {}, ⟨[]⟩, {}, k, os⟩
section
variable (w : World) (p : Program) (b : List Stmt) (os : OsState) (es : List DictEntry)
noncomputable abbrev cB (b : List Stmt) : Code := Code.body b prx.env_1
theorem U7 : segRunT treeTable p w 11 (some (.ref 6)) 1 381 (TV es (prx.tree_15 w.params) 23 232 os) (piecesOf prx.sts_19 prx.env_1 (cB b) ⟨3, 0, 3, 11⟩ [topFrame q0]) = some (.next, TV es (prx.tree_33 w.params) 37 333 os, cB b, ⟨4, 0, 4, 4⟩) := by
 refine byRow2 "special-get-raises" (P := fun w => segRunT treeTable p w 11 (some (.ref 6)) 1 381 (TV es (prx.tree_15 w.params) 23 232 os) (piecesOf prx.sts_19 prx.env_1 (cB b) ⟨3, 0, 3, 11⟩ [topFrame q0]) = some (.next, TV es (prx.tree_33 w.params) 37 333 os, cB b, ⟨4, 0, 4, 4⟩)) (fun w => ?_) (fun w => ?_) w
 ·rw [Fast.te10110043849684766642, Fast.te14364793385576792824]; kernel_rfl
 ·rw [Fast.te10110043849684766642, Fast.te14364793385576792824]; kernel_rfl
theorem To : segRunT treeTable p w 11 (some (.ref 6)) 1 312 (TV es (prx.tree_33 w.params) 37 333 os) (piecesOf prx.sts_37 prx.env_1 (cB b) ⟨4, 0, 4, 4⟩ [topFrame q0]) = some (.next, TV es (prx.tree_96 w.params) 95 412 os, cB b, ⟨44, 0, 48, 91⟩) := by
 refine byRow2 "special-get-raises" (P := fun w => segRunT treeTable p w 11 (some (.ref 6)) 1 312 (TV es (prx.tree_33 w.params) 37 333 os) (piecesOf prx.sts_37 prx.env_1 (cB b) ⟨4, 0, 4, 4⟩ [topFrame q0]) = some (.next, TV es (prx.tree_96 w.params) 95 412 os, cB b, ⟨44, 0, 48, 91⟩)) (fun w => ?_) (fun w => ?_) w
 ·rw [Fast.te10110043849684766642, Fast.te14364793385576792824]; kernel_rfl
 ·rw [Fast.te10110043849684766642, Fast.te14364793385576792824]; kernel_rfl
theorem Ws : segRunT treeTable p w 11 (some (.ref 6)) 1 393 (TV es (prx.tree_96 w.params) 95 412 os) (piecesOf prx.sts_100 prx.env_1 (cB b) ⟨44, 0, 48, 91⟩ [topFrame q0]) = some (.next, TV es (prx.tree_155 w.params) 149 490 os, cB b, ⟨81, 0, 81, 8⟩) := by
 refine byRow2 "special-get-raises" (P := fun w => segRunT treeTable p w 11 (some (.ref 6)) 1 393 (TV es (prx.tree_96 w.params) 95 412 os) (piecesOf prx.sts_100 prx.env_1 (cB b) ⟨44, 0, 48, 91⟩ [topFrame q0]) = some (.next, TV es (prx.tree_155 w.params) 149 490 os, cB b, ⟨81, 0, 81, 8⟩)) (fun w => ?_) (fun w => ?_) w
 ·rw [Fast.te10110043849684766642, Fast.te14364793385576792824]; kernel_rfl
 ·rw [Fast.te10110043849684766642, Fast.te14364793385576792824]; kernel_rfl
theorem Z7 : segRunT treeTable p w 11 (some (.ref 6)) 1 331 (TV es (prx.tree_155 w.params) 149 490 os) (piecesOf prx.sts_157 prx.env_1 (cB b) ⟨81, 0, 81, 8⟩ [topFrame q0]) = some (.next, TV es (prx.tree_227 w.params) 218 586 os, cB b, ⟨157, 0, 182, 15⟩) := by
 refine byRow2 "special-get-raises" (P := fun w => segRunT treeTable p w 11 (some (.ref 6)) 1 331 (TV es (prx.tree_155 w.params) 149 490 os) (piecesOf prx.sts_157 prx.env_1 (cB b) ⟨81, 0, 81, 8⟩ [topFrame q0]) = some (.next, TV es (prx.tree_227 w.params) 218 586 os, cB b, ⟨157, 0, 182, 15⟩)) (fun w => ?_) (fun w => ?_) w
 ·rw [Fast.te10110043849684766642, Fast.te14364793385576792824]; kernel_rfl
 ·rw [Fast.te10110043849684766642, Fast.te14364793385576792824]; kernel_rfl
end
noncomputable abbrev bE : List Stmt := behindTheImports prog
theorem w5 : bE = pre.sts_4 ++ (st :: (prx.sts_19 ++ (prx.sts_37 ++ (prx.sts_100 ++ (prx.sts_157 ++ []))))) := by kernel_rfl
theorem Py : prx.env_1 = pre.env_1 := by kernel_rfl
noncomputable abbrev SB (w : World) (os : OsState) : SharedT := ⟨pre.tree_4 w.params, 15, {}, ⟨[]⟩, {}, 187, os⟩
section
variable (w : World) (os : OsState)
theorem J9 : topGo treeTable prog w 11 (some (.ref 6)) 12 ⟨boot_heap w.params, ⟨[]⟩, boot_drawn, boot_toks, os⟩ (topStub prog) = some ((SB w os).abs, ⟨denote treeTable (.body bE pre.env_1), .body bE pre.env_1, q0, [topFrame q0]⟩) := by
 rw [Fast.te15667345088766844465, Fast.te11892475500146522536, Fast.te14364793385576792824]; kernel_rfl
theorem Pj : segRun treeTable prog w 11 (some (.ref 6)) 1 1 (SB w os).abs (blockOf bE pre.env_1 (.body bE pre.env_1) q0 [topFrame q0]) = some (.next, (SB w os).abs, .body bE pre.env_1, q0) := by
 kernel_rfl
theorem Ol (b : List Stmt) (es : List DictEntry) : topRun treeTable prog w 11 (some (.ref 6)) 2 (TV es (prx.tree_227 w.params) 218 586 os).abs ⟨doneF .next, cB b, ⟨157, 0, 182, 15⟩, [topFrame q0]⟩ = some (TV es (prx.tree_227 w.params) 218 586 os).abs := by
 kernel_rfl
theorem W1 {rest : List Stmt} {N : Nat} {r : Shared} (b : List Stmt) (h : topRun treeTable prog w 11 (some (.ref 6)) N (T6 (dE w.params) w os).abs (restOf rest pre.env_1 (.body b pre.env_1) ⟨3, 0, 3, 11⟩ [topFrame q0]) = some r) :
  topRun treeTable prog w 11 (some (.ref 6)) (301 + N) (T0 w os).abs (restOf (st :: rest) pre.env_1 (.body b pre.env_1) ⟨2, 0, 2, 5⟩ [topFrame q0]) = some r := by
 revert h
 refine byRow2 "special-get-raises" (P := fun w => topRun treeTable prog w 11 (some (.ref 6)) N (T6 (dE w.params) w os).abs (restOf rest pre.env_1 (.body b pre.env_1) ⟨3, 0, 3, 11⟩ [topFrame q0]) = some r → topRun treeTable prog w 11 (some (.ref 6)) (301 + N) (T0 w os).abs (restOf (st :: rest) pre.env_1 (.body b pre.env_1) ⟨2, 0, 2, 5⟩ [topFrame q0]) = some r) (fun w h => ?_) (fun w h => ?_) w
 ·obtain ⟨n, l, e⟩ := R.piece (Hz w false os prog b); have := topRun_mono (301 - n) _ _ _ _ (piece_cons e h)
  rw [show n + N + (301 - n) = 301 + N by omega] at this
  exact this
 ·obtain ⟨n, l, e⟩ := R.piece (Hz w true os prog b); have := topRun_mono (301 - n) _ _ _ _ (piece_cons e h)
  rw [show n + N + (301 - n) = 301 + N by omega] at this
  exact this
theorem G1 (b : List Stmt) (es : List DictEntry) : topRun treeTable prog w 11 (some (.ref 6)) (381 + (312 + (393 + (331 + 2)))) (T6 es w os).abs (restOf (prx.sts_19 ++ (prx.sts_37 ++ (prx.sts_100 ++ (prx.sts_157 ++ [])))) pre.env_1 (.body b pre.env_1) ⟨3, 0, 3, 11⟩ [topFrame q0]) = some (TV es (prx.tree_227 w.params) 218 586 os).abs := by
 have e : (T6 es w os) = TV es (prx.tree_15 w.params) 23 232 os := by
  show SharedT.mk (xV w.params es) _ _ _ _ _ _ = _
  rw [t6]
 rw [e, ← Py]; exact piece_app (segRun_of (U7 w prog b os es)) (piece_app (segRun_of (To w prog b os es)) (piece_app (segRun_of (Ws w prog b os es)) (piece_app (segRun_of (Z7 w prog b os es)) (piece_nil (Ol w os b es)))))
noncomputable def H1 (P : Params) : Heap := absHeap (ov (dE P) (prx.tree_227 P)) 218 {}
theorem W0 : topRun treeTable prog w 11 (some (.ref 6)) (12 + (1 + (33 + (301 + (381 + (312 + (393 + (331 + 2)))))))) ⟨boot_heap w.params, ⟨[]⟩, boot_drawn, boot_toks, os⟩ (topStub prog) = some ⟨H1 w.params, ⟨[]⟩, {}, 586, os⟩ := by
 refine go_top (J9 w os) (piece_block (Pj w os) ?_); rw [w5]; exact pre.chain prog _ w os _ _ _ (W1 w os _ (G1 w os _ _))
end
def qv : Program := view prog [1, 2, 3, 4, 5, 6, 7, 8, 10, 11, 12, 13, 14, 15, 16, 17, 19, 20, 21, 22, 23, 24, 25, 26, 27, 28, 29]
def lo : List Str := [Str.ofString "POINT_WORDS", Str.ofString "WAYS", Str.ofString "END_COUNTS"]
abbrev lw : OpenLaw := PySem.Challenge.rw_whens_k08_whole_three_things
abbrev XT : Shared → Bool := fun s => xlAt qv [] s && recOk (RowW.records lw.row.toRowW) s
theorem Vz (N : Nat) (h : Nat.ble 600 N = true) : ∀ w : World, (fencedOpening treeTable prog w N).map (fun s => (s.heap, s.gens, s.drawn, s.toks)) = some (boot_heap w.params, ⟨[]⟩, boot_drawn, boot_toks) := boot_open (by kernel_rfl) h (fun _ => rfl)
theorem j3 (w : World) : ((boot_heap w.params).isNs mainGlobals && (⟨[]⟩ : Array GenState).size == 0, (boot_heap w.params).objs.size, (boot_heap w.params).nsMap mainGlobals "__annotations__") = (true, 11, some (.ref 6)) := by kernel_rfl
theorem V6 (w : World) (os : OsState) : (staticsOk (importedModules prog.main.body) (boot_heap w.params) (H1 w.params) && namesBound prog (H1 w.params) && gensDone ⟨H1 w.params, ⟨[]⟩, {}, 586, os⟩ && laidKept (boot_heap w.params) (H1 w.params)) = true := by kernel_rfl
theorem C4 (w : World) (os : OsState) : openSeen qv lo (importedModules prog.main.body) XT true ⟨H1 w.params, ⟨[]⟩, {}, 586, os⟩ = openGood qv lo := by
 rw [Fast.te4187177175401517315]; kernel_rfl
theorem left (H : Hook) (hH : ∀ (w : World) (os : OsState), H.obs ⟨H1 w.params, ⟨[]⟩, {}, 586, os⟩ = H.val w) : LeftO prog qv lo XT H.obs H.val 4184 :=
 LeftO.of_pieces (H₀ := boot_heap) (H₁ := H1) (gs₀ := ⟨[]⟩) (gs₁ := ⟨[]⟩) (d₀ := boot_drawn) (d₁ := {}) (k₀ := boot_toks) (k₁ := 586) (m₀ := 11) (ann := some (.ref 6)) (M := 1766) (Vz 4184 (by decide)) j3 W0 (by decide) fun w => funext fun os => by rw [V6 w os, C4 w os, hH w os]
theorem head {H : Hook} {d : DefRec} {kwd : List (Str × Expr)} (hH : ∀ (w : World) (os : OsState), H.obs ⟨H1 w.params, ⟨[]⟩, {}, 586, os⟩ = H.val w) (k1 : lw.row.wellSaid = true) (hdef : defOf qv lw.row.name = some (d, kwd)) (hp : lw.row.prog.theDef lw.row.name = some (d.params, d.body, d.scope)) (hk : kwWritten? d.params.kwonlyargs d.params.kw_defaults = some kwd)
  (hw : lw.row.toRowW.promised) (call : WalkO qv lo (XL qv []) H.says lw.row.toRowW d kwd fun f vs => PySem.call f vs) : lw.row.Holds :=
 holds_open (q := qv) (loose := lo) (Xt := XT) (XP := XL qv []) (Yf := H.obs) (Ya := H.val) (YP := H.says) (N := 4184) (left H hH) (Hook.of H) (Hook.keeps H) (fun s e => xl_of s (Bool.and_eq_true_iff.mp e).1) XL.keeps hdef hp hk (fun s e => recFacts_of (Bool.and_eq_true_iff.mp e).2) (by rfl) k1 (by decide +kernel) ⟨rfl, rfl, rfl, rfl, rfl, by decide +kernel⟩ hw call
end H08
namespace K08
open PySem PySem.Spec PyProof.Rows L2 DL
theorem rY {P : List Value → Prop} (h : P []) : ∀ us : List Value, us.length = 0 → P us
 | [], _ => h
 | _ :: _, e => nomatch e
theorem eA {P : List Value → Prop} {n : Nat} (h : ∀ a us, us.length = n → P (a :: us)) : ∀ us : List Value, us.length = n + 1 → P us
 | [], e => nomatch e
 | a :: us, e => h a us (Nat.succ.inj e)
theorem qY {fd : FuncData} {ps : List Str} (h : ∀ a0, bindArgs fd { pos := [a0] } = pure (ps.zip [a0])) (us : List Value) (hl : us.length = 1) : bindArgs fd { pos := us } = pure (ps.zip us) :=
 (eA (P := fun us => bindArgs fd { pos := us } = pure (ps.zip (us))) (fun a0 => rY (P := fun us => bindArgs fd { pos := a0 :: us } = pure (ps.zip (a0 :: us))) (h a0))) us hl
theorem eW {fd : FuncData} {ps : List Str} (h : ∀ a0 a1, bindArgs fd { pos := [a0, a1] } = pure (ps.zip [a0, a1])) (us : List Value) (hl : us.length = 2) : bindArgs fd { pos := us } = pure (ps.zip us) :=
 (eA (P := fun us => bindArgs fd { pos := us } = pure (ps.zip (us))) (fun a0 => eA (P := fun us => bindArgs fd { pos := a0 :: us } = pure (ps.zip (a0 :: us))) (fun a1 => rY (P := fun us => bindArgs fd { pos := a0 :: a1 :: us } = pure (ps.zip (a0 :: a1 :: us))) (h a0 a1)))) us hl
theorem zD {fd : FuncData} {ps : List Str} (h : ∀ a0 a1 a2, bindArgs fd { pos := [a0, a1, a2] } = pure (ps.zip [a0, a1, a2])) (us : List Value) (hl : us.length = 3) : bindArgs fd { pos := us } = pure (ps.zip us) :=
 (eA (P := fun us => bindArgs fd { pos := us } = pure (ps.zip (us))) (fun a0 => eA (P := fun us => bindArgs fd { pos := a0 :: us } = pure (ps.zip (a0 :: us))) (fun a1 => eA (P := fun us => bindArgs fd { pos := a0 :: a1 :: us } = pure (ps.zip (a0 :: a1 :: us))) (fun a2 => rY (P := fun us => bindArgs fd { pos := a0 :: a1 :: a2 :: us } = pure (ps.zip (a0 :: a1 :: a2 :: us))) (h a0 a1 a2))))) us hl
theorem yF {fd : FuncData} {ps : List Str} (h : ∀ a0 a1 a2 a3, bindArgs fd { pos := [a0, a1, a2, a3] } = pure (ps.zip [a0, a1, a2, a3])) (us : List Value) (hl : us.length = 4) : bindArgs fd { pos := us } = pure (ps.zip us) :=
 (eA (P := fun us => bindArgs fd { pos := us } = pure (ps.zip (us))) (fun a0 => eA (P := fun us => bindArgs fd { pos := a0 :: us } = pure (ps.zip (a0 :: us))) (fun a1 => eA (P := fun us => bindArgs fd { pos := a0 :: a1 :: us } = pure (ps.zip (a0 :: a1 :: us))) (fun a2 => eA (P := fun us => bindArgs fd { pos := a0 :: a1 :: a2 :: us } = pure (ps.zip (a0 :: a1 :: a2 :: us))) (fun a3 => rY (P := fun us => bindArgs fd { pos := a0 :: a1 :: a2 :: a3 :: us } = pure (ps.zip (a0 :: a1 :: a2 :: a3 :: us))) (h a0 a1 a2 a3)))))) us hl
theorem Se {fd : FuncData} {ps : List Str} (h : ∀ a0 a1 a2 a3 a4, bindArgs fd { pos := [a0, a1, a2, a3, a4] } = pure (ps.zip [a0, a1, a2, a3, a4])) (us : List Value) (hl : us.length = 5) : bindArgs fd { pos := us } = pure (ps.zip us) :=
 (eA (P := fun us => bindArgs fd { pos := us } = pure (ps.zip (us))) (fun a0 => eA (P := fun us => bindArgs fd { pos := a0 :: us } = pure (ps.zip (a0 :: us))) (fun a1 => eA (P := fun us => bindArgs fd { pos := a0 :: a1 :: us } = pure (ps.zip (a0 :: a1 :: us))) (fun a2 => eA (P := fun us => bindArgs fd { pos := a0 :: a1 :: a2 :: us } = pure (ps.zip (a0 :: a1 :: a2 :: us))) (fun a3 => eA (P := fun us => bindArgs fd { pos := a0 :: a1 :: a2 :: a3 :: us } = pure (ps.zip (a0 :: a1 :: a2 :: a3 :: us))) (fun a4 => rY (P := fun us => bindArgs fd { pos := a0 :: a1 :: a2 :: a3 :: a4 :: us } = pure (ps.zip (a0 :: a1 :: a2 :: a3 :: a4 :: us))) (h a0 a1 a2 a3 a4))))))) us hl
theorem all_mk {l : PySem.W.OpenLaw} {w : World} {K : PySem.W.Frag} {h : Heap} {mg : Str → Option Value} {fa : Addr} (X : K.In h) (G : h.Ns mainGlobals mg) (hfa : mg "law" = some (.ref fa))
  {bQ : Addr} (g_Behinds : PySem.W.nsIn K mainGlobals "Behinds" = some (some (.ref bQ))) (pg_Behinds : PySem.W.plainGet K bQ Str.empty = true) (hd_Behinds : PySem.W.hasDictIn K bQ = true) (po_Behinds : PySem.W.plainOver K bQ = true) (sa_Behinds : PySem.W.findIn K (.ref bQ) "__setattr__" = some (some (.builtin "object.__setattr__")))
  (mk_Behinds : PySem.W.makesIn K bQ = true) (kc_Behinds : PySem.W.keepIn K (.ref bQ) = true)
  (n_Behinds_by_words : PySem.W.findIn K (.ref bQ) "by_words" = some none)
  (n_Behinds_by_mays : PySem.W.findIn K (.ref bQ) "by_mays" = some none)
  {uZ : Addr} {od_0 an_0 : Option Addr} {sl_0 : Array (Option Value)} {oc_0 kV_0 dc_0 pm_0 cd_0 ct_0 : Value} (a0 : PySem.W.nsIn K mainGlobals "words_of" = some (some (.ref uZ))) (l0 : K.lookup uZ = some ⟨oc_0, od_0, .func (PySem.W.fnOf "words_of" "words_of" (bC fT) (aZ fT) (aO fT) .none kV_0 dc_0 pm_0 an_0 cd_0 ct_0), sl_0⟩) (c0 : PySem.W.codeIn K cd_0 "words_of" = true) (k0 : PySem.W.keepIn K (.ref uZ) = true)
  {tG : Addr} {od_1 an_1 : Option Addr} {sl_1 : Array (Option Value)} {oc_1 kV_1 dc_1 pm_1 cd_1 ct_1 : Value} (a1 : PySem.W.nsIn K mainGlobals "turned" = some (some (.ref tG))) (l1 : K.lookup tG = some ⟨oc_1, od_1, .func (PySem.W.fnOf "turned" "turned" (bC fY) (aZ fY) (aO fY) .none kV_1 dc_1 pm_1 an_1 cd_1 ct_1), sl_1⟩) (c1 : PySem.W.codeIn K cd_1 "turned" = true) (k1 : PySem.W.keepIn K (.ref tG) = true)
  {tO : Addr} {od_2 an_2 : Option Addr} {sl_2 : Array (Option Value)} {oc_2 kV_2 dc_2 pm_2 cd_2 ct_2 : Value} (a2 : PySem.W.nsIn K mainGlobals "turned_may" = some (some (.ref tO))) (l2 : K.lookup tO = some ⟨oc_2, od_2, .func (PySem.W.fnOf "turned_may" "turned_may" (bC iD) (aZ iD) (aO iD) .none kV_2 dc_2 pm_2 an_2 cd_2 ct_2), sl_2⟩) (c2 : PySem.W.codeIn K cd_2 "turned_may" = true) (k2 : PySem.W.keepIn K (.ref tO) = true)
  {tK : Addr} {od_3 an_3 : Option Addr} {sl_3 : Array (Option Value)} {oc_3 kV_3 dc_3 pm_3 cd_3 ct_3 : Value} (a3 : PySem.W.nsIn K mainGlobals "ways_by" = some (some (.ref tK))) (l3 : K.lookup tK = some ⟨oc_3, od_3, .func (PySem.W.fnOf "ways_by" "ways_by" (bC fK) (aZ fK) (aO fK) .none kV_3 dc_3 pm_3 an_3 cd_3 ct_3), sl_3⟩) (c3 : PySem.W.codeIn K cd_3 "ways_by" = true) (k3 : PySem.W.keepIn K (.ref tK) = true)
  {tF : Addr} {od_4 an_4 : Option Addr} {sl_4 : Array (Option Value)} {oc_4 kV_4 dc_4 pm_4 cd_4 ct_4 : Value} (a4 : PySem.W.nsIn K mainGlobals "forced_way" = some (some (.ref tF))) (l4 : K.lookup tF = some ⟨oc_4, od_4, .func (PySem.W.fnOf "forced_way" "forced_way" (bC iC) (aZ iC) (aO iC) .none kV_4 dc_4 pm_4 an_4 cd_4 ct_4), sl_4⟩) (c4 : PySem.W.codeIn K cd_4 "forced_way" = true) (k4 : PySem.W.keepIn K (.ref tF) = true)
  {wA : Addr} {od_5 an_5 : Option Addr} {sl_5 : Array (Option Value)} {oc_5 kV_5 dc_5 pm_5 cd_5 ct_5 : Value} (a5 : PySem.W.nsIn K mainGlobals "forced_by" = some (some (.ref wA))) (l5 : K.lookup wA = some ⟨oc_5, od_5, .func (PySem.W.fnOf "forced_by" "forced_by" (bC gY) (aZ gY) (aO gY) .none kV_5 dc_5 pm_5 an_5 cd_5 ct_5), sl_5⟩) (c5 : PySem.W.codeIn K cd_5 "forced_by" = true) (k5 : PySem.W.keepIn K (.ref wA) = true)
  {uI : Addr} {od_6 an_6 : Option Addr} {sl_6 : Array (Option Value)} {oc_6 kV_6 dc_6 pm_6 cd_6 ct_6 : Value} (a6 : PySem.W.nsIn K mainGlobals "forced_ways" = some (some (.ref uI))) (l6 : K.lookup uI = some ⟨oc_6, od_6, .func (PySem.W.fnOf "forced_ways" "forced_ways" (bC iG) (aZ iG) (aO iG) .none kV_6 dc_6 pm_6 an_6 cd_6 ct_6), sl_6⟩) (c6 : PySem.W.codeIn K cd_6 "forced_ways" = true) (k6 : PySem.W.keepIn K (.ref uI) = true)
  {vG : Addr} {od_7 an_7 : Option Addr} {sl_7 : Array (Option Value)} {oc_7 kV_7 dc_7 pm_7 cd_7 ct_7 : Value} (a7 : PySem.W.nsIn K mainGlobals "go_with" = some (some (.ref vG))) (l7 : K.lookup vG = some ⟨oc_7, od_7, .func (PySem.W.fnOf "go_with" "go_with" (bC gF) (aZ gF) (aO gF) .none kV_7 dc_7 pm_7 an_7 cd_7 ct_7), sl_7⟩) (c7 : PySem.W.codeIn K cd_7 "go_with" = true) (k7 : PySem.W.keepIn K (.ref vG) = true)
  {uE : Addr} {od_8 an_8 : Option Addr} {sl_8 : Array (Option Value)} {oc_8 kV_8 dc_8 pm_8 cd_8 ct_8 : Value} (a8 : PySem.W.nsIn K mainGlobals "behind_words" = some (some (.ref uE))) (l8 : K.lookup uE = some ⟨oc_8, od_8, .func (PySem.W.fnOf "behind_words" "behind_words" (bC eR) (aZ eR) (aO eR) .none kV_8 dc_8 pm_8 an_8 cd_8 ct_8), sl_8⟩) (c8 : PySem.W.codeIn K cd_8 "behind_words" = true) (k8 : PySem.W.keepIn K (.ref uE) = true)
  {pG : Addr} {od_9 an_9 : Option Addr} {sl_9 : Array (Option Value)} {oc_9 kV_9 dc_9 pm_9 cd_9 ct_9 : Value} (a9 : PySem.W.findIn K (.ref bQ) "__init__" = some (some (.ref pG))) (l9 : K.lookup pG = some ⟨oc_9, od_9, .func (PySem.W.fnOf "__init__" "Behinds.__init__" (bC gU) (aZ gU) (aO gU) .none kV_9 dc_9 pm_9 an_9 cd_9 ct_9), sl_9⟩) (c9 : PySem.W.codeIn K cd_9 "Behinds.__init__" = true) (k9 : PySem.W.keepIn K (.ref pG) = true)
  (i9 : PySem.W.isFn K (.ref pG) = true)
  {oE : Addr} {od_10 an_10 : Option Addr} {sl_10 : Array (Option Value)} {oc_10 kV_10 dc_10 pm_10 cd_10 ct_10 : Value} (a10 : PySem.W.findIn K (.ref bQ) "words" = some (some (.ref oE))) (l10 : K.lookup oE = some ⟨oc_10, od_10, .func (PySem.W.fnOf "words" "Behinds.words" (bC hX) (aZ hX) (aO hX) .none kV_10 dc_10 pm_10 an_10 cd_10 ct_10), sl_10⟩) (c10 : PySem.W.codeIn K cd_10 "Behinds.words" = true) (k10 : PySem.W.keepIn K (.ref oE) = true)
  (i10 : PySem.W.isFn K (.ref oE) = true)
  {pL : Addr} {od_11 an_11 : Option Addr} {sl_11 : Array (Option Value)} {oc_11 kV_11 dc_11 pm_11 cd_11 ct_11 : Value} (a11 : PySem.W.findIn K (.ref bQ) "gathered" = some (some (.ref pL))) (l11 : K.lookup pL = some ⟨oc_11, od_11, .func (PySem.W.fnOf "gathered" "Behinds.gathered" (bC gL) (aZ gL) (aO gL) .none kV_11 dc_11 pm_11 an_11 cd_11 ct_11), sl_11⟩) (c11 : PySem.W.codeIn K cd_11 "Behinds.gathered" = true) (k11 : PySem.W.keepIn K (.ref pL) = true)
  (i11 : PySem.W.isFn K (.ref pL) = true)
  {sU : Addr} {od_12 an_12 : Option Addr} {sl_12 : Array (Option Value)} {oc_12 kV_12 dc_12 pm_12 cd_12 ct_12 : Value} (a12 : PySem.W.nsIn K mainGlobals "behind_mays" = some (some (.ref sU))) (l12 : K.lookup sU = some ⟨oc_12, od_12, .func (PySem.W.fnOf "behind_mays" "behind_mays" (bC gH) (aZ gH) (aO gH) .none kV_12 dc_12 pm_12 an_12 cd_12 ct_12), sl_12⟩) (c12 : PySem.W.codeIn K cd_12 "behind_mays" = true) (k12 : PySem.W.keepIn K (.ref sU) = true)
  {sX : Addr} {od_13 an_13 : Option Addr} {sl_13 : Array (Option Value)} {oc_13 kV_13 dc_13 pm_13 cd_13 ct_13 : Value} (a13 : PySem.W.nsIn K mainGlobals "fits_three" = some (some (.ref sX))) (l13 : K.lookup sX = some ⟨oc_13, od_13, .func (PySem.W.fnOf "fits_three" "fits_three" (bC hR) (aZ hR) (aO hR) .none kV_13 dc_13 pm_13 an_13 cd_13 ct_13), sl_13⟩) (c13 : PySem.W.codeIn K cd_13 "fits_three" = true) (k13 : PySem.W.keepIn K (.ref sX) = true)
  {tN : Addr} {od_14 an_14 : Option Addr} {sl_14 : Array (Option Value)} {oc_14 kV_14 dc_14 pm_14 cd_14 ct_14 : Value} (a14 : PySem.W.nsIn K mainGlobals "_law_feed" = some (some (.ref tN))) (l14 : K.lookup tN = some ⟨oc_14, od_14, .func (PySem.W.fnOf "_law_feed" "_law_feed" (bC hJ) (aZ hJ) (aO hJ) .none kV_14 dc_14 pm_14 an_14 cd_14 ct_14), sl_14⟩) (c14 : PySem.W.codeIn K cd_14 "_law_feed" = true) (k14 : PySem.W.keepIn K (.ref tN) = true)
  {vK : Addr} {od_15 an_15 : Option Addr} {sl_15 : Array (Option Value)} {oc_15 kV_15 dc_15 pm_15 cd_15 ct_15 : Value} (a15 : PySem.W.nsIn K mainGlobals "_law_draw" = some (some (.ref vK))) (l15 : K.lookup vK = some ⟨oc_15, od_15, .func (PySem.W.fnOf "_law_draw" "_law_draw" (bC eM) (aZ eM) (aO eM) .none kV_15 dc_15 pm_15 an_15 cd_15 ct_15), sl_15⟩) (c15 : PySem.W.codeIn K cd_15 "_law_draw" = true) (k15 : PySem.W.keepIn K (.ref vK) = true)
  {uW : Addr} {od_16 an_16 : Option Addr} {sl_16 : Array (Option Value)} {oc_16 kV_16 dc_16 pm_16 cd_16 ct_16 : Value} (a16 : PySem.W.nsIn K mainGlobals "_law_fraction" = some (some (.ref uW))) (l16 : K.lookup uW = some ⟨oc_16, od_16, .func (PySem.W.fnOf "_law_fraction" "_law_fraction" (bC gD) (aZ gD) (aO gD) .none kV_16 dc_16 pm_16 an_16 cd_16 ct_16), sl_16⟩) (c16 : PySem.W.codeIn K cd_16 "_law_fraction" = true) (k16 : PySem.W.keepIn K (.ref uW) = true)
  {sK : Addr} {od_17 an_17 : Option Addr} {sl_17 : Array (Option Value)} {oc_17 kV_17 dc_17 pm_17 cd_17 ct_17 : Value} (a17 : PySem.W.nsIn K mainGlobals "_law_stand" = some (some (.ref sK))) (l17 : K.lookup sK = some ⟨oc_17, od_17, .func (PySem.W.fnOf "_law_stand" "_law_stand" (bC iF) (aZ iF) (aO iF) .none kV_17 dc_17 pm_17 an_17 cd_17 ct_17), sl_17⟩) (c17 : PySem.W.codeIn K cd_17 "_law_stand" = true) (k17 : PySem.W.keepIn K (.ref sK) = true)
  {sH : Addr} {od_18 an_18 : Option Addr} {sl_18 : Array (Option Value)} {oc_18 kV_18 dc_18 pm_18 cd_18 ct_18 : Value} (a18 : PySem.W.nsIn K mainGlobals "_law_word" = some (some (.ref sH))) (l18 : K.lookup sH = some ⟨oc_18, od_18, .func (PySem.W.fnOf "_law_word" "_law_word" (bC gZ) (aZ gZ) (aO gZ) .none kV_18 dc_18 pm_18 an_18 cd_18 ct_18), sl_18⟩) (c18 : PySem.W.codeIn K cd_18 "_law_word" = true) (k18 : PySem.W.keepIn K (.ref sH) = true)
  {wB : Addr} {od_19 an_19 : Option Addr} {sl_19 : Array (Option Value)} {oc_19 kV_19 dc_19 pm_19 cd_19 ct_19 : Value} (a19 : PySem.W.nsIn K mainGlobals "_law_words" = some (some (.ref wB))) (l19 : K.lookup wB = some ⟨oc_19, od_19, .func (PySem.W.fnOf "_law_words" "_law_words" (bC fP) (aZ fP) (aO fP) .none kV_19 dc_19 pm_19 an_19 cd_19 ct_19), sl_19⟩) (c19 : PySem.W.codeIn K cd_19 "_law_words" = true) (k19 : PySem.W.keepIn K (.ref wB) = true)
  {wP : Addr} {od_20 an_20 : Option Addr} {sl_20 : Array (Option Value)} {oc_20 kV_20 dc_20 pm_20 cd_20 ct_20 : Value} (a20 : PySem.W.nsIn K mainGlobals "_law_kinds" = some (some (.ref wP))) (l20 : K.lookup wP = some ⟨oc_20, od_20, .func (PySem.W.fnOf "_law_kinds" "_law_kinds" (bC gX) (aZ gX) (aO gX) .none kV_20 dc_20 pm_20 an_20 cd_20 ct_20), sl_20⟩) (c20 : PySem.W.codeIn K cd_20 "_law_kinds" = true) (k20 : PySem.W.keepIn K (.ref wP) = true)
  {tD : Addr} {od_21 an_21 : Option Addr} {sl_21 : Array (Option Value)} {oc_21 kV_21 dc_21 pm_21 cd_21 ct_21 : Value} (a21 : PySem.W.nsIn K mainGlobals "_law_may" = some (some (.ref tD))) (l21 : K.lookup tD = some ⟨oc_21, od_21, .func (PySem.W.fnOf "_law_may" "_law_may" (bC gW) (aZ gW) (aO gW) .none kV_21 dc_21 pm_21 an_21 cd_21 ct_21), sl_21⟩) (c21 : PySem.W.codeIn K cd_21 "_law_may" = true) (k21 : PySem.W.keepIn K (.ref tD) = true)
  {sQ : Addr} {od_22 an_22 : Option Addr} {sl_22 : Array (Option Value)} {oc_22 kV_22 dc_22 pm_22 cd_22 ct_22 : Value} (a22 : PySem.W.nsIn K mainGlobals "_law_times" = some (some (.ref sQ))) (l22 : K.lookup sQ = some ⟨oc_22, od_22, .func (PySem.W.fnOf "_law_times" "_law_times" (bC gJ) (aZ gJ) (aO gJ) .none kV_22 dc_22 pm_22 an_22 cd_22 ct_22), sl_22⟩) (c22 : PySem.W.codeIn K cd_22 "_law_times" = true) (k22 : PySem.W.keepIn K (.ref sQ) = true)
  {tQ : Addr} {od_23 an_23 : Option Addr} {sl_23 : Array (Option Value)} {oc_23 kV_23 dc_23 pm_23 cd_23 ct_23 : Value} (a23 : PySem.W.nsIn K mainGlobals "_law_telling" = some (some (.ref tQ))) (l23 : K.lookup tQ = some ⟨oc_23, od_23, .func (PySem.W.fnOf "_law_telling" "_law_telling" (bC gS) (aZ gS) (aO gS) .none kV_23 dc_23 pm_23 an_23 cd_23 ct_23), sl_23⟩) (c23 : PySem.W.codeIn K cd_23 "_law_telling" = true) (k23 : PySem.W.keepIn K (.ref tQ) = true)
  {tZ : Addr} {od_24 an_24 : Option Addr} {sl_24 : Array (Option Value)} {oc_24 kV_24 dc_24 pm_24 cd_24 ct_24 : Value} (a24 : PySem.W.nsIn K mainGlobals "law" = some (some (.ref tZ))) (l24 : K.lookup tZ = some ⟨oc_24, od_24, .func (PySem.W.fnOf "law" "law" (bC fE) (aZ fE) (aO fE) .none kV_24 dc_24 pm_24 an_24 cd_24 ct_24), sl_24⟩) (c24 : PySem.W.codeIn K cd_24 "law" = true) (k24 : PySem.W.keepIn K (.ref tZ) = true)
  {jS r_WAYS_0 r_WAYS_1 r_WAYS_2 r_WAYS_3 r_WAYS_4 r_WAYS_5 r_WAYS_6 r_WAYS_7 r_WAYS_8 r_WAYS_9 r_WAYS_10 r_WAYS_11 r_WAYS_12 : Addr} {n_WAYS : Nat} {t_WAYS_0 u_WAYS_0_0 u_WAYS_0_1 u_WAYS_0_2 u_WAYS_0_3 t_WAYS_1 u_WAYS_1_0 u_WAYS_1_1 u_WAYS_1_2 u_WAYS_1_3 t_WAYS_2 u_WAYS_2_0 u_WAYS_2_1 u_WAYS_2_2 u_WAYS_2_3 t_WAYS_3 u_WAYS_3_0 u_WAYS_3_1 u_WAYS_3_2 u_WAYS_3_3 t_WAYS_4 u_WAYS_4_0 u_WAYS_4_1 u_WAYS_4_2 u_WAYS_4_3 t_WAYS_5 u_WAYS_5_0 u_WAYS_5_1 u_WAYS_5_2 u_WAYS_5_3 t_WAYS_6 u_WAYS_6_0 u_WAYS_6_1 u_WAYS_6_2 u_WAYS_6_3 t_WAYS_7 u_WAYS_7_0 u_WAYS_7_1 u_WAYS_7_2 u_WAYS_7_3 t_WAYS_8 u_WAYS_8_0 u_WAYS_8_1 u_WAYS_8_2 u_WAYS_8_3 t_WAYS_9 u_WAYS_9_0 u_WAYS_9_1 u_WAYS_9_2 u_WAYS_9_3 t_WAYS_10 u_WAYS_10_0 u_WAYS_10_1 u_WAYS_10_2 u_WAYS_10_3 t_WAYS_11 u_WAYS_11_0 u_WAYS_11_1 u_WAYS_11_2 u_WAYS_11_3 t_WAYS_12 u_WAYS_12_0 u_WAYS_12_1 u_WAYS_12_2 u_WAYS_12_3 : Tok} (Dq : PySem.W.nsIn K mainGlobals "WAYS" = some (some (.ref jS))) (Eb : K.lookup jS = some ⟨.type "dict", none, .dict #[⟨PyData.keyHash w.params "ahead", .str "ahead" t_WAYS_0, .ref r_WAYS_0⟩, ⟨PyData.keyHash w.params "meets", .str "meets" t_WAYS_1, .ref r_WAYS_1⟩, ⟨PyData.keyHash w.params "overlaps", .str "overlaps" t_WAYS_2, .ref r_WAYS_2⟩, ⟨PyData.keyHash w.params "begins", .str "begins" t_WAYS_3, .ref r_WAYS_3⟩, ⟨PyData.keyHash w.params "within", .str "within" t_WAYS_4, .ref r_WAYS_4⟩, ⟨PyData.keyHash w.params "ends", .str "ends" t_WAYS_5, .ref r_WAYS_5⟩, ⟨PyData.keyHash w.params "same", .str "same" t_WAYS_6, .ref r_WAYS_6⟩, ⟨PyData.keyHash w.params "ended", .str "ended" t_WAYS_7, .ref r_WAYS_7⟩, ⟨PyData.keyHash w.params "holds", .str "holds" t_WAYS_8, .ref r_WAYS_8⟩, ⟨PyData.keyHash w.params "begun", .str "begun" t_WAYS_9, .ref r_WAYS_9⟩, ⟨PyData.keyHash w.params "lapped", .str "lapped" t_WAYS_10, .ref r_WAYS_10⟩, ⟨PyData.keyHash w.params "met", .str "met" t_WAYS_11, .ref r_WAYS_11⟩, ⟨PyData.keyHash w.params "behind", .str "behind" t_WAYS_12, .ref r_WAYS_12⟩] n_WAYS, #[]⟩) {n_WAYS_0 : Nat} {sl_WAYS_0 : Array (Option Value)} (Ai : K.lookup r_WAYS_0 = some ⟨.type "tuple", none, .seq #[.int (-1) u_WAYS_0_0, .int (-1) u_WAYS_0_1, .int (-1) u_WAYS_0_2, .int (-1) u_WAYS_0_3] n_WAYS_0, sl_WAYS_0⟩) {n_WAYS_1 : Nat} {sl_WAYS_1 : Array (Option Value)} (wY : K.lookup r_WAYS_1 = some ⟨.type "tuple", none, .seq #[.int (-1) u_WAYS_1_0, .int (-1) u_WAYS_1_1, .int (0) u_WAYS_1_2, .int (-1) u_WAYS_1_3] n_WAYS_1, sl_WAYS_1⟩) {n_WAYS_2 : Nat} {sl_WAYS_2 : Array (Option Value)} (Bu : K.lookup r_WAYS_2 = some ⟨.type "tuple", none, .seq #[.int (-1) u_WAYS_2_0, .int (-1) u_WAYS_2_1, .int (1) u_WAYS_2_2, .int (-1) u_WAYS_2_3] n_WAYS_2, sl_WAYS_2⟩) {n_WAYS_3 : Nat} {sl_WAYS_3 : Array (Option Value)} (zS : K.lookup r_WAYS_3 = some ⟨.type "tuple", none, .seq #[.int (0) u_WAYS_3_0, .int (-1) u_WAYS_3_1, .int (1) u_WAYS_3_2, .int (-1) u_WAYS_3_3] n_WAYS_3, sl_WAYS_3⟩) {n_WAYS_4 : Nat} {sl_WAYS_4 : Array (Option Value)} (yG : K.lookup r_WAYS_4 = some ⟨.type "tuple", none, .seq #[.int (1) u_WAYS_4_0, .int (-1) u_WAYS_4_1, .int (1) u_WAYS_4_2, .int (-1) u_WAYS_4_3] n_WAYS_4, sl_WAYS_4⟩) {n_WAYS_5 : Nat} {sl_WAYS_5 : Array (Option Value)} (Ch : K.lookup r_WAYS_5 = some ⟨.type "tuple", none, .seq #[.int (1) u_WAYS_5_0, .int (-1) u_WAYS_5_1, .int (1) u_WAYS_5_2, .int (0) u_WAYS_5_3] n_WAYS_5, sl_WAYS_5⟩) {n_WAYS_6 : Nat} {sl_WAYS_6 : Array (Option Value)} (xJ : K.lookup r_WAYS_6 = some ⟨.type "tuple", none, .seq #[.int (0) u_WAYS_6_0, .int (-1) u_WAYS_6_1, .int (1) u_WAYS_6_2, .int (0) u_WAYS_6_3] n_WAYS_6, sl_WAYS_6⟩) {n_WAYS_7 : Nat} {sl_WAYS_7 : Array (Option Value)} (Aj : K.lookup r_WAYS_7 = some ⟨.type "tuple", none, .seq #[.int (-1) u_WAYS_7_0, .int (-1) u_WAYS_7_1, .int (1) u_WAYS_7_2, .int (0) u_WAYS_7_3] n_WAYS_7, sl_WAYS_7⟩) {n_WAYS_8 : Nat} {sl_WAYS_8 : Array (Option Value)} (xU : K.lookup r_WAYS_8 = some ⟨.type "tuple", none, .seq #[.int (-1) u_WAYS_8_0, .int (-1) u_WAYS_8_1, .int (1) u_WAYS_8_2, .int (1) u_WAYS_8_3] n_WAYS_8, sl_WAYS_8⟩) {n_WAYS_9 : Nat} {sl_WAYS_9 : Array (Option Value)} (Cj : K.lookup r_WAYS_9 = some ⟨.type "tuple", none, .seq #[.int (0) u_WAYS_9_0, .int (-1) u_WAYS_9_1, .int (1) u_WAYS_9_2, .int (1) u_WAYS_9_3] n_WAYS_9, sl_WAYS_9⟩) {n_WAYS_10 : Nat} {sl_WAYS_10 : Array (Option Value)} (El : K.lookup r_WAYS_10 = some ⟨.type "tuple", none, .seq #[.int (1) u_WAYS_10_0, .int (-1) u_WAYS_10_1, .int (1) u_WAYS_10_2, .int (1) u_WAYS_10_3] n_WAYS_10, sl_WAYS_10⟩) {n_WAYS_11 : Nat} {sl_WAYS_11 : Array (Option Value)} (Ea : K.lookup r_WAYS_11 = some ⟨.type "tuple", none, .seq #[.int (1) u_WAYS_11_0, .int (0) u_WAYS_11_1, .int (1) u_WAYS_11_2, .int (1) u_WAYS_11_3] n_WAYS_11, sl_WAYS_11⟩) {n_WAYS_12 : Nat} {sl_WAYS_12 : Array (Option Value)} (yK : K.lookup r_WAYS_12 = some ⟨.type "tuple", none, .seq #[.int (1) u_WAYS_12_0, .int (1) u_WAYS_12_1, .int (1) u_WAYS_12_2, .int (1) u_WAYS_12_3] n_WAYS_12, sl_WAYS_12⟩) (y_WAYS : (jS == sysModules) = false)
  {jZ : Addr} {n_END_COUNTS : Nat} {t_END_COUNTS_0 u_END_COUNTS_0 t_END_COUNTS_1 u_END_COUNTS_1 : Tok} (zK : PySem.W.nsIn K mainGlobals "END_COUNTS" = some (some (.ref jZ))) (Cq : K.lookup jZ = some ⟨.type "dict", none, .dict #[⟨PyData.keyHash w.params "point", .str "point" t_END_COUNTS_0, .int (1) u_END_COUNTS_0⟩, ⟨PyData.keyHash w.params "stretch", .str "stretch" t_END_COUNTS_1, .int (2) u_END_COUNTS_1⟩] n_END_COUNTS, #[]⟩)  (y_END_COUNTS : (jZ == sysModules) = false)
  {jT k_POINT_WORDS_0 r_POINT_WORDS_0 k_POINT_WORDS_1 r_POINT_WORDS_1 k_POINT_WORDS_2 r_POINT_WORDS_2 : Addr} {n_POINT_WORDS : Nat} {tk_POINT_WORDS_0_0 tk_POINT_WORDS_0_1 tr_POINT_WORDS_0_0 tr_POINT_WORDS_0_1 tr_POINT_WORDS_0_2 tk_POINT_WORDS_1_0 tk_POINT_WORDS_1_1 tr_POINT_WORDS_1_0 tr_POINT_WORDS_1_1 tr_POINT_WORDS_1_2 tr_POINT_WORDS_1_3 tr_POINT_WORDS_1_4 tk_POINT_WORDS_2_0 tk_POINT_WORDS_2_1 tr_POINT_WORDS_2_0 tr_POINT_WORDS_2_1 tr_POINT_WORDS_2_2 tr_POINT_WORDS_2_3 tr_POINT_WORDS_2_4 : Tok} (yN : PySem.W.nsIn K mainGlobals "POINT_WORDS" = some (some (.ref jT))) (Bj : K.lookup jT = some ⟨.type "dict", none, .dict #[⟨reduceHash (Builtin.Tuple.tupleHashOf [PyData.keyHash w.params "point", PyData.keyHash w.params "point"]), .ref k_POINT_WORDS_0, .ref r_POINT_WORDS_0⟩, ⟨reduceHash (Builtin.Tuple.tupleHashOf [PyData.keyHash w.params "point", PyData.keyHash w.params "stretch"]), .ref k_POINT_WORDS_1, .ref r_POINT_WORDS_1⟩, ⟨reduceHash (Builtin.Tuple.tupleHashOf [PyData.keyHash w.params "stretch", PyData.keyHash w.params "point"]), .ref k_POINT_WORDS_2, .ref r_POINT_WORDS_2⟩] n_POINT_WORDS, #[]⟩) {nk_POINT_WORDS_0 : Nat} {slk_POINT_WORDS_0 : Array (Option Value)} (lk_POINT_WORDS_0 : K.lookup k_POINT_WORDS_0 = some ⟨.type "tuple", none, .seq #[.str "point" tk_POINT_WORDS_0_0, .str "point" tk_POINT_WORDS_0_1] nk_POINT_WORDS_0, slk_POINT_WORDS_0⟩) {nr_POINT_WORDS_0 : Nat} {slr_POINT_WORDS_0 : Array (Option Value)} (lr_POINT_WORDS_0 : K.lookup r_POINT_WORDS_0 = some ⟨.type "tuple", none, .seq #[.str "ahead" tr_POINT_WORDS_0_0, .str "same" tr_POINT_WORDS_0_1, .str "behind" tr_POINT_WORDS_0_2] nr_POINT_WORDS_0, slr_POINT_WORDS_0⟩) {nk_POINT_WORDS_1 : Nat} {slk_POINT_WORDS_1 : Array (Option Value)} (lk_POINT_WORDS_1 : K.lookup k_POINT_WORDS_1 = some ⟨.type "tuple", none, .seq #[.str "point" tk_POINT_WORDS_1_0, .str "stretch" tk_POINT_WORDS_1_1] nk_POINT_WORDS_1, slk_POINT_WORDS_1⟩) {nr_POINT_WORDS_1 : Nat} {slr_POINT_WORDS_1 : Array (Option Value)} (lr_POINT_WORDS_1 : K.lookup r_POINT_WORDS_1 = some ⟨.type "tuple", none, .seq #[.str "ahead" tr_POINT_WORDS_1_0, .str "begins" tr_POINT_WORDS_1_1, .str "within" tr_POINT_WORDS_1_2, .str "ends" tr_POINT_WORDS_1_3, .str "behind" tr_POINT_WORDS_1_4] nr_POINT_WORDS_1, slr_POINT_WORDS_1⟩) {nk_POINT_WORDS_2 : Nat} {slk_POINT_WORDS_2 : Array (Option Value)} (lk_POINT_WORDS_2 : K.lookup k_POINT_WORDS_2 = some ⟨.type "tuple", none, .seq #[.str "stretch" tk_POINT_WORDS_2_0, .str "point" tk_POINT_WORDS_2_1] nk_POINT_WORDS_2, slk_POINT_WORDS_2⟩) {nr_POINT_WORDS_2 : Nat} {slr_POINT_WORDS_2 : Array (Option Value)} (lr_POINT_WORDS_2 : K.lookup r_POINT_WORDS_2 = some ⟨.type "tuple", none, .seq #[.str "ahead" tr_POINT_WORDS_2_0, .str "ended" tr_POINT_WORDS_2_1, .str "holds" tr_POINT_WORDS_2_2, .str "begun" tr_POINT_WORDS_2_3, .str "behind" tr_POINT_WORDS_2_4] nr_POINT_WORDS_2, slr_POINT_WORDS_2⟩) (y_POINT_WORDS : (jT == sysModules) = false)
  {gR : Addr} {n_ORDER : Nat} {sl_ORDER : Array (Option Value)} {t_ORDER_0 t_ORDER_1 t_ORDER_2 t_ORDER_3 t_ORDER_4 t_ORDER_5 t_ORDER_6 t_ORDER_7 t_ORDER_8 t_ORDER_9 t_ORDER_10 t_ORDER_11 t_ORDER_12 : Tok} (Cg : PySem.W.nsIn K mainGlobals "ORDER" = some (some (.ref gR))) (zH : K.lookup gR = some ⟨.type "tuple", none, .seq #[.str "ahead" t_ORDER_0, .str "meets" t_ORDER_1, .str "overlaps" t_ORDER_2, .str "begins" t_ORDER_3, .str "within" t_ORDER_4, .str "ends" t_ORDER_5, .str "same" t_ORDER_6, .str "ended" t_ORDER_7, .str "holds" t_ORDER_8, .str "begun" t_ORDER_9, .str "lapped" t_ORDER_10, .str "met" t_ORDER_11, .str "behind" t_ORDER_12] n_ORDER, sl_ORDER⟩)
  (z_tuple : PySem.W.nsIn K mainGlobals "tuple" = some none)
  (z_reversed : PySem.W.nsIn K mainGlobals "reversed" = some none)
  (z_zip : PySem.W.nsIn K mainGlobals "zip" = some none)
  (z_range : PySem.W.nsIn K mainGlobals "range" = some none)
  (z_len : PySem.W.nsIn K mainGlobals "len" = some none)
  (z_max : PySem.W.nsIn K mainGlobals "max" = some none)
  (z_abs : PySem.W.nsIn K mainGlobals "abs" = some none)
  (z_int : PySem.W.nsIn K mainGlobals "int" = some none)
  (z_isinstance : PySem.W.nsIn K mainGlobals "isinstance" = some none)
  (z_repr : PySem.W.nsIn K mainGlobals "repr" = some none)
  : ∃ fd : FuncData, (∀ (s : Shared) (v : Value), BindsTo s fd ⟨[v], []⟩ [("_law_script", v)]) ∧ ∀ base : Heap, K.In base → base.Ns mainGlobals mg → FnOk l.prog w K mg base aT 8 fa fd ["_law_script"] (LSp K 1 pO) := by
 have e := hfa.symm.trans (PySem.W.mg_of X G a24)
 cases e
 have iA := cN (st := fT) l0 c0 k0
 have oI := (iA).binds (ps := iP) fun _ _ _ _ _ _ us hl => qY (by intros; rfl) us hl
 have pZ := PySem.W.mg_of X G a0
 have kM := cN (st := fY) l1 c1 k1
 have xY := (kM).binds (ps := lZ) fun _ _ _ _ _ _ us hl => qY (by intros; rfl) us hl
 have zI := PySem.W.mg_of X G a1
 have lD := cN (st := iD) l2 c2 k2
 have Ef := (lD).binds (ps := lQ) fun _ _ _ _ _ _ us hl => qY (by intros; rfl) us hl
 have Dz := PySem.W.mg_of X G a2
 have fL := cN (st := fK) l3 c3 k3
 have lU := (fL).binds (ps := iV) fun _ _ _ _ _ _ us hl => eW (by intros; rfl) us hl
 have lL := PySem.W.mg_of X G a3
 have lJ := cN (st := iC) l4 c4 k4
 have Dm := (lJ).binds (ps := lC) fun _ _ _ _ _ _ us hl => eW (by intros; rfl) us hl
 have At := PySem.W.mg_of X G a4
 have kJ := cN (st := gY) l5 c5 k5
 have xP := (kJ).binds (ps := mB) fun _ _ _ _ _ _ us hl => eW (by intros; rfl) us hl
 have zN := PySem.W.mg_of X G a5
 have lE := cN (st := iG) l6 c6 k6
 have Bw := (lE).binds (ps := kW) fun _ _ _ _ _ _ us hl => zD (by intros; rfl) us hl
 have By := PySem.W.mg_of X G a6
 have lN := cN (st := gF) l7 c7 k7
 have xQ := (lN).binds (ps := mD) fun _ _ _ _ _ _ us hl => eW (by intros; rfl) us hl
 have xH := PySem.W.mg_of X G a7
 have eC := cN (st := eR) l8 c8 k8
 have fV := (eC).binds (ps := fG) fun _ _ _ _ _ _ us hl => zD (by intros; rfl) us hl
 have fS := PySem.W.mg_of X G a8
 have nI := cN (st := gU) l9 c9 k9
 have zC := (nI).binds (ps := lS) fun _ _ _ _ _ _ us hl => qY (by intros; rfl) us hl
 have wX : Mk K bQ pG := ⟨mk_Behinds, a9, i9, kc_Behinds⟩
 have pT := cN (st := hX) l10 c10 k10
 have yL := (pT).binds (ps := lY) fun _ _ _ _ _ _ us hl => yF (by intros; rfl) us hl
 have H_Behinds_words : Meth K bQ "words" oE := ⟨a10, i10, k10⟩
 have mN := cN (st := gL) l11 c11 k11
 have Dx := (mN).binds (ps := kK) fun _ _ _ _ _ _ us hl => yF (by intros; rfl) us hl
 have H_Behinds_gathered : Meth K bQ "gathered" pL := ⟨a11, i11, k11⟩
 have kY := cN (st := gH) l12 c12 k12
 have Cs := (kY).binds (ps := kP) fun _ _ _ _ _ _ us hl => zD (by intros; rfl) us hl
 have De := PySem.W.mg_of X G a12
 have jI := cN (st := hR) l13 c13 k13
 have sZ := (jI).binds (ps := lI) fun _ _ _ _ _ _ us hl => yF (by intros; rfl) us hl
 have tI := PySem.W.mg_of X G a13
 have kI := cN (st := hJ) l14 c14 k14
 have zY := (kI).binds (ps := mK) fun _ _ _ _ _ _ us hl => eW (by intros; rfl) us hl
 have Bs := PySem.W.mg_of X G a14
 have cD := cN (st := eM) l15 c15 k15
 have cO := (cD).binds (ps := eG) fun _ _ _ _ _ _ us hl => eW (by intros; rfl) us hl
 have cQ := PySem.W.mg_of X G a15
 have iK := cN (st := gD) l16 c16 k16
 have qO := (iK).binds (ps := lF) fun _ _ _ _ _ _ us hl => eW (by intros; rfl) us hl
 have rJ := PySem.W.mg_of X G a16
 have eZ := cN (st := iF) l17 c17 k17
 have jP := (eZ).binds (ps := lV) fun _ _ _ _ _ _ us hl => eW (by intros; rfl) us hl
 have jV := PySem.W.mg_of X G a17
 have fD := cN (st := gZ) l18 c18 k18
 have kA := (fD).binds (ps := kX) fun _ _ _ _ _ _ us hl => eW (by intros; rfl) us hl
 have jW := PySem.W.mg_of X G a18
 have iE := cN (st := fP) l19 c19 k19
 have nK := (iE).binds (ps := iO) fun _ _ _ _ _ _ us hl => qY (by intros; rfl) us hl
 have oJ := PySem.W.mg_of X G a19
 have lW := cN (st := gX) l20 c20 k20
 have Ca := (lW).binds (ps := mJ) fun _ _ _ _ _ _ us hl => eW (by intros; rfl) us hl
 have zE := PySem.W.mg_of X G a20
 have mI := cN (st := gW) l21 c21 k21
 have yZ := (mI).binds (ps := kS) fun _ _ _ _ _ _ us hl => eW (by intros; rfl) us hl
 have yJ := PySem.W.mg_of X G a21
 have lX := cN (st := gJ) l22 c22 k22
 have Cv := (lX).binds (ps := lB) fun _ _ _ _ _ _ us hl => Se (by intros; rfl) us hl
 have yO := PySem.W.mg_of X G a22
 have lH := cN (st := gS) l23 c23 k23
 have Dn := (lH).binds (ps := mE) fun _ _ _ _ _ _ us hl => eW (by intros; rfl) us hl
 have Av := PySem.W.mg_of X G a23
 have Ci := cN (st := fE) l24 c24 k24
 have T_Behinds : Cls K bQ := ⟨pg_Behinds, hd_Behinds, po_Behinds, sa_Behinds⟩
 have Dp := PySem.W.mg_of X G g_Behinds
 have Cp := PySem.W.mg_of X G yN
 have Kk_POINT_WORDS_0 : KT K k_POINT_WORDS_0 ["point", "point"] := ⟨_, _, _, lk_POINT_WORDS_0, rfl, rfl, rfl, by show 2 ≤ sizeLine; rw [sizeLine_eq]; decide, .cons ⟨_, rfl⟩ (.cons ⟨_, rfl⟩ (.nil))⟩
 have Kr_POINT_WORDS_0 : KT K r_POINT_WORDS_0 ["ahead", "same", "behind"] := ⟨_, _, _, lr_POINT_WORDS_0, rfl, rfl, rfl, by show 3 ≤ sizeLine; rw [sizeLine_eq]; decide, .cons ⟨_, rfl⟩ (.cons ⟨_, rfl⟩ (.cons ⟨_, rfl⟩ (.nil)))⟩
 have Kk_POINT_WORDS_1 : KT K k_POINT_WORDS_1 ["point", "stretch"] := ⟨_, _, _, lk_POINT_WORDS_1, rfl, rfl, rfl, by show 2 ≤ sizeLine; rw [sizeLine_eq]; decide, .cons ⟨_, rfl⟩ (.cons ⟨_, rfl⟩ (.nil))⟩
 have Kr_POINT_WORDS_1 : KT K r_POINT_WORDS_1 ["ahead", "begins", "within", "ends", "behind"] := ⟨_, _, _, lr_POINT_WORDS_1, rfl, rfl, rfl, by show 5 ≤ sizeLine; rw [sizeLine_eq]; decide, .cons ⟨_, rfl⟩ (.cons ⟨_, rfl⟩ (.cons ⟨_, rfl⟩ (.cons ⟨_, rfl⟩ (.cons ⟨_, rfl⟩ (.nil)))))⟩
 have Kk_POINT_WORDS_2 : KT K k_POINT_WORDS_2 ["stretch", "point"] := ⟨_, _, _, lk_POINT_WORDS_2, rfl, rfl, rfl, by show 2 ≤ sizeLine; rw [sizeLine_eq]; decide, .cons ⟨_, rfl⟩ (.cons ⟨_, rfl⟩ (.nil))⟩
 have Kr_POINT_WORDS_2 : KT K r_POINT_WORDS_2 ["ahead", "ended", "holds", "begun", "behind"] := ⟨_, _, _, lr_POINT_WORDS_2, rfl, rfl, rfl, by show 5 ≤ sizeLine; rw [sizeLine_eq]; decide, .cons ⟨_, rfl⟩ (.cons ⟨_, rfl⟩ (.cons ⟨_, rfl⟩ (.cons ⟨_, rfl⟩ (.cons ⟨_, rfl⟩ (.nil)))))⟩
 have yB : wF K w jT Ce := ⟨[(["point", "point"], k_POINT_WORDS_0, .ref r_POINT_WORDS_0), (["point", "stretch"], k_POINT_WORDS_1, .ref r_POINT_WORDS_1), (["stretch", "point"], k_POINT_WORDS_2, .ref r_POINT_WORDS_2)], ⟨_, _, _, Bj, rfl, rfl, rfl, rfl, ⟨rfl, rfl, rfl, Kk_POINT_WORDS_0, ⟨rfl, rfl, rfl, Kk_POINT_WORDS_1, ⟨rfl, rfl, rfl, Kk_POINT_WORDS_2, True.intro⟩⟩⟩, by show List.Nodup ([["point", "point"], ["point", "stretch"], ["stretch", "point"]] : List (List Str)); decide +kernel, y_POINT_WORDS⟩, fun Z m H => ⟨_, _, rfl, KT.rp Kr_POINT_WORDS_0, ⟨_, _, rfl, KT.rp Kr_POINT_WORDS_1, ⟨_, _, rfl, KT.rp Kr_POINT_WORDS_2, rfl⟩⟩⟩⟩
 have kG := PySem.W.mg_of X G Cg
 have kO : KT K gR ["ahead", "meets", "overlaps", "begins", "within", "ends", "same", "ended", "holds", "begun", "lapped", "met", "behind"] := ⟨_, _, _, zH, rfl, rfl, rfl, by show 13 ≤ sizeLine; rw [sizeLine_eq]; decide, .cons ⟨_, rfl⟩ (.cons ⟨_, rfl⟩ (.cons ⟨_, rfl⟩ (.cons ⟨_, rfl⟩ (.cons ⟨_, rfl⟩ (.cons ⟨_, rfl⟩ (.cons ⟨_, rfl⟩ (.cons ⟨_, rfl⟩ (.cons ⟨_, rfl⟩ (.cons ⟨_, rfl⟩ (.cons ⟨_, rfl⟩ (.cons ⟨_, rfl⟩ (.cons ⟨_, rfl⟩ (.nil)))))))))))))⟩
 have Dd := PySem.W.mg_of X G Dq
 have Dw : KD K w jS vI := ⟨[("ahead", .ref r_WAYS_0), ("meets", .ref r_WAYS_1), ("overlaps", .ref r_WAYS_2), ("begins", .ref r_WAYS_3), ("within", .ref r_WAYS_4), ("ends", .ref r_WAYS_5), ("same", .ref r_WAYS_6), ("ended", .ref r_WAYS_7), ("holds", .ref r_WAYS_8), ("begun", .ref r_WAYS_9), ("lapped", .ref r_WAYS_10), ("met", .ref r_WAYS_11), ("behind", .ref r_WAYS_12)], ⟨_, _, _, Eb, rfl, rfl, rfl, rfl, ⟨rfl, ⟨_, rfl⟩, rfl, ⟨rfl, ⟨_, rfl⟩, rfl, ⟨rfl, ⟨_, rfl⟩, rfl, ⟨rfl, ⟨_, rfl⟩, rfl, ⟨rfl, ⟨_, rfl⟩, rfl, ⟨rfl, ⟨_, rfl⟩, rfl, ⟨rfl, ⟨_, rfl⟩, rfl, ⟨rfl, ⟨_, rfl⟩, rfl, ⟨rfl, ⟨_, rfl⟩, rfl, ⟨rfl, ⟨_, rfl⟩, rfl, ⟨rfl, ⟨_, rfl⟩, rfl, ⟨rfl, ⟨_, rfl⟩, rfl, ⟨rfl, ⟨_, rfl⟩, rfl, True.intro⟩⟩⟩⟩⟩⟩⟩⟩⟩⟩⟩⟩⟩, by show List.Nodup (["ahead", "meets", "overlaps", "begins", "within", "ends", "same", "ended", "holds", "begun", "lapped", "met", "behind"] : List Str); decide +kernel, y_WAYS⟩, fun Z m H => ⟨_, _, rfl, eP (is := [-1, -1, -1, -1]) (.inr ⟨_, _, _, Ai, ⟨rfl, rfl⟩, rfl, by show 4 ≤ sizeLine; rw [sizeLine_eq]; decide, .cons ⟨_, rfl⟩ (.cons ⟨_, rfl⟩ (.cons ⟨_, rfl⟩ (.cons ⟨_, rfl⟩ (.nil))))⟩), ⟨_, _, rfl, eP (is := [-1, -1, 0, -1]) (.inr ⟨_, _, _, wY, ⟨rfl, rfl⟩, rfl, by show 4 ≤ sizeLine; rw [sizeLine_eq]; decide, .cons ⟨_, rfl⟩ (.cons ⟨_, rfl⟩ (.cons ⟨_, rfl⟩ (.cons ⟨_, rfl⟩ (.nil))))⟩), ⟨_, _, rfl, eP (is := [-1, -1, 1, -1]) (.inr ⟨_, _, _, Bu, ⟨rfl, rfl⟩, rfl, by show 4 ≤ sizeLine; rw [sizeLine_eq]; decide, .cons ⟨_, rfl⟩ (.cons ⟨_, rfl⟩ (.cons ⟨_, rfl⟩ (.cons ⟨_, rfl⟩ (.nil))))⟩), ⟨_, _, rfl, eP (is := [0, -1, 1, -1]) (.inr ⟨_, _, _, zS, ⟨rfl, rfl⟩, rfl, by show 4 ≤ sizeLine; rw [sizeLine_eq]; decide, .cons ⟨_, rfl⟩ (.cons ⟨_, rfl⟩ (.cons ⟨_, rfl⟩ (.cons ⟨_, rfl⟩ (.nil))))⟩), ⟨_, _, rfl, eP (is := [1, -1, 1, -1]) (.inr ⟨_, _, _, yG, ⟨rfl, rfl⟩, rfl, by show 4 ≤ sizeLine; rw [sizeLine_eq]; decide, .cons ⟨_, rfl⟩ (.cons ⟨_, rfl⟩ (.cons ⟨_, rfl⟩ (.cons ⟨_, rfl⟩ (.nil))))⟩), ⟨_, _, rfl, eP (is := [1, -1, 1, 0]) (.inr ⟨_, _, _, Ch, ⟨rfl, rfl⟩, rfl, by show 4 ≤ sizeLine; rw [sizeLine_eq]; decide, .cons ⟨_, rfl⟩ (.cons ⟨_, rfl⟩ (.cons ⟨_, rfl⟩ (.cons ⟨_, rfl⟩ (.nil))))⟩), ⟨_, _, rfl, eP (is := [0, -1, 1, 0]) (.inr ⟨_, _, _, xJ, ⟨rfl, rfl⟩, rfl, by show 4 ≤ sizeLine; rw [sizeLine_eq]; decide, .cons ⟨_, rfl⟩ (.cons ⟨_, rfl⟩ (.cons ⟨_, rfl⟩ (.cons ⟨_, rfl⟩ (.nil))))⟩), ⟨_, _, rfl, eP (is := [-1, -1, 1, 0]) (.inr ⟨_, _, _, Aj, ⟨rfl, rfl⟩, rfl, by show 4 ≤ sizeLine; rw [sizeLine_eq]; decide, .cons ⟨_, rfl⟩ (.cons ⟨_, rfl⟩ (.cons ⟨_, rfl⟩ (.cons ⟨_, rfl⟩ (.nil))))⟩), ⟨_, _, rfl, eP (is := [-1, -1, 1, 1]) (.inr ⟨_, _, _, xU, ⟨rfl, rfl⟩, rfl, by show 4 ≤ sizeLine; rw [sizeLine_eq]; decide, .cons ⟨_, rfl⟩ (.cons ⟨_, rfl⟩ (.cons ⟨_, rfl⟩ (.cons ⟨_, rfl⟩ (.nil))))⟩), ⟨_, _, rfl, eP (is := [0, -1, 1, 1]) (.inr ⟨_, _, _, Cj, ⟨rfl, rfl⟩, rfl, by show 4 ≤ sizeLine; rw [sizeLine_eq]; decide, .cons ⟨_, rfl⟩ (.cons ⟨_, rfl⟩ (.cons ⟨_, rfl⟩ (.cons ⟨_, rfl⟩ (.nil))))⟩), ⟨_, _, rfl, eP (is := [1, -1, 1, 1]) (.inr ⟨_, _, _, El, ⟨rfl, rfl⟩, rfl, by show 4 ≤ sizeLine; rw [sizeLine_eq]; decide, .cons ⟨_, rfl⟩ (.cons ⟨_, rfl⟩ (.cons ⟨_, rfl⟩ (.cons ⟨_, rfl⟩ (.nil))))⟩), ⟨_, _, rfl, eP (is := [1, 0, 1, 1]) (.inr ⟨_, _, _, Ea, ⟨rfl, rfl⟩, rfl, by show 4 ≤ sizeLine; rw [sizeLine_eq]; decide, .cons ⟨_, rfl⟩ (.cons ⟨_, rfl⟩ (.cons ⟨_, rfl⟩ (.cons ⟨_, rfl⟩ (.nil))))⟩), ⟨_, _, rfl, eP (is := [1, 1, 1, 1]) (.inr ⟨_, _, _, yK, ⟨rfl, rfl⟩, rfl, by show 4 ≤ sizeLine; rw [sizeLine_eq]; decide, .cons ⟨_, rfl⟩ (.cons ⟨_, rfl⟩ (.cons ⟨_, rfl⟩ (.cons ⟨_, rfl⟩ (.nil))))⟩), rfl⟩⟩⟩⟩⟩⟩⟩⟩⟩⟩⟩⟩⟩⟩
 have qR := PySem.W.mg_of X G zK
 have sB : KD K w jZ nT := ⟨[("point", .int (1)), ("stretch", .int (2))], ⟨_, _, _, Cq, rfl, rfl, rfl, rfl, ⟨rfl, ⟨_, rfl⟩, ⟨_, rfl⟩, ⟨rfl, ⟨_, rfl⟩, ⟨_, rfl⟩, True.intro⟩⟩, by show List.Nodup (["point", "stretch"] : List Str); decide +kernel, y_END_COUNTS⟩, fun Z m H => ⟨_, _, rfl, by simp only [RP], ⟨_, _, rfl, by simp only [RP], rfl⟩⟩⟩
 have cF := PySem.W.mg_none_of X G z_tuple
 have yM := PySem.W.mg_none_of X G z_reversed
 have oA := PySem.W.mg_none_of X G z_zip
 have fI := PySem.W.mg_none_of X G z_range
 have eE := PySem.W.mg_none_of X G z_len
 have Bc := PySem.W.mg_none_of X G z_max
 have Eh := PySem.W.mg_none_of X G z_abs
 have vJ := PySem.W.mg_none_of X G z_int
 have mT := PySem.W.mg_none_of X G z_isinstance
 have kC := PySem.W.mg_none_of X G z_repr
 refine ⟨PySem.W.fnOf "law" "law" (bC fE) (aZ fE) (aO fE) .none kV_24 dc_24 pm_24 an_24 cd_24 ct_24, fun s v => .of_eq rfl, fun base _ _ => ?_⟩; have yY := Ql (P := l.prog) (w := w) (mg := mg) (base := base) kI eE Bc Yq
 have cJ := Pg (P := l.prog) (w := w) (mg := mg) (base := base) cD Xa
 have yA := Te (P := l.prog) (w := w) (mg := mg) (base := base) lW cD cO cQ cJ fI cF Sk
 have rH := Sn (P := l.prog) (w := w) (mg := mg) (base := base) iK Eh W4
 have Ec := A7 (P := l.prog) (w := w) (mg := mg) (base := base) lX iK qO rJ rH cD cO cQ cJ M4
 have xS := v7 (P := l.prog) (w := w) (mg := mg) (base := base) lH cD cO cQ cJ lX Cv yO Ec cF Qt
 have kE := E6 (P := l.prog) (w := w) (mg := mg) (base := base) eZ vJ Sm
 have jH := I0 (P := l.prog) (w := w) (mg := mg) (base := base) fD eZ jP jV kE mT cF Xd
 have kQ := Uy (P := l.prog) (w := w) (mg := mg) (base := base) fL Dd Dw V3
 have zR := Vq (P := l.prog) (w := w) (mg := mg) (base := base) lJ P9
 have xM := L7 (P := l.prog) (w := w) (mg := mg) (base := base) kJ lJ Dm At zR oA j5
 have Bg := Vd (P := l.prog) (w := w) (mg := mg) (base := base) lE fL lU lL kQ kJ xP zN xM qR sB fI Ze
 have nQ := E1 (P := l.prog) (w := w) (mg := mg) (base := base) iA Cp yB kG kO V7
 have Ct := Vr (P := l.prog) (w := w) (mg := mg) (base := base) lN oA T7
 have fX := Vv (P := l.prog) (w := w) (mg := mg) (base := base) eC lE Bw By Bg iA oI pZ nQ lN xQ xH Ct fL lU lL kQ cF Ps
 have vP := J1 (P := l.prog) (w := w) (mg := mg) (base := base) jI eC fV fS fX Rm
 have Af := Yb (P := l.prog) (w := w) (mg := mg) (base := base) kM kG kO Y1
 have Ek := Oz (P := l.prog) (w := w) (mg := mg) (base := base) lD kM xY zI Af cF yM L6
 have nR := S7 (P := l.prog) (w := w) (mg := mg) (base := base) iE Ux
 have yX := Tf (P := l.prog) (w := w) (mg := mg) (base := base) mI iE nK oJ nR cD cO cQ cJ eE cF N4
 have Dc := D9 (P := l.prog) (w := w) (mg := mg) (base := base) pT g_Behinds T_Behinds n_Behinds_by_words eC fV fS fX Vk
 have Dj := M2 (P := l.prog) (w := w) (mg := mg) (base := base) mN g_Behinds T_Behinds iA oI pZ nQ pT yL H_Behinds_words Dc eE cF Uh
 have Bo := Uk (P := l.prog) (w := w) (mg := mg) (base := base) nI g_Behinds T_Behinds n_Behinds_by_words n_Behinds_by_mays Yv
 have xK := Uj (P := l.prog) (w := w) (mg := mg) (base := base) kY g_Behinds T_Behinds mN Dx H_Behinds_gathered Dj nI zC  Bo Dp wX Qs
 exact b6 Ci kI zY Bs yY lW Ca zE yA lH Dn Av xS fD kA jW jH eC fV fS fX jI sZ tI vP lD Ef Dz Ek iE nK oJ nR cD cO cQ cJ mI yZ yJ yX kY Cs De xK kC eE cF fI K8
theorem walk {l : PySem.W.OpenLaw} {q : Program} {loose : List Str} {XP : (Str → Option Value) → Heap → Prop} {YP : World → Heap → Prop} {d : DefRec} {K : Params → PySem.W.Frag} (hn : l.most = some 63) (hdf : d.params.defaults = [])
  (hY : ∀ (w : World) (h : Heap), YP w h → (K w.params).In h)
  (F : ∀ (w : World) (mg : Str → Option Value) (fa : Addr) (h : Heap), (K w.params).In h → h.Ns mainGlobals mg → mg d.name = some (.ref fa) →
   ∃ fd : FuncData, (∀ (s : Shared) (u : Value), BindsTo s fd ⟨[u], []⟩ [("_law_script", u)]) ∧ ∀ base : Heap, (K w.params).In base → base.Ns mainGlobals mg → FnOk l.prog w (K w.params) mg base aT 8 fa fd ["_law_script"] (LSp (K w.params) 1 pO)) :
  PySem.W.WalkO q loose XP YP l.row.toRowW d [] (fun f vs => PySem.call f vs) :=
 L2.walk_of (n := 63) (k := 8) (x := "_law_script") (CX := fun _ => aT) (sp := fun w => LSp (K w.params) 1 pO) hn (by decide) hdf ⟨rfl, rfl, by decide, by decide⟩ hY F (fun _ _ a ns hl _ hS => X2 hS ⟨ns, rfl, hl, fun _ => rfl⟩) fun _ _ _ _ _ z => z
def Xy (P : Params) : Obj := ⟨Value.type "dict", none, Data.dict #[{ hash := PyData.keyHash P (Str.ofString "__name__"), key := Value.str (Str.ofString "__name__") 165, val := Value.str (Str.ofString "law_whens_k08_whole_three_things") 488 }, { hash := PyData.keyHash P (Str.ofString "__doc__"), key := Value.str (Str.ofString "__doc__") 166, val := Value.none }, { hash := PyData.keyHash P (Str.ofString "__package__"), key := Value.str (Str.ofString "__package__") 167, val := Value.none }, { hash := PyData.keyHash P (Str.ofString "__loader__"), key := Value.str (Str.ofString "__loader__") 168, val := Value.builtin "__main__.__loader__#opaque" }, { hash := PyData.keyHash P (Str.ofString "__spec__"), key := Value.str (Str.ofString "__spec__") 169, val := Value.none }, { hash := PyData.keyHash P (Str.ofString "__annotations__"), key := Value.str (Str.ofString "__annotations__") 170, val := Value.ref 6 }, { hash := PyData.keyHash P (Str.ofString "__builtins__"), key := Value.str (Str.ofString "__builtins__") 171, val := Value.ref 4 }, { hash := PyData.keyHash P (Str.ofString "__file__"), key := Value.str (Str.ofString "__file__") 173, val := Value.str (Str.ofString "/claim/cut.py") 172 }, { hash := PyData.keyHash P (Str.ofString "__cached__"), key := Value.str (Str.ofString "__cached__") 174, val := Value.none }, { hash := PyData.keyHash P (Str.ofString "ORDER"), key := Value.str (Str.ofString "ORDER") 202, val := Value.ref 15 }, { hash := PyData.keyHash P (Str.ofString "POINT_WORDS"), key := Value.str (Str.ofString "POINT_WORDS") 231, val := Value.ref 16 }, { hash := PyData.keyHash P (Str.ofString "WAYS"), key := Value.str (Str.ofString "WAYS") 332, val := Value.ref 23 }, { hash := PyData.keyHash P (Str.ofString "END_COUNTS"), key := Value.str (Str.ofString "END_COUNTS") 339, val := Value.ref 37 }, { hash := PyData.keyHash P (Str.ofString "words_of"), key := Value.str (Str.ofString "words_of") 346, val := Value.ref 44 }, { hash := PyData.keyHash P (Str.ofString "turned"), key := Value.str (Str.ofString "turned") 353, val := Value.ref 51 }, { hash := PyData.keyHash P (Str.ofString "turned_may"), key := Value.str (Str.ofString "turned_may") 359, val := Value.ref 56 }, { hash := PyData.keyHash P (Str.ofString "ways_by"), key := Value.str (Str.ofString "ways_by") 368, val := Value.ref 63 }, { hash := PyData.keyHash P (Str.ofString "forced_way"), key := Value.str (Str.ofString "forced_way") 378, val := Value.ref 70 }, { hash := PyData.keyHash P (Str.ofString "forced_by"), key := Value.str (Str.ofString "forced_by") 389, val := Value.ref 77 }, { hash := PyData.keyHash P (Str.ofString "forced_ways"), key := Value.str (Str.ofString "forced_ways") 395, val := Value.ref 82 }, { hash := PyData.keyHash P (Str.ofString "go_with"), key := Value.str (Str.ofString "go_with") 405, val := Value.ref 89 }, { hash := PyData.keyHash P (Str.ofString "behind_words"), key := Value.str (Str.ofString "behind_words") 411, val := Value.ref 94 }, { hash := PyData.keyHash P (Str.ofString "Behinds"), key := Value.str (Str.ofString "Behinds") 468, val := Value.ref 130 }, { hash := PyData.keyHash P (Str.ofString "behind_mays"), key := Value.str (Str.ofString "behind_mays") 477, val := Value.ref 141 }, { hash := PyData.keyHash P (Str.ofString "fits_three"), key := Value.str (Str.ofString "fits_three") 487, val := Value.ref 148 }, { hash := PyData.keyHash P (Str.ofString "_law_feed"), key := Value.str (Str.ofString "_law_feed") 498, val := Value.ref 155 }, { hash := PyData.keyHash P (Str.ofString "_law_draw"), key := Value.str (Str.ofString "_law_draw") 508, val := Value.ref 162 }, { hash := PyData.keyHash P (Str.ofString "_law_fraction"), key := Value.str (Str.ofString "_law_fraction") 519, val := Value.ref 169 }, { hash := PyData.keyHash P (Str.ofString "_law_stand"), key := Value.str (Str.ofString "_law_stand") 528, val := Value.ref 176 }, { hash := PyData.keyHash P (Str.ofString "_law_word"), key := Value.str (Str.ofString "_law_word") 540, val := Value.ref 183 }, { hash := PyData.keyHash P (Str.ofString "_law_words"), key := Value.str (Str.ofString "_law_words") 548, val := Value.ref 190 }, { hash := PyData.keyHash P (Str.ofString "_law_kinds"), key := Value.str (Str.ofString "_law_kinds") 554, val := Value.ref 195 }, { hash := PyData.keyHash P (Str.ofString "_law_may"), key := Value.str (Str.ofString "_law_may") 560, val := Value.ref 200 }, { hash := PyData.keyHash P (Str.ofString "_law_times"), key := Value.str (Str.ofString "_law_times") 573, val := Value.ref 207 }, { hash := PyData.keyHash P (Str.ofString "_law_telling"), key := Value.str (Str.ofString "_law_telling") 579, val := Value.ref 212 }, { hash := PyData.keyHash P (Str.ofString "law"), key := Value.str (Str.ofString "law") 585, val := Value.ref 217 }] 36, #[]⟩
def Oy (P : Params) : Obj := ⟨Value.type "tuple", none, Data.seq #[Value.str (Str.ofString "ahead") 189, Value.str (Str.ofString "meets") 190, Value.str (Str.ofString "overlaps") 191, Value.str (Str.ofString "begins") 192, Value.str (Str.ofString "within") 193, Value.str (Str.ofString "ends") 194, Value.str (Str.ofString "same") 195, Value.str (Str.ofString "ended") 196, Value.str (Str.ofString "holds") 197, Value.str (Str.ofString "begun") 198, Value.str (Str.ofString "lapped") 199, Value.str (Str.ofString "met") 200, Value.str (Str.ofString "behind") 201], #[]⟩
def X8 (P : Params) : Obj := ⟨Value.type "dict", none, Data.dict #[{ hash := reduceHash (Builtin.Tuple.tupleHashOf [PyData.keyHash P (Str.ofString "point"), PyData.keyHash P (Str.ofString "point")]), key := Value.ref 17, val := Value.ref 18 }, { hash := reduceHash (Builtin.Tuple.tupleHashOf [PyData.keyHash P (Str.ofString "point"), PyData.keyHash P (Str.ofString "stretch")]), key := Value.ref 19, val := Value.ref 20 }, { hash := reduceHash (Builtin.Tuple.tupleHashOf [PyData.keyHash P (Str.ofString "stretch"), PyData.keyHash P (Str.ofString "point")]), key := Value.ref 21, val := Value.ref 22 }] 3, #[]⟩
def Vl (P : Params) : Obj := ⟨Value.type "tuple", none, Data.seq #[Value.str (Str.ofString "point") 203, Value.str (Str.ofString "point") 204], #[]⟩
def F2 (P : Params) : Obj := ⟨Value.type "tuple", none, Data.seq #[Value.str (Str.ofString "ahead") 205, Value.str (Str.ofString "same") 206, Value.str (Str.ofString "behind") 207], #[]⟩
def b8 (P : Params) : Obj := ⟨Value.type "tuple", none, Data.seq #[Value.str (Str.ofString "point") 208, Value.str (Str.ofString "stretch") 209], #[]⟩
def Xg (P : Params) : Obj := ⟨Value.type "tuple", none, Data.seq #[Value.str (Str.ofString "ahead") 210, Value.str (Str.ofString "begins") 211, Value.str (Str.ofString "within") 212, Value.str (Str.ofString "ends") 213, Value.str (Str.ofString "behind") 214], #[]⟩
def We (P : Params) : Obj := ⟨Value.type "tuple", none, Data.seq #[Value.str (Str.ofString "stretch") 215, Value.str (Str.ofString "point") 216], #[]⟩
def Yc (P : Params) : Obj := ⟨Value.type "tuple", none, Data.seq #[Value.str (Str.ofString "ahead") 217, Value.str (Str.ofString "ended") 218, Value.str (Str.ofString "holds") 219, Value.str (Str.ofString "begun") 220, Value.str (Str.ofString "behind") 221], #[]⟩
def Wu (P : Params) : Obj := ⟨Value.type "dict", none, Data.dict #[{ hash := PyData.keyHash P (Str.ofString "ahead"), key := Value.str (Str.ofString "ahead") 232, val := Value.ref 24 }, { hash := PyData.keyHash P (Str.ofString "meets"), key := Value.str (Str.ofString "meets") 241, val := Value.ref 25 }, { hash := PyData.keyHash P (Str.ofString "overlaps"), key := Value.str (Str.ofString "overlaps") 249, val := Value.ref 26 }, { hash := PyData.keyHash P (Str.ofString "begins"), key := Value.str (Str.ofString "begins") 257, val := Value.ref 27 }, { hash := PyData.keyHash P (Str.ofString "within"), key := Value.str (Str.ofString "within") 264, val := Value.ref 28 }, { hash := PyData.keyHash P (Str.ofString "ends"), key := Value.str (Str.ofString "ends") 271, val := Value.ref 29 }, { hash := PyData.keyHash P (Str.ofString "same"), key := Value.str (Str.ofString "same") 277, val := Value.ref 30 }, { hash := PyData.keyHash P (Str.ofString "ended"), key := Value.str (Str.ofString "ended") 283, val := Value.ref 31 }, { hash := PyData.keyHash P (Str.ofString "holds"), key := Value.str (Str.ofString "holds") 290, val := Value.ref 32 }, { hash := PyData.keyHash P (Str.ofString "begun"), key := Value.str (Str.ofString "begun") 297, val := Value.ref 33 }, { hash := PyData.keyHash P (Str.ofString "lapped"), key := Value.str (Str.ofString "lapped") 303, val := Value.ref 34 }, { hash := PyData.keyHash P (Str.ofString "met"), key := Value.str (Str.ofString "met") 309, val := Value.ref 35 }, { hash := PyData.keyHash P (Str.ofString "behind"), key := Value.str (Str.ofString "behind") 314, val := Value.ref 36 }] 13, #[]⟩
def Vp (P : Params) : Obj := ⟨Value.type "tuple", none, Data.seq #[Value.int (-1) 234, Value.int (-1) 236, Value.int (-1) 238, Value.int (-1) 240], #[]⟩
def U5 (P : Params) : Obj := ⟨Value.type "tuple", none, Data.seq #[Value.int (-1) 243, Value.int (-1) 245, Value.int 0 246, Value.int (-1) 248], #[]⟩
def Xk (P : Params) : Obj := ⟨Value.type "tuple", none, Data.seq #[Value.int (-1) 251, Value.int (-1) 253, Value.int 1 254, Value.int (-1) 256], #[]⟩
def Pb (P : Params) : Obj := ⟨Value.type "tuple", none, Data.seq #[Value.int 0 258, Value.int (-1) 260, Value.int 1 261, Value.int (-1) 263], #[]⟩
def Va (P : Params) : Obj := ⟨Value.type "tuple", none, Data.seq #[Value.int 1 265, Value.int (-1) 267, Value.int 1 268, Value.int (-1) 270], #[]⟩
def Ui (P : Params) : Obj := ⟨Value.type "tuple", none, Data.seq #[Value.int 1 272, Value.int (-1) 274, Value.int 1 275, Value.int 0 276], #[]⟩
def Yp (P : Params) : Obj := ⟨Value.type "tuple", none, Data.seq #[Value.int 0 278, Value.int (-1) 280, Value.int 1 281, Value.int 0 282], #[]⟩
def Y2 (P : Params) : Obj := ⟨Value.type "tuple", none, Data.seq #[Value.int (-1) 285, Value.int (-1) 287, Value.int 1 288, Value.int 0 289], #[]⟩
def Q0 (P : Params) : Obj := ⟨Value.type "tuple", none, Data.seq #[Value.int (-1) 292, Value.int (-1) 294, Value.int 1 295, Value.int 1 296], #[]⟩
def F8 (P : Params) : Obj := ⟨Value.type "tuple", none, Data.seq #[Value.int 0 298, Value.int (-1) 300, Value.int 1 301, Value.int 1 302], #[]⟩
def f9 (P : Params) : Obj := ⟨Value.type "tuple", none, Data.seq #[Value.int 1 304, Value.int (-1) 306, Value.int 1 307, Value.int 1 308], #[]⟩
def Q5 (P : Params) : Obj := ⟨Value.type "tuple", none, Data.seq #[Value.int 1 310, Value.int 0 311, Value.int 1 312, Value.int 1 313], #[]⟩
def Vb (P : Params) : Obj := ⟨Value.type "tuple", none, Data.seq #[Value.int 1 315, Value.int 1 316, Value.int 1 317, Value.int 1 318], #[]⟩
def D7 (P : Params) : Obj := ⟨Value.type "dict", none, Data.dict #[{ hash := PyData.keyHash P (Str.ofString "point"), key := Value.str (Str.ofString "point") 333, val := Value.int 1 334 }, { hash := PyData.keyHash P (Str.ofString "stretch"), key := Value.str (Str.ofString "stretch") 335, val := Value.int 2 336 }] 2, #[]⟩
def Tc (P : Params) : Obj := ⟨Value.type "code", none, Data.fields #[Value.str (Str.ofString "words_of") 340, Value.str (Str.ofString "words_of") 341, Value.str (Str.ofString "/claim/cut.py") 342, Value.int 6 0, Value.int 1 0, Value.int 0 0, Value.int 0 0, Value.int 3 0, Value.ref 38, Value.bool true, Value.int 181 0, Value.ref 39, Value.none, Value.ref 40, Value.ref 41, Value.ref 42, Value.int 344 0, Value.int 6 0, Value.str (Str.ofString "/claim/cut.py") 345], #[]⟩
def Yu (P : Params) : Obj := ⟨Value.type "function", none, .func (PySem.W.fnOf "words_of" "words_of" (bC fT) (aZ fT) (aO fT) (Value.none) (Value.none) (Value.none) (Value.str (Str.ofString "whens.words") 187) (none) (Value.ref 43) (Value.none)), #[]⟩
def Yo (P : Params) : Obj := ⟨Value.type "code", none, Data.fields #[Value.str (Str.ofString "turned") 347, Value.str (Str.ofString "turned") 348, Value.str (Str.ofString "/claim/cut.py") 349, Value.int 8 0, Value.int 1 0, Value.int 0 0, Value.int 0 0, Value.int 3 0, Value.ref 45, Value.bool true, Value.int 181 0, Value.ref 46, Value.none, Value.ref 47, Value.ref 48, Value.ref 49, Value.int 351 0, Value.int 8 0, Value.str (Str.ofString "/claim/cut.py") 352], #[]⟩
def Wh (P : Params) : Obj := ⟨Value.type "function", none, .func (PySem.W.fnOf "turned" "turned" (bC fY) (aZ fY) (aO fY) (Value.none) (Value.none) (Value.none) (Value.str (Str.ofString "whens.words") 187) (none) (Value.ref 50) (Value.none)), #[]⟩
def Rg (P : Params) : Obj := ⟨Value.type "code", none, Data.fields #[Value.str (Str.ofString "turned_may") 354, Value.str (Str.ofString "turned_may") 355, Value.str (Str.ofString "/claim/cut.py") 356, Value.int 10 0, Value.int 1 0, Value.int 0 0, Value.int 0 0, Value.int 3 0, Value.ref 52, Value.bool true, Value.int 181 0, Value.ref 53, Value.none, Value.none, Value.none, Value.ref 54, Value.int 357 0, Value.int 10 0, Value.str (Str.ofString "/claim/cut.py") 358], #[]⟩
def L3 (P : Params) : Obj := ⟨Value.type "function", none, .func (PySem.W.fnOf "turned_may" "turned_may" (bC iD) (aZ iD) (aO iD) (Value.none) (Value.none) (Value.none) (Value.str (Str.ofString "whens.words") 187) (none) (Value.ref 55) (Value.none)), #[]⟩
def Ry (P : Params) : Obj := ⟨Value.type "code", none, Data.fields #[Value.str (Str.ofString "ways_by") 360, Value.str (Str.ofString "ways_by") 361, Value.str (Str.ofString "/claim/cut.py") 362, Value.int 12 0, Value.int 2 0, Value.int 0 0, Value.int 0 0, Value.int 3 0, Value.ref 57, Value.bool true, Value.int 181 0, Value.ref 58, Value.none, Value.ref 59, Value.ref 60, Value.ref 61, Value.int 366 0, Value.int 12 0, Value.str (Str.ofString "/claim/cut.py") 367], #[]⟩
def Od (P : Params) : Obj := ⟨Value.type "function", none, .func (PySem.W.fnOf "ways_by" "ways_by" (bC fK) (aZ fK) (aO fK) (Value.none) (Value.none) (Value.none) (Value.str (Str.ofString "whens.words") 187) (none) (Value.ref 62) (Value.none)), #[]⟩
def M8 (P : Params) : Obj := ⟨Value.type "code", none, Data.fields #[Value.str (Str.ofString "forced_way") 371, Value.str (Str.ofString "forced_way") 372, Value.str (Str.ofString "/claim/cut.py") 373, Value.int 20 0, Value.int 2 0, Value.int 0 0, Value.int 0 0, Value.int 3 0, Value.ref 64, Value.bool true, Value.int 181 0, Value.ref 65, Value.none, Value.ref 66, Value.ref 67, Value.ref 68, Value.int 376 0, Value.int 20 0, Value.str (Str.ofString "/claim/cut.py") 377], #[]⟩
def Wg (P : Params) : Obj := ⟨Value.type "function", none, .func (PySem.W.fnOf "forced_way" "forced_way" (bC iC) (aZ iC) (aO iC) (Value.none) (Value.none) (Value.none) (Value.str (Str.ofString "whens.behind") 369) (none) (Value.ref 69) (Value.none)), #[]⟩
def V1 (P : Params) : Obj := ⟨Value.type "code", none, Data.fields #[Value.str (Str.ofString "forced_by") 379, Value.str (Str.ofString "forced_by") 380, Value.str (Str.ofString "/claim/cut.py") 381, Value.int 26 0, Value.int 2 0, Value.int 0 0, Value.int 0 0, Value.int 3 0, Value.ref 71, Value.bool true, Value.int 181 0, Value.ref 72, Value.none, Value.ref 73, Value.ref 74, Value.ref 75, Value.int 387 0, Value.int 26 0, Value.str (Str.ofString "/claim/cut.py") 388], #[]⟩
def Pr (P : Params) : Obj := ⟨Value.type "function", none, .func (PySem.W.fnOf "forced_by" "forced_by" (bC gY) (aZ gY) (aO gY) (Value.none) (Value.none) (Value.none) (Value.str (Str.ofString "whens.behind") 369) (none) (Value.ref 76) (Value.none)), #[]⟩
def Wv (P : Params) : Obj := ⟨Value.type "code", none, Data.fields #[Value.str (Str.ofString "forced_ways") 390, Value.str (Str.ofString "forced_ways") 391, Value.str (Str.ofString "/claim/cut.py") 392, Value.int 32 0, Value.int 3 0, Value.int 0 0, Value.int 0 0, Value.int 3 0, Value.ref 78, Value.bool true, Value.int 181 0, Value.ref 79, Value.none, Value.none, Value.none, Value.ref 80, Value.int 393 0, Value.int 32 0, Value.str (Str.ofString "/claim/cut.py") 394], #[]⟩
def Tk (P : Params) : Obj := ⟨Value.type "function", none, .func (PySem.W.fnOf "forced_ways" "forced_ways" (bC iG) (aZ iG) (aO iG) (Value.none) (Value.none) (Value.none) (Value.str (Str.ofString "whens.behind") 369) (none) (Value.ref 81) (Value.none)), #[]⟩
def Rh (P : Params) : Obj := ⟨Value.type "code", none, Data.fields #[Value.str (Str.ofString "go_with") 396, Value.str (Str.ofString "go_with") 397, Value.str (Str.ofString "/claim/cut.py") 398, Value.int 39 0, Value.int 2 0, Value.int 0 0, Value.int 0 0, Value.int 3 0, Value.ref 83, Value.bool true, Value.int 181 0, Value.ref 84, Value.none, Value.ref 85, Value.ref 86, Value.ref 87, Value.int 403 0, Value.int 39 0, Value.str (Str.ofString "/claim/cut.py") 404], #[]⟩
def L9 (P : Params) : Obj := ⟨Value.type "function", none, .func (PySem.W.fnOf "go_with" "go_with" (bC gF) (aZ gF) (aO gF) (Value.none) (Value.none) (Value.none) (Value.str (Str.ofString "whens.behind") 369) (none) (Value.ref 88) (Value.none)), #[]⟩
def Pz (P : Params) : Obj := ⟨Value.type "code", none, Data.fields #[Value.str (Str.ofString "behind_words") 406, Value.str (Str.ofString "behind_words") 407, Value.str (Str.ofString "/claim/cut.py") 408, Value.int 44 0, Value.int 3 0, Value.int 0 0, Value.int 0 0, Value.int 3 0, Value.ref 90, Value.bool true, Value.int 181 0, Value.ref 91, Value.none, Value.none, Value.none, Value.ref 92, Value.int 409 0, Value.int 44 0, Value.str (Str.ofString "/claim/cut.py") 410], #[]⟩
def Yj (P : Params) : Obj := ⟨Value.type "function", none, .func (PySem.W.fnOf "behind_words" "behind_words" (bC eR) (aZ eR) (aO eR) (Value.none) (Value.none) (Value.none) (Value.str (Str.ofString "whens.behind") 369) (none) (Value.ref 93) (Value.none)), #[]⟩
def n9 (P : Params) : Obj := ⟨Value.type "code", none, Data.fields #[Value.str (Str.ofString "__init__") 424, Value.str (Str.ofString "Behinds.__init__") 425, Value.str (Str.ofString "/claim/cut.py") 426, Value.int 51 0, Value.int 1 0, Value.int 0 0, Value.int 0 0, Value.int 3 0, Value.ref 102, Value.bool true, Value.int 181 0, Value.ref 103, Value.none, Value.ref 104, Value.ref 105, Value.ref 106, Value.int 428 0, Value.int 51 0, Value.str (Str.ofString "/claim/cut.py") 429], #[]⟩
def S0 (P : Params) : Obj := ⟨Value.type "function", none, .func (PySem.W.fnOf "__init__" "Behinds.__init__" (bC gU) (aZ gU) (aO gU) (Value.none) (Value.none) (Value.none) (Value.str (Str.ofString "whens.behind") 369) (none) (Value.ref 107) (Value.none)), #[]⟩
def S1 (P : Params) : Obj := ⟨Value.type "code", none, Data.fields #[Value.str (Str.ofString "words") 431, Value.str (Str.ofString "Behinds.words") 432, Value.str (Str.ofString "/claim/cut.py") 433, Value.int 55 0, Value.int 4 0, Value.int 0 0, Value.int 0 0, Value.int 3 0, Value.ref 109, Value.bool true, Value.int 181 0, Value.ref 110, Value.none, Value.ref 111, Value.ref 112, Value.ref 113, Value.int 439 0, Value.int 55 0, Value.str (Str.ofString "/claim/cut.py") 440], #[]⟩
def Uv (P : Params) : Obj := ⟨Value.type "function", none, .func (PySem.W.fnOf "words" "Behinds.words" (bC hX) (aZ hX) (aO hX) (Value.none) (Value.none) (Value.none) (Value.str (Str.ofString "whens.behind") 369) (none) (Value.ref 114) (Value.none)), #[]⟩
def R3 (P : Params) : Obj := ⟨Value.type "code", none, Data.fields #[Value.str (Str.ofString "gathered") 453, Value.str (Str.ofString "Behinds.gathered") 454, Value.str (Str.ofString "/claim/cut.py") 455, Value.int 67 0, Value.int 4 0, Value.int 0 0, Value.int 0 0, Value.int 3 0, Value.ref 123, Value.bool true, Value.int 181 0, Value.ref 124, Value.none, Value.none, Value.none, Value.ref 125, Value.int 456 0, Value.int 67 0, Value.str (Str.ofString "/claim/cut.py") 457], #[]⟩
def P5 (P : Params) : Obj := ⟨Value.type "function", none, .func (PySem.W.fnOf "gathered" "Behinds.gathered" (bC gL) (aZ gL) (aO gL) (Value.none) (Value.none) (Value.none) (Value.str (Str.ofString "whens.behind") 369) (none) (Value.ref 126) (Value.none)), #[]⟩
def Yw (P : Params) : Obj := ⟨Value.type "tuple", none, Data.seq #[Value.str (Str.ofString "by_mays") 459, Value.str (Str.ofString "by_words") 460], #[]⟩
def S2 (P : Params) : Obj := ⟨Value.type "dict", none, Data.dict #[{ hash := PyData.keyHash P (Str.ofString "__module__"), key := Value.str (Str.ofString "__module__") 419, val := Value.str (Str.ofString "whens.behind") 369 }, { hash := PyData.keyHash P (Str.ofString "__firstlineno__"), key := Value.str (Str.ofString "__firstlineno__") 423, val := Value.int 49 422 }, { hash := PyData.keyHash P (Str.ofString "__init__"), key := Value.str (Str.ofString "__init__") 430, val := Value.ref 108 }, { hash := PyData.keyHash P (Str.ofString "words"), key := Value.str (Str.ofString "words") 441, val := Value.ref 115 }, { hash := PyData.keyHash P (Str.ofString "mays"), key := Value.str (Str.ofString "mays") 452, val := Value.ref 122 }, { hash := PyData.keyHash P (Str.ofString "gathered"), key := Value.str (Str.ofString "gathered") 458, val := Value.ref 127 }, { hash := PyData.keyHash P (Str.ofString "__static_attributes__"), key := Value.str (Str.ofString "__static_attributes__") 461, val := Value.ref 128 }, { hash := PyData.keyHash P (Str.ofString "__dict__"), key := Value.str (Str.ofString "__dict__") 463, val := Value.ref 131 }, { hash := PyData.keyHash P (Str.ofString "__weakref__"), key := Value.str (Str.ofString "__weakref__") 465, val := Value.ref 132 }, { hash := PyData.keyHash P (Str.ofString "__doc__"), key := Value.str (Str.ofString "__doc__") 466, val := Value.none }] 4, #[]⟩
def Px (P : Params) : Obj := ⟨Value.type "type", none, Data.cls { name := Str.ofString "Behinds", bases := [Value.type "object"], mro := [Value.ref 130, Value.type "object"], ns := 129, qualname := Str.ofString "Behinds" }, #[none, none, some (Value.str (Str.ofString "Behinds") 412), some (Value.str (Str.ofString "Behinds") 420), some (Value.builtin "object.__new__"), some (Value.bool true)]⟩
def Oq (P : Params) : Obj := ⟨Value.type "getset_descriptor", none, Data.fields #[Value.str (Str.ofString "__dict__") 462, Value.ref 130, Value.builtin "function.__dict__", Value.builtin "function.__dict__#set"], #[]⟩
def b7 (P : Params) : Obj := ⟨Value.type "getset_descriptor", none, Data.fields #[Value.str (Str.ofString "__weakref__") 464, Value.ref 130, Value.builtin "ExceptionGroup.__weakref__", Value.none], #[]⟩
def Pp (P : Params) : Obj := ⟨Value.type "code", none, Data.fields #[Value.str (Str.ofString "behind_mays") 469, Value.str (Str.ofString "behind_mays") 470, Value.str (Str.ofString "/claim/cut.py") 471, Value.int 77 0, Value.int 3 0, Value.int 0 0, Value.int 0 0, Value.int 3 0, Value.ref 135, Value.bool true, Value.int 181 0, Value.ref 136, Value.none, Value.ref 137, Value.ref 138, Value.ref 139, Value.int 475 0, Value.int 77 0, Value.str (Str.ofString "/claim/cut.py") 476], #[]⟩
def Wc (P : Params) : Obj := ⟨Value.type "function", none, .func (PySem.W.fnOf "behind_mays" "behind_mays" (bC gH) (aZ gH) (aO gH) (Value.none) (Value.none) (Value.none) (Value.str (Str.ofString "whens.behind") 369) (none) (Value.ref 140) (Value.none)), #[]⟩
def Ri (P : Params) : Obj := ⟨Value.type "code", none, Data.fields #[Value.str (Str.ofString "fits_three") 478, Value.str (Str.ofString "fits_three") 479, Value.str (Str.ofString "/claim/cut.py") 480, Value.int 79 0, Value.int 4 0, Value.int 0 0, Value.int 0 0, Value.int 3 0, Value.ref 142, Value.bool true, Value.int 181 0, Value.ref 143, Value.none, Value.ref 144, Value.ref 145, Value.ref 146, Value.int 485 0, Value.int 79 0, Value.str (Str.ofString "/claim/cut.py") 486], #[]⟩
def Z8 (P : Params) : Obj := ⟨Value.type "function", none, .func (PySem.W.fnOf "fits_three" "fits_three" (bC hR) (aZ hR) (aO hR) (Value.none) (Value.none) (Value.none) (Value.str (Str.ofString "whens.behind") 369) (none) (Value.ref 147) (Value.none)), #[]⟩
def Yd (P : Params) : Obj := ⟨Value.type "code", none, Data.fields #[Value.str (Str.ofString "_law_feed") 490, Value.str (Str.ofString "_law_feed") 491, Value.str (Str.ofString "/claim/cut.py") 492, Value.int 82 0, Value.int 2 0, Value.int 0 0, Value.int 0 0, Value.int 3 0, Value.ref 149, Value.bool true, Value.int 181 0, Value.ref 150, Value.none, Value.ref 151, Value.ref 152, Value.ref 153, Value.int 496 0, Value.int 82 0, Value.str (Str.ofString "/claim/cut.py") 497], #[]⟩
def P3 (P : Params) : Obj := ⟨Value.type "function", none, .func (PySem.W.fnOf "_law_feed" "_law_feed" (bC hJ) (aZ hJ) (aO hJ) (Value.none) (Value.none) (Value.none) (Value.str (Str.ofString "law_whens_k08_whole_three_things") 488) (none) (Value.ref 154) (Value.none)), #[]⟩
def i8 (P : Params) : Obj := ⟨Value.type "code", none, Data.fields #[Value.str (Str.ofString "_law_draw") 499, Value.str (Str.ofString "_law_draw") 500, Value.str (Str.ofString "/claim/cut.py") 501, Value.int 87 0, Value.int 2 0, Value.int 0 0, Value.int 0 0, Value.int 3 0, Value.ref 156, Value.bool true, Value.int 181 0, Value.ref 157, Value.none, Value.ref 158, Value.ref 159, Value.ref 160, Value.int 506 0, Value.int 87 0, Value.str (Str.ofString "/claim/cut.py") 507], #[]⟩
def t5 (P : Params) : Obj := ⟨Value.type "function", none, .func (PySem.W.fnOf "_law_draw" "_law_draw" (bC eM) (aZ eM) (aO eM) (Value.none) (Value.none) (Value.none) (Value.str (Str.ofString "law_whens_k08_whole_three_things") 488) (none) (Value.ref 161) (Value.none)), #[]⟩
def Ou (P : Params) : Obj := ⟨Value.type "code", none, Data.fields #[Value.str (Str.ofString "_law_fraction") 509, Value.str (Str.ofString "_law_fraction") 510, Value.str (Str.ofString "/claim/cut.py") 511, Value.int 97 0, Value.int 2 0, Value.int 0 0, Value.int 0 0, Value.int 3 0, Value.ref 163, Value.bool true, Value.int 181 0, Value.ref 164, Value.none, Value.ref 165, Value.ref 166, Value.ref 167, Value.int 517 0, Value.int 97 0, Value.str (Str.ofString "/claim/cut.py") 518], #[]⟩
def B7 (P : Params) : Obj := ⟨Value.type "function", none, .func (PySem.W.fnOf "_law_fraction" "_law_fraction" (bC gD) (aZ gD) (aO gD) (Value.none) (Value.none) (Value.none) (Value.str (Str.ofString "law_whens_k08_whole_three_things") 488) (none) (Value.ref 168) (Value.none)), #[]⟩
def S9 (P : Params) : Obj := ⟨Value.type "code", none, Data.fields #[Value.str (Str.ofString "_law_stand") 520, Value.str (Str.ofString "_law_stand") 521, Value.str (Str.ofString "/claim/cut.py") 522, Value.int 105 0, Value.int 2 0, Value.int 0 0, Value.int 0 0, Value.int 3 0, Value.ref 170, Value.bool true, Value.int 181 0, Value.ref 171, Value.none, Value.ref 172, Value.ref 173, Value.ref 174, Value.int 526 0, Value.int 105 0, Value.str (Str.ofString "/claim/cut.py") 527], #[]⟩
def N6 (P : Params) : Obj := ⟨Value.type "function", none, .func (PySem.W.fnOf "_law_stand" "_law_stand" (bC iF) (aZ iF) (aO iF) (Value.none) (Value.none) (Value.none) (Value.str (Str.ofString "law_whens_k08_whole_three_things") 488) (none) (Value.ref 175) (Value.none)), #[]⟩
def Tj (P : Params) : Obj := ⟨Value.type "code", none, Data.fields #[Value.str (Str.ofString "_law_word") 529, Value.str (Str.ofString "_law_word") 530, Value.str (Str.ofString "/claim/cut.py") 531, Value.int 108 0, Value.int 2 0, Value.int 0 0, Value.int 0 0, Value.int 3 0, Value.ref 177, Value.bool true, Value.int 181 0, Value.ref 178, Value.none, Value.ref 179, Value.ref 180, Value.ref 181, Value.int 538 0, Value.int 108 0, Value.str (Str.ofString "/claim/cut.py") 539], #[]⟩
def Q6 (P : Params) : Obj := ⟨Value.type "function", none, .func (PySem.W.fnOf "_law_word" "_law_word" (bC gZ) (aZ gZ) (aO gZ) (Value.none) (Value.none) (Value.none) (Value.str (Str.ofString "law_whens_k08_whole_three_things") 488) (none) (Value.ref 182) (Value.none)), #[]⟩
def Xu (P : Params) : Obj := ⟨Value.type "code", none, Data.fields #[Value.str (Str.ofString "_law_words") 541, Value.str (Str.ofString "_law_words") 542, Value.str (Str.ofString "/claim/cut.py") 543, Value.int 122 0, Value.int 1 0, Value.int 0 0, Value.int 0 0, Value.int 3 0, Value.ref 184, Value.bool true, Value.int 181 0, Value.ref 185, Value.none, Value.ref 186, Value.ref 187, Value.ref 188, Value.int 546 0, Value.int 122 0, Value.str (Str.ofString "/claim/cut.py") 547], #[]⟩
def D8 (P : Params) : Obj := ⟨Value.type "function", none, .func (PySem.W.fnOf "_law_words" "_law_words" (bC fP) (aZ fP) (aO fP) (Value.none) (Value.none) (Value.none) (Value.str (Str.ofString "law_whens_k08_whole_three_things") 488) (none) (Value.ref 189) (Value.none)), #[]⟩
def Pk (P : Params) : Obj := ⟨Value.type "code", none, Data.fields #[Value.str (Str.ofString "_law_kinds") 549, Value.str (Str.ofString "_law_kinds") 550, Value.str (Str.ofString "/claim/cut.py") 551, Value.int 131 0, Value.int 2 0, Value.int 0 0, Value.int 0 0, Value.int 3 0, Value.ref 191, Value.bool true, Value.int 181 0, Value.ref 192, Value.none, Value.none, Value.none, Value.ref 193, Value.int 552 0, Value.int 131 0, Value.str (Str.ofString "/claim/cut.py") 553], #[]⟩
def u4 (P : Params) : Obj := ⟨Value.type "function", none, .func (PySem.W.fnOf "_law_kinds" "_law_kinds" (bC gX) (aZ gX) (aO gX) (Value.none) (Value.none) (Value.none) (Value.str (Str.ofString "law_whens_k08_whole_three_things") 488) (none) (Value.ref 194) (Value.none)), #[]⟩
def B5 (P : Params) : Obj := ⟨Value.type "code", none, Data.fields #[Value.str (Str.ofString "_law_may") 555, Value.str (Str.ofString "_law_may") 556, Value.str (Str.ofString "/claim/cut.py") 557, Value.int 136 0, Value.int 2 0, Value.int 0 0, Value.int 0 0, Value.int 3 0, Value.ref 196, Value.bool true, Value.int 181 0, Value.ref 197, Value.none, Value.none, Value.none, Value.ref 198, Value.int 558 0, Value.int 136 0, Value.str (Str.ofString "/claim/cut.py") 559], #[]⟩
def u7 (P : Params) : Obj := ⟨Value.type "function", none, .func (PySem.W.fnOf "_law_may" "_law_may" (bC gW) (aZ gW) (aO gW) (Value.none) (Value.none) (Value.none) (Value.str (Str.ofString "law_whens_k08_whole_three_things") 488) (none) (Value.ref 199) (Value.none)), #[]⟩
def G5 (P : Params) : Obj := ⟨Value.type "code", none, Data.fields #[Value.str (Str.ofString "_law_times") 561, Value.str (Str.ofString "_law_times") 562, Value.str (Str.ofString "/claim/cut.py") 563, Value.int 146 0, Value.int 5 0, Value.int 0 0, Value.int 0 0, Value.int 3 0, Value.ref 201, Value.bool true, Value.int 181 0, Value.ref 202, Value.none, Value.ref 203, Value.ref 204, Value.ref 205, Value.int 571 0, Value.int 146 0, Value.str (Str.ofString "/claim/cut.py") 572], #[]⟩
def Oo (P : Params) : Obj := ⟨Value.type "function", none, .func (PySem.W.fnOf "_law_times" "_law_times" (bC gJ) (aZ gJ) (aO gJ) (Value.none) (Value.none) (Value.none) (Value.str (Str.ofString "law_whens_k08_whole_three_things") 488) (none) (Value.ref 206) (Value.none)), #[]⟩
def W7 (P : Params) : Obj := ⟨Value.type "code", none, Data.fields #[Value.str (Str.ofString "_law_telling") 574, Value.str (Str.ofString "_law_telling") 575, Value.str (Str.ofString "/claim/cut.py") 576, Value.int 152 0, Value.int 2 0, Value.int 0 0, Value.int 0 0, Value.int 3 0, Value.ref 208, Value.bool true, Value.int 181 0, Value.ref 209, Value.none, Value.none, Value.none, Value.ref 210, Value.int 577 0, Value.int 152 0, Value.str (Str.ofString "/claim/cut.py") 578], #[]⟩
def Qk (P : Params) : Obj := ⟨Value.type "function", none, .func (PySem.W.fnOf "_law_telling" "_law_telling" (bC gS) (aZ gS) (aO gS) (Value.none) (Value.none) (Value.none) (Value.str (Str.ofString "law_whens_k08_whole_three_things") 488) (none) (Value.ref 211) (Value.none)), #[]⟩
def W6 (P : Params) : Obj := ⟨Value.type "code", none, Data.fields #[Value.str (Str.ofString "law") 580, Value.str (Str.ofString "law") 581, Value.str (Str.ofString "/claim/cut.py") 582, Value.int 157 0, Value.int 1 0, Value.int 0 0, Value.int 0 0, Value.int 3 0, Value.ref 213, Value.bool true, Value.int 181 0, Value.ref 214, Value.none, Value.none, Value.none, Value.ref 215, Value.int 583 0, Value.int 157 0, Value.str (Str.ofString "/claim/cut.py") 584], #[]⟩
def j0 (P : Params) : Obj := ⟨Value.type "function", none, .func (PySem.W.fnOf "law" "law" (bC fE) (aZ fE) (aO fE) (Value.none) (Value.none) (Value.none) (Value.str (Str.ofString "law_whens_k08_whole_three_things") 488) (none) (Value.ref 216) (Value.none)), #[]⟩
def kk (P : Params) : PySem.W.Frag := [(3, Xy P), (15, Oy P), (16, X8 P), (17, Vl P), (18, F2 P), (19, b8 P), (20, Xg P), (21, We P), (22, Yc P), (23, Wu P), (24, Vp P), (25, U5 P), (26, Xk P), (27, Pb P), (28, Va P), (29, Ui P), (30, Yp P), (31, Y2 P), (32, Q0 P), (33, F8 P), (34, f9 P), (35, Q5 P), (36, Vb P), (37, D7 P), (43, Tc P), (44, Yu P), (50, Yo P), (51, Wh P), (55, Rg P), (56, L3 P), (62, Ry P), (63, Od P), (69, M8 P), (70, Wg P), (76, V1 P), (77, Pr P), (81, Wv P), (82, Tk P), (88, Rh P), (89, L9 P), (93, Pz P), (94, Yj P), (107, n9 P), (108, S0 P), (114, S1 P), (115, Uv P), (126, R3 P), (127, P5 P), (128, Yw P), (129, S2 P), (130, Px P), (131, Oq P), (132, b7 P), (140, Pp P), (141, Wc P), (147, Ri P), (148, Z8 P), (154, Yd P), (155, P3 P), (161, i8 P), (162, t5 P), (168, Ou P), (169, B7 P), (175, S9 P), (176, N6 P), (182, Tj P), (183, Q6 P), (189, Xu P), (190, D8 P), (194, Pk P), (195, u4 P), (199, B5 P), (200, u7 P), (206, G5 P), (207, Oo P), (211, W7 P), (212, Qk P), (216, W6 P), (217, j0 P)]
end K08
open PySem PySem.W PyProof.Rows
set_option maxRecDepth 100000 in
set_option maxHeartbeats 0 in
theorem PySem.Challenge.cw_whens_k08_whole_three_things_holds : PySem.Challenge.rw_whens_k08_whole_three_things.Holds := by
 w_on; o_law; refine H08.head (H := kHook K08.kk [3, 15, 16, 17, 18, 19, 20, 21, 22, 23, 24, 25, 26, 27, 28, 29, 30, 31, 32, 33, 34, 35, 36, 37, 43, 44, 50, 51, 55, 56, 62, 63, 69, 70, 76, 77, 81, 82, 88, 89, 93, 94, 107, 108, 114, 115, 126, 127, 128, 129, 130, 131, 132, 140, 141, 147, 148, 154, 155, 161, 162, 168, 169, 175, 176, 182, 183, 189, 190, 194, 195, 199, 200, 206, 207, 211, 212, 216, 217] (fun _ => by kernel_rfl)) (fun w os => by kernel_rfl) (by assumption) (by rfl) (by rfl) (by rfl) ?hw ?hc; (case hw => w_witness2)
 k_fill
 refine K08.walk (l := PySem.Challenge.rw_whens_k08_whole_three_things) rfl rfl (fun w h Y => PySem.W.kIn_of Y) ?F
 case F =>
  intro w mg fa h KX G hmg
  refine' K08.all_mk (bQ := 130) (uZ := 44) (tG := 51) (tO := 56) (tK := 63) (tF := 70) (wA := 77) (uI := 82) (vG := 89) (uE := 94) (pG := 108) (oE := 115) (pL := 127) (sU := 141) (sX := 148) (tN := 155) (vK := 162) (uW := 169) (sK := 176) (sH := 183) (wB := 190) (wP := 195) (tD := 200) (sQ := 207) (tQ := 212) (tZ := 217) (jT := 16) (gR := 15) (jS := 23) (jZ := 37) KX G hmg ?g_Behinds ?pg_Behinds ?hd_Behinds ?po_Behinds ?sa_Behinds ?mk_Behinds ?kc_Behinds ?n_Behinds_by_words ?n_Behinds_by_mays ?a0 ?l0 ?c0 ?k0 ?a1 ?l1 ?c1 ?k1 ?a2 ?l2 ?c2 ?k2 ?a3 ?l3 ?c3 ?k3 ?a4 ?l4 ?c4 ?k4 ?a5 ?l5 ?c5 ?k5 ?a6 ?l6 ?c6 ?k6 ?a7 ?l7 ?c7 ?k7 ?a8 ?l8 ?c8 ?k8 ?a9 ?l9 ?c9 ?k9 ?i9 ?a10 ?l10 ?c10 ?k10 ?i10 ?a11 ?l11 ?c11 ?k11 ?i11 ?a12 ?l12 ?c12 ?k12 ?a13 ?l13 ?c13 ?k13 ?a14 ?l14 ?c14 ?k14 ?a15 ?l15 ?c15 ?k15 ?a16 ?l16 ?c16 ?k16 ?a17 ?l17 ?c17 ?k17 ?a18 ?l18 ?c18 ?k18 ?a19 ?l19 ?c19 ?k19 ?a20 ?l20 ?c20 ?k20 ?a21 ?l21 ?c21 ?k21 ?a22 ?l22 ?c22 ?k22 ?a23 ?l23 ?c23 ?k23 ?a24 ?l24 ?c24 ?k24 ?Dq ?Eb ?Ai ?wY ?Bu ?zS ?yG ?Ch ?xJ ?Aj ?xU ?Cj ?El ?Ea ?yK ?y_WAYS ?zK ?Cq ?y_END_COUNTS ?yN ?Bj ?lk_POINT_WORDS_0 ?lr_POINT_WORDS_0 ?lk_POINT_WORDS_1 ?lr_POINT_WORDS_1 ?lk_POINT_WORDS_2 ?lr_POINT_WORDS_2 ?y_POINT_WORDS ?Cg ?zH ?z_tuple ?z_reversed ?z_zip ?z_range ?z_len ?z_max ?z_abs ?z_int ?z_isinstance ?z_repr
  (case g_Behinds => kernel_rfl)
  (case pg_Behinds => kernel_rfl)
  (case hd_Behinds => kernel_rfl)
  (case po_Behinds => kernel_rfl)
  (case sa_Behinds => kernel_rfl)
  (case mk_Behinds => kernel_rfl)
  (case kc_Behinds => kernel_rfl)
  (case n_Behinds_by_words => kernel_rfl)
  (case n_Behinds_by_mays => kernel_rfl)
  (case a0 => kernel_rfl)
  (case l0 => exact rfl)
  (case c0 => kernel_rfl)
  (case k0 => kernel_rfl)
  (case a1 => kernel_rfl)
  (case l1 => exact rfl)
  (case c1 => kernel_rfl)
  (case k1 => kernel_rfl)
  (case a2 => kernel_rfl)
  (case l2 => exact rfl)
  (case c2 => kernel_rfl)
  (case k2 => kernel_rfl)
  (case a3 => kernel_rfl)
  (case l3 => exact rfl)
  (case c3 => kernel_rfl)
  (case k3 => kernel_rfl)
  (case a4 => kernel_rfl)
  (case l4 => exact rfl)
  (case c4 => kernel_rfl)
  (case k4 => kernel_rfl)
  (case a5 => kernel_rfl)
  (case l5 => exact rfl)
  (case c5 => kernel_rfl)
  (case k5 => kernel_rfl)
  (case a6 => kernel_rfl)
  (case l6 => exact rfl)
  (case c6 => kernel_rfl)
  (case k6 => kernel_rfl)
  (case a7 => kernel_rfl)
  (case l7 => exact rfl)
  (case c7 => kernel_rfl)
  (case k7 => kernel_rfl)
  (case a8 => kernel_rfl)
  (case l8 => exact rfl)
  (case c8 => kernel_rfl)
  (case k8 => kernel_rfl)
  (case a9 => kernel_rfl)
  (case l9 => exact rfl)
  (case c9 => kernel_rfl)
  (case k9 => kernel_rfl)
  (case i9 => kernel_rfl)
  (case a10 => kernel_rfl)
  (case l10 => exact rfl)
  (case c10 => kernel_rfl)
  (case k10 => kernel_rfl)
  (case i10 => kernel_rfl)
  (case a11 => kernel_rfl)
  (case l11 => exact rfl)
  (case c11 => kernel_rfl)
  (case k11 => kernel_rfl)
  (case i11 => kernel_rfl)
  (case a12 => kernel_rfl)
  (case l12 => exact rfl)
  (case c12 => kernel_rfl)
  (case k12 => kernel_rfl)
  (case a13 => kernel_rfl)
  (case l13 => exact rfl)
  (case c13 => kernel_rfl)
  (case k13 => kernel_rfl)
  (case a14 => kernel_rfl)
  (case l14 => exact rfl)
  (case c14 => kernel_rfl)
  (case k14 => kernel_rfl)
  (case a15 => kernel_rfl)
  (case l15 => exact rfl)
  (case c15 => kernel_rfl)
  (case k15 => kernel_rfl)
  (case a16 => kernel_rfl)
  (case l16 => exact rfl)
  (case c16 => kernel_rfl)
  (case k16 => kernel_rfl)
  (case a17 => kernel_rfl)
  (case l17 => exact rfl)
  (case c17 => kernel_rfl)
  (case k17 => kernel_rfl)
  (case a18 => kernel_rfl)
  (case l18 => exact rfl)
  (case c18 => kernel_rfl)
  (case k18 => kernel_rfl)
  (case a19 => kernel_rfl)
  (case l19 => exact rfl)
  (case c19 => kernel_rfl)
  (case k19 => kernel_rfl)
  (case a20 => kernel_rfl)
  (case l20 => exact rfl)
  (case c20 => kernel_rfl)
  (case k20 => kernel_rfl)
  (case a21 => kernel_rfl)
  (case l21 => exact rfl)
  (case c21 => kernel_rfl)
  (case k21 => kernel_rfl)
  (case a22 => kernel_rfl)
  (case l22 => exact rfl)
  (case c22 => kernel_rfl)
  (case k22 => kernel_rfl)
  (case a23 => kernel_rfl)
  (case l23 => exact rfl)
  (case c23 => kernel_rfl)
  (case k23 => kernel_rfl)
  (case a24 => kernel_rfl)
  (case l24 => exact rfl)
  (case c24 => kernel_rfl)
  (case k24 => kernel_rfl)
  (case Dq => kernel_rfl)
  (case Eb => exact rfl)
  (case Ai => exact rfl)
  (case wY => exact rfl)
  (case Bu => exact rfl)
  (case zS => exact rfl)
  (case yG => exact rfl)
  (case Ch => exact rfl)
  (case xJ => exact rfl)
  (case Aj => exact rfl)
  (case xU => exact rfl)
  (case Cj => exact rfl)
  (case El => exact rfl)
  (case Ea => exact rfl)
  (case yK => exact rfl)
  (case y_WAYS => rfl)
  (case zK => kernel_rfl)
  (case Cq => exact rfl)
  (case y_END_COUNTS => rfl)
  (case yN => kernel_rfl)
  (case Bj => exact rfl)
  (case lk_POINT_WORDS_0 => exact rfl)
  (case lr_POINT_WORDS_0 => exact rfl)
  (case lk_POINT_WORDS_1 => exact rfl)
  (case lr_POINT_WORDS_1 => exact rfl)
  (case lk_POINT_WORDS_2 => exact rfl)
  (case lr_POINT_WORDS_2 => exact rfl)
  (case y_POINT_WORDS => rfl)
  (case Cg => kernel_rfl)
  (case zH => exact rfl)
  (case z_tuple => kernel_rfl)
  (case z_reversed => kernel_rfl)
  (case z_zip => kernel_rfl)
  (case z_range => kernel_rfl)
  (case z_len => kernel_rfl)
  (case z_max => kernel_rfl)
  (case z_abs => kernel_rfl)
  (case z_int => kernel_rfl)
  (case z_isinstance => kernel_rfl)
  (case z_repr => kernel_rfl)
#print axioms PySem.Challenge.cw_whens_k08_whole_three_things_holds
