import PyProof.Rows.All
import Wide.All
import OpenK.AllK
import Wide.FinOn
import Lean
import PyProof.EqAt
import PyProof.EqKinds
import PyProof.TupleCall
import PyProof.ListMulRoad
import KE.KRevIter
import PyProof.ZipIter
import PyProof.TupleIter
import PyProof.Rows.SortWalk
import PyProof.Rows.SortStr
import PyProof.Rows.StrWeight2
import PyProof.ConsumeWalk
import PyProof.SliceStr2
import PyProof.ListRange
import PyProof.TupleOfSeq
import PyProof.P3In
import PyProof.AttrMissHeap
import KE.KDictOf
import PyProof.StrBlockI
import PyProof.WalksEnum
import PyProof.EnumMake
import PyProof.DictWalks
import PyProof.SetRoads
import PyProof.SetNew
import PyProof.Rows.SetFrom
import PyProof.CollectWalk
import PyProof.StrWalks
import PyProof.FString5
import PyProof.Rows.SortShell
import PyProof.SeqI3
import PyProof.SliceList
import KE.KSortTup
import PyProof.FactsAll.dict_values
import PyProof.DictItemsLoops
import PyProof.StrBlock
import PyProof.StrBlock2
import PyProof.StrBlockG
import PyProof.StrBlockL
import PyProof.MeetsStr3
import PyProof.Rows.StrNews2
import KE.KIntText
import PyProof.FString
import PyProof.AutoListH
import PyProof.StrLawsTight
import PyProof.StrLawsAffix
import PyProof.StrLawsFirst
import PyProof.Rows.ReprOcc
import Open.Tops
import PyProof.DictDisplay
import PyProof.Rows.TupDisplay
import PySem.Challenge.RW_whens_k85_drawn
local macro_rules(kind:=Lean.Parser.Command.declaration)
|x=>if x[0][4].getNumArgs==0&&x[1][1][0].getId != `lw&&(x[1].isOfKind ``Lean.Parser.Command.definition||x[1].isOfKind ``Lean.Parser.Command.abbrev)then pure (x.setArg 0 (x[0].setArg 4 (Lean.mkNullNode #[Lean.mkNode ``Lean.Parser.Command.noncomputable #[Lean.mkAtom "noncomputable"]])))else Lean.Macro.throwUnsupported
set_option Elab.async false
set_option linter.all false
set_option maxRecDepth 100000
set_option maxHeartbeats 4000000
namespace L2
open PySem PySem.Spec PyProof.Rows
noncomputable instance decPy : DecidableEq PyData := fun _ _ => Classical.propDecidable _
mutual
def isK : PyData → Bool
 | .int _ => true
 | .str x => PyData.strOk x
 | .tuple xs => isKs xs
 | .none | .bool _ | .list _ | .dict _ => false
def isKs : List PyData → Bool
 | [] => true
 | x :: xs => isK x && isKs xs
end
mutual
def hashK (w : World) : PyData → Int
 | .int i => hashInt i
 | .str x => hashStr w x
 | .tuple xs => reduceHash (Builtin.Tuple.tupleHashOf (hashKs w xs))
 | .none | .bool _ | .list _ | .dict _ => 0
def hashKs (w : World) : List PyData → List Int
 | [] => []
 | x :: xs => hashK w x :: hashKs w xs
end
mutual
def drawsK : PyData → Nat
 | .int _ | .str _ => 1
 | .tuple xs => drawsKs xs + 1
 | .none | .bool _ | .list _ | .dict _ => 0
def drawsKs : List PyData → Nat
 | [] => 0
 | x :: xs => drawsK x + drawsKs xs
end
mutual
theorem isK_lay : ∀ p : PyData, isK p = true → p.canLay0 = true
 | .int _, _ => rfl
 | .str _, h => h
 | .tuple xs, h => isKs_lay xs h
 | .none, h | .bool _, h | .list _, h | .dict _, h => by simp [isK] at h
theorem isKs_lay : ∀ ps : List PyData, isKs ps = true → PyData.canLayAll0 ps = true
 | [], _ => rfl
 | x :: xs, h => by
  simp only [isKs, Bool.and_eq_true] at h; simp only [PyData.canLayAll0, isK_lay x h.1, isKs_lay xs h.2, Bool.and_self]
end
mutual
theorem isK_eqv : ∀ p q : PyData, isK p = true → isK q = true → p.eqv q = decide (p = q)
 | .int i, .int j, _, _ => by
  simp only [PyData.eqv, PyData.int.injEq]; exact Bool.eq_iff_iff.mpr (by simp)
 | .str x, .str y, _, _ => by
  simp only [PyData.eqv, PyData.str.injEq]; exact Bool.eq_iff_iff.mpr (by simp)
 | .tuple xs, .tuple ys, h, h' => by
  have e := isKs_eqv xs ys h h'
  simp only [PyData.eqv, PyData.tuple.injEq]; exact e
 | .int i, .str y, _, _ | .str y, .int i, _, _ | .int i, .tuple y, _, _ | .tuple y, .int i, _, _ | .str i, .tuple y, _, _ | .tuple y, .str i, _, _ => by
  simp only [PyData.eqv]; exact (decide_eq_false (fun e => nomatch e)).symm
 | .none, _, h, _ | .bool _, _, h, _ | .list _, _, h, _ | .dict _, _, h, _ => by simp [isK] at h
 | .int _, .none, _, h | .int _, .bool _, _, h | .int _, .list _, _, h | .int _, .dict _, _, h => by simp [isK] at h
 | .str _, .none, _, h | .str _, .bool _, _, h | .str _, .list _, _, h | .str _, .dict _, _, h => by simp [isK] at h
 | .tuple _, .none, _, h | .tuple _, .bool _, _, h | .tuple _, .list _, _, h | .tuple _, .dict _, _, h => by simp [isK] at h
theorem isKs_eqv : ∀ p q : List PyData, isKs p = true → isKs q = true → PyData.eqvAll p q = decide (p = q)
 | [], [], _, _ => by simp [PyData.eqvAll]
 | [], _ :: _, _, _ => by simp [PyData.eqvAll]
 | _ :: _, [], _, _ => by simp [PyData.eqvAll]
 | x :: xs, y :: ys, h, h' => by
  simp only [isKs, Bool.and_eq_true] at h h'; simp only [PyData.eqvAll, isK_eqv x y h.1 h'.1, isKs_eqv xs ys h.2 h'.2, List.cons.injEq]; exact (Bool.decide_and _ _).symm
end
mutual
theorem reads_keep {h h' : Heap} {d : Addr} {o : Obj} {es ep} (ho : h.get? d = some o) (hd : o.data = .dict es ep) (hs : Heap.SameBut d h h') :
  ∀ (p : PyData) (v : Value) (as : List Addr), isK p = true → Reads h v p as → Reads h' v p as
 | .int _, _, _, _, r => by cases r; exact .int _ _
 | .str _, _, _, _, r => by cases r; exact .str _ _
 | .tuple xs, _, _, hk, r => by
  cases r with
  | tuple h1 h2 h3 h4 =>
   rename_i a ob vs n; have hne : a ≠ d := by
    rintro rfl; obtain rfl : ob = o := Option.some.inj (h1.symm.trans ho); rw [hd] at h3; exact nomatch h3
   exact .tuple ((hs.2 _ hne).trans h1) h2 h3 (readsAll_keep ho hd hs xs _ _ hk h4)
 | .none, _, _, h, _ | .bool _, _, _, h, _ | .list _, _, _, h, _ | .dict _, _, _, h, _ => by simp [isK] at h
theorem readsAll_keep {h h' : Heap} {d : Addr} {o : Obj} {es ep} (ho : h.get? d = some o) (hd : o.data = .dict es ep) (hs : Heap.SameBut d h h') :
  ∀ (ps : List PyData) (vs : List Value) (as : List Addr), isKs ps = true → ReadsAll h vs ps as → ReadsAll h' vs ps as
 | [], _, _, _, r => by cases r; exact .nil
 | x :: xs, _, _, hk, r => by
  simp only [isKs, Bool.and_eq_true] at hk
  cases r with
  | cons r1 r2 => exact .cons (reads_keep ho hd hs x _ _ hk.1 r1) (readsAll_keep ho hd hs xs _ _ hk.2 r2)
end
section
variable {prog : Program} {w : World}
mutual
theorem hash_reads : ∀ (p : PyData) (v : Value) (A : Around) (E : Value → Shared → Prop) (s : Shared) (as : List Addr) (Q : Int → Shared → Prop), isK p = true → Reads s.heap v p as → A.units + p.depth < cLine →
  Q (hashK w p) { s with toks := s.toks + drawsK p } → wpAny (model prog w) A (pyHash v) Q E s
 | .int i, _, A, E, s, _, Q, _, r, _, h => by cases r; exact wpAny_pyHash_int h
 | .str x, _, A, E, s, _, Q, _, r, _, h => by cases r; exact wpAny_pyHash_str h
 | .tuple xs, _, A, E, s, _, Q, hk, r, hu, h => by
  cases r with
  | tuple h1 h2 h3 h4 =>
   refine PySem.W.pyHash_slot (T := "tuple") ⟨_, h1, h2⟩ F.slot_tuple_hash F.entry_tuple_hash (F.args_tuple_hash_1 _) (beq_builtin_none _) (.inr (by omega)) ?_
   show wpAny _ _ (Builtin.Tuple.tupleItemsOf (.ref _) >>= _) _ _ s
   refine wpAny_bind (wpAny_tupleItemsOf h1 h3 ?_); refine wpAny_bind ?_; rw [← Array.forIn_toList]; refine hash_readsAll xs _ A.in1 E s _ #[] _ hk h4 (by simp only [PyData.depth, Around.in1_units] at hu ⊢; omega) fun b hb => ?_
   show wpAny _ _ (retInt (Builtin.Tuple.tupleHashOf b.toList)) _ _ _
   rw [hb]; exact wpAny_bind (wpAny_mkInt (wpAny_pure ⟨_, _, rfl, h⟩))
 | .none, _, _, _, _, _, _, h, _, _, _ | .bool _, _, _, _, _, _, _, h, _, _, _ | .list _, _, _, _, _, _, _, h, _, _, _ | .dict _, _, _, _, _, _, _, h, _, _, _ => by simp [isK] at h
theorem hash_readsAll : ∀ (ps : List PyData) (vs : List Value) (A : Around) (E : Value → Shared → Prop) (s : Shared) (as : List Addr) (b : Array Int) (Q : Array Int → Shared → Prop), isKs ps = true → ReadsAll s.heap vs ps as → A.units + PyData.depthAll ps < cLine →
  (∀ b', b'.toList = b.toList ++ hashKs w ps → Q b' { s with toks := s.toks + drawsKs ps }) →
  wpAny (model prog w) A (forIn vs b fun x r => do let h ← pyHash x; pure PUnit.unit; pure (ForInStep.yield (r.push h))) Q E s
 | [], _, A, E, s, _, b, Q, _, x, _, h => by cases x; exact wpAny_pure (h b (by simp [hashKs]))
 | k :: xs, _, A, E, s, _, b, Q, hk, x, hu, h => by
  cases x with
  | cons x1 x2 =>
   simp only [isKs, Bool.and_eq_true, PyData.depthAll] at hk hu; rw [List.forIn_cons]; refine wpAny_bind (wpAny_bind (hash_reads k _ A E s _ _ hk.1 x1 (by omega) ?_))
   refine wpAny_bind (wpAny_pure (wpAny_pure ?_)); refine hash_readsAll xs _ A E _ _ _ Q hk.2 x2 (by omega) fun b' hb => ?_
   have := h b' (by simp [hb, hashKs])
   simpa [drawsKs, Nat.add_assoc] using this
end
mutual
theorem quiet_reads : ∀ (p : PyData) (v : Value) (A : Around) (E : Value → Shared → Prop) (s : Shared) (as : List Addr) (n : Nat) (Q : Bool → Shared → Prop), isK p = true → Reads s.heap v p as → p.depth ≤ n →
  Q true s → wpAny (model prog w) A (eqIsQuiet n v) Q E s
 | .int i, _, A, E, s, _, n, Q, _, r, _, h => by cases r; rw [eqIsQuiet_byValue _ rfl]; exact wpAny_pure h
 | .str x, _, A, E, s, _, n, Q, _, r, _, h => by cases r; rw [eqIsQuiet_byValue _ rfl]; exact wpAny_pure h
 | .tuple xs, _, A, E, s, _, n, Q, hk, r, hn, h => by
  cases r with
  | tuple h1 h2 h3 h4 =>
   have hT : s.TypeIs (.ref _) "tuple" := ⟨_, h1, h2⟩
   unfold eqIsQuiet; refine wpAny_bind (wpAny_specialOf hT F.slot_tuple_eq.lookup ?_); show wpAny _ _ (isInstance (.ref _) (.type "tuple") >>= _) _ _ s
   refine wpAny_bind (wpAny_isInstance hT isSubtype_tuple_tuple ?_); simp only [Bool.not_true, Bool.false_eq_true, if_false]; simp only [PyData.depth] at hn; obtain ⟨n', rfl⟩ : ∃ n', n = n' + 1 := ⟨n - 1, by omega⟩
   refine wpAny_bind (wpAny_seqItems h1 h3 ?_); refine wpAny_bind ?_; show wpAny _ _ (forIn _ _ _) _ _ s
   rw [← Array.forIn_toList]; refine wpAny_forIn_list _ (fun rest r s' => r.1 = none ∧ s' = s ∧ ∃ ps as, isKs ps = true ∧ PyData.depthAll ps ≤ n' ∧ (∀ q ∈ ps, q ∈ xs) ∧ ReadsAll s.heap rest ps as) _ ?_ ?_ _ _ ⟨rfl, rfl, xs, _, hk, by omega, fun _ z => z, h4⟩
   ·rintro v rest r s' ⟨hr, rfl, ps, as', hks, hd, hmem, ra⟩
    cases ra with
    | cons r1 r2 =>
     rename_i q qs as1 as2; simp only [isKs, Bool.and_eq_true, PyData.depthAll] at hks hd; have hq : q ∈ xs := hmem q List.mem_cons_self
     have hdep : sizeOf q < sizeOf (PyData.tuple xs) := by have := List.sizeOf_lt_of_mem hq; simp; omega
     refine wpAny_bind (quiet_reads q v A E _ _ _ _ hks.1 r1 (by omega) ?_)
     simp only [Bool.not_true, Bool.false_eq_true, if_false]; exact wpAny_pure ⟨rfl, rfl, qs, _, hks.2, by omega, fun z hz => hmem z (List.mem_cons_of_mem _ hz), r2⟩
   ·rintro ⟨r1, r2⟩ s' ⟨hr, rfl, _⟩; simp only at hr; subst hr; exact wpAny_pure h
 | .none, _, _, _, _, _, _, _, h, _, _, _ | .bool _, _, _, _, _, _, _, _, h, _, _, _ | .list _, _, _, _, _, _, _, _, h, _, _, _ | .dict _, _, _, _, _, _, _, _, h, _, _, _ => by simp [isK] at h
termination_by p => sizeOf p
end
end
def nestKind (prog : Program) (w : World) : HeapKind prog w (List PyData) where
 is := fun h ks a => isKs ks = true ∧ PyData.depthAll ks ≤ 6 ∧ ∃ as, Reads h (.ref a) (.tuple ks) as
 hash := fun ks => hashK w (.tuple ks)
 draws := fun ks => drawsK (.tuple ks)
 room := fun A => A.units + 20 < cLine
 inj := fun {h a x y} hx hy => by
  obtain ⟨k1, _, _, r1⟩ := hx; obtain ⟨k2, _, _, r2⟩ := hy; have e := SeqAt.Reads.unique _ _ _ _ _ (isK_lay (.tuple x) k1) r1 r2
  exact PyData.tuple.inj e
 keeps := fun x ho hd hs => let ⟨k1, k2, as, r⟩ := x; ⟨k1, k2, as, reads_keep ho hd hs _ _ _ k1 r⟩
 pyHash := fun {A E s k a Q} hu hk h => by
  obtain ⟨k1, k2, as, r⟩ := hk; exact hash_reads (.tuple k) _ A E s as Q k1 r (by simp only [PyData.depth]; omega) h
 eqBool := fun {A E s x y a b Q} hu hx hy h => by
  obtain ⟨k1, d1, as, r1⟩ := hx; obtain ⟨k2, d2, bs, r2⟩ := hy; refine SeqAt.eqAt_reads (.tuple x) (.tuple y) A s _ _ _ _ r1 r2 (isK_lay (.tuple x) k1) (isK_lay (.tuple y) k2) (by simp only [PyData.depth]; omega) prog w E Q ?_
  rw [isK_eqv (.tuple x) (.tuple y) k1 k2]; have e : decide (PyData.tuple x = PyData.tuple y) = decide (x = y) := by
   simp only [PyData.tuple.injEq]
  rw [e]; exact h
 quiet := fun {A E s k a Q} hk h => by
  obtain ⟨k1, k2, as, r⟩ := hk; exact quiet_reads (.tuple k) _ A E s as 8 Q k1 r (by simp only [PyData.depth]; omega) h
end L2
namespace L2
open PySem PySem.Spec PyProof.Rows
abbrev Key := Sum Int Str
def keyIs : Key → Value → Bool
 | .inl k, v => Value.isInt k v
 | .inr x, v => Value.isStrOf x v
def keyH (w : World) : Key → Int
 | .inl k => hashInt k
 | .inr x => hashStr w x
theorem keyIs_shape : ∀ {k : Key} {v : Value}, keyIs k v = true → (∃ i t, k = Sum.inl i ∧ v = Value.int i t) ∨ (∃ x t, k = Sum.inr x ∧ v = Value.str x t)
 | .inl i, v, h => by
  obtain ⟨t, e⟩ := Value.isInt_shape (k := i) (v := v) h; exact .inl ⟨i, t, rfl, e⟩
 | .inr x, v, h => by
  obtain ⟨t, e⟩ := Value.isStrOf_shape (x := x) (v := v) h; exact .inr ⟨x, t, rfl, e⟩
theorem keyIs_int (i : Int) (t : Tok) : keyIs (.inl i) (.int i t) = true := by simp [keyIs, Value.isInt]
theorem keyIs_str (x : Str) (t : Tok) : keyIs (.inr x) (.str x t) = true := by simp [keyIs, Value.isStrOf]
theorem key_ll (a b : Int) : decide ((Sum.inl a : Key) = Sum.inl b) = (a == b) := by
 by_cases e : a = b
 ·subst e; simp
 ·have h : ¬ (Sum.inl a : Key) = Sum.inl b := fun q => e (Sum.inl.inj q)
  rw [decide_eq_false h]; exact (beq_eq_false_iff_ne.mpr e).symm
theorem key_rr (a b : Str) : decide ((Sum.inr a : Key) = Sum.inr b) = decide (a = b) := by
 by_cases e : a = b
 ·subst e; simp
 ·have h : ¬ (Sum.inr a : Key) = Sum.inr b := fun q => e (Sum.inr.inj q)
  rw [decide_eq_false h, decide_eq_false e]
theorem key_lr (a : Int) (b : Str) : decide ((Sum.inl a : Key) = Sum.inr b) = false := decide_eq_false (fun q => nomatch q)
theorem key_rl (a : Str) (b : Int) : decide ((Sum.inr a : Key) = Sum.inl b) = false := decide_eq_false (fun q => nomatch q)
def mixKind (prog : Program) (w : World) : PySem.KeyKind prog w Key where
 is := keyIs
 hash := keyH w
 inj := fun v a b ha hb => by
  rcases keyIs_shape ha with ⟨i, t, rfl, rfl⟩ | ⟨x, t, rfl, rfl⟩
  ·rcases keyIs_shape hb with ⟨j, u, rfl, e⟩ | ⟨y, u, rfl, e⟩
   ·injection e with e1 _; rw [e1]
   ·exact nomatch e
  ·rcases keyIs_shape hb with ⟨j, u, rfl, e⟩ | ⟨y, u, rfl, e⟩
   ·exact nomatch e
   ·injection e with e1 _; rw [e1]
 byValue := fun k v h => by
  rcases keyIs_shape h with ⟨i, t, rfl, rfl⟩ | ⟨x, t, rfl, rfl⟩ <;> rfl
 pyHash := fun hv h => by
  rcases keyIs_shape hv with ⟨i, t, rfl, rfl⟩ | ⟨x, t, rfl, rfl⟩
  ·exact wpAny_pyHash_int h
  ·exact wpAny_pyHash_str h
 eqBool := fun hu hv h => by
  rcases keyIs_shape hu with ⟨i, t, rfl, rfl⟩ | ⟨x, t, rfl, rfl⟩
  ·rcases keyIs_shape hv with ⟨j, u, rfl, rfl⟩ | ⟨y, u, rfl, rfl⟩
   ·rw [key_ll] at h; exact wpAny_eqBool_int h
   ·rw [key_lr] at h; exact SeqAt.EqAt.int_str i t y u _ _ _ _ h
  ·rcases keyIs_shape hv with ⟨j, u, rfl, rfl⟩ | ⟨y, u, rfl, rfl⟩
   ·rw [key_rl] at h; exact SeqAt.EqAt.str_int x t j u _ _ _ _ h
   ·rw [key_rr] at h; exact wpAny_eqBool_str h
 «strs» := fun k x t v h => by
  rcases keyIs_shape h with ⟨i, u, rfl, e⟩ | ⟨y, u, rfl, e⟩
  ·exact nomatch e
  ·injection e with e1 _
   subst e1
   cases v <;> rfl
theorem mixKind_int (prog : Program) (w : World) (i : Int) (t : Tok) : (mixKind prog w).is (.inl i) (.int i t) = true := keyIs_int i t
theorem mixKind_str (prog : Program) (w : World) (x : Str) (t : Tok) : (mixKind prog w).is (.inr x) (.str x t) = true := keyIs_str x t
end L2
namespace L2
open PySem PySem.Spec PyProof.Rows
inductive V where
 | non | bl (b : Bool) | int (i : Int) | str (x : Str) | byt (b : Array UInt8) | flt (b : UInt64) | ref (a : Addr) | ty (n : String)
 deriving DecidableEq
def RelV : V → Value → Prop
 | .non, u => u = Value.none
 | .bl b, u => u = Value.bool b
 | .int i, u => ∃ t, u = Value.int i t
 | .str x, u => ∃ t, u = Value.str x t
 | .byt b, u => ∃ t, u = Value.bytes b t
 | .flt b, u => ∃ t, u = Value.float b t
 | .ref a, u => u = Value.ref a
 | .ty n, u => u = Value.type n
abbrev Vals : List V → List Value → Prop := Paired RelV
theorem Vals.length {xs : List V} {us : List Value} (r : Vals xs us) : xs.length = us.length := Paired.length r
theorem Vals.get : ∀ {xs : List V} {us : List Value} {i : Nat} {x : V}, Vals xs us → xs[i]? = some x → ∃ u, us[i]? = some u ∧ RelV x u
 | _, _, _, _, .nil, e => by simp at e
 | _, _, 0, _, .cons r _, e => by simp at e; subst e; exact ⟨_, rfl, r⟩
 | _, _, i + 1, x, .cons _ t, e => by
  obtain ⟨u, h1, h2⟩ := Vals.get (i := i) (x := x) t (by simpa using e)
  exact ⟨u, by simpa using h1, h2⟩
theorem Vals.set {x : V} {u : Value} (r : RelV x u) : ∀ {xs : List V} {us : List Value} (i : Nat), Vals xs us → Vals (xs.set i x) (us.set i u)
 | _, _, _, .nil => .nil
 | _, _, 0, .cons _ t => .cons r t
 | _, _, i + 1, .cons q t => .cons q (Vals.set r i t)
theorem Vals.append : ∀ {xs ys : List V} {us ws : List Value}, Vals xs us → Vals ys ws → Vals (xs ++ ys) (us ++ ws)
 | _, _, _, _, .nil, s => s
 | _, _, _, _, .cons r t, s => .cons r (Vals.append t s)
theorem Vals.take : ∀ {xs : List V} {us : List Value} (n : Nat), Vals xs us → Vals (xs.take n) (us.take n)
 | _, _, 0, _ => .nil
 | _, _, _ + 1, .nil => .nil
 | _, _, n + 1, .cons r t => .cons r (Vals.take n t)
theorem Vals.drop : ∀ {xs : List V} {us : List Value} (n : Nat), Vals xs us → Vals (xs.drop n) (us.drop n)
 | _, _, 0, r => r
 | _, _, _ + 1, .nil => .nil
 | _, _, n + 1, .cons _ t => Vals.drop n t
def RelO : Option V → Option Value → Prop
 | some v, some u => RelV v u
 | none, none => True
 | _, _ => False
def KV {κ : Type} : List (κ × V) → List (κ × Value) → Prop := Paired fun (p : κ × V) (q : κ × Value) => p.1 = q.1 ∧ RelV p.2 q.2
def kV : Key → V
 | .inl i => .int i
 | .inr x => .str x
inductive HO where
 | lst (xs : List V)
 | tup (xs : List V)
 | dK (kvs : List (Key × V)) | dT (kvs : List (List Key × V)) | dN (K : PySem.W.Frag) (kvs : List (List PyData × V))
 | set (S : Int → Bool) (n : Nat)
 | ins (C dx : Addr) (fs : List (Str × V))
 | own (x : Addr)
 | xd (fs : List (Str × V))
 | met (f x : Addr)
 | rng (lo hi : Int)
 | frz (o : Obj) (u : HO)
 | tbl (ps : Array Value)
 | ext (φ : Heap → Prop)
abbrev Hp := Addr → Option HO
def upd (H : Hp) (a : Addr) (o : HO) : Hp := fun b => if b = a then some o else H b
theorem upd_same {H : Hp} {a : Addr} {o : HO} : upd H a o a = some o := by unfold upd; rw [if_pos rfl]
theorem upd_ne {H : Hp} {a b : Addr} {o : HO} (h : b ≠ a) : upd H a o b = H b := by unfold upd; rw [if_neg h]
theorem ne_of_none {H : Hp} {a b : Addr} {o : HO} (h : H a = some o) (h' : H b = none) : a ≠ b := by
 intro e; subst e; rw [h] at h'; cases h'
def NoD (h : Heap) (a : Addr) : Prop := ∃ o, h.get? a = some o ∧ o.dict = none
theorem NoD.new (h : Heap) (c : Value) (d : Data) (hf : Obj.isFreed { cls := c, data := d } = false := by rfl) : NoD (h.push { cls := c, data := d }) h.objs.size := ⟨_, Heap.get?_push_size _ hf, rfl⟩
theorem NoD.keep {h h' : Heap} {a : Addr} (x : NoD h a) (k : ∀ o, h.get? a = some o → h'.get? a = some o) : NoD h' a := let ⟨o, e, d⟩ := x; ⟨o, k _ e, d⟩
def TupAt (K : PySem.W.Frag) (H : Hp) (a : Addr) (xs : List V) : Prop := (H a = some (.tup xs) ∨ ∃ o, H a = some (.frz o (.tup xs))) ∨
  ∃ (o : Obj) (its : Array Value) (n : Nat), K.lookup a = some o ∧ (o.cls = .type "tuple" ∧ o.dict = none) ∧ o.data = .seq its n ∧ its.size ≤ sizeLine ∧ Vals xs its.toList
mutual
def NKV (K : PySem.W.Frag) (H : Hp) : PyData → V → Prop
 | .int i, v => v = .int i
 | .str x, v => v = .str x
 | .tuple xs, v => ∃ a vs, v = .ref a ∧ TupAt K H a vs ∧ NKVs K H xs vs
 | .none, _ | .bool _, _ | .list _, _ | .dict _, _ => False
def NKVs (K : PySem.W.Frag) (H : Hp) : List PyData → List V → Prop
 | [], vs => vs = []
 | x :: xs, vs => ∃ v r, vs = v :: r ∧ NKV K H x v ∧ NKVs K H xs r
end
section
variable {K : PySem.W.Frag} {H H' : Hp}
theorem TupAt.stay {a : Addr} {xs : List V} (x : TupAt K H a xs) (ht : ∀ b xs, H b = some (.tup xs) → H' b = some (.tup xs)) (hf : ∀ b o u, H b = some (.frz o u) → H' b = some (.frz o u)) : TupAt K H' a xs := by
 rcases x with (x | ⟨o, x⟩) | x
 ·exact .inl (.inl (ht _ _ x))
 ·exact .inl (.inr ⟨o, hf _ _ _ x⟩)
 ·exact .inr x
mutual
theorem NKV.stay (ht : ∀ b xs, H b = some (.tup xs) → H' b = some (.tup xs)) (hf : ∀ b o u, H b = some (.frz o u) → H' b = some (.frz o u)) : ∀ (p : PyData) (v : V), NKV K H p v → NKV K H' p v
 | .int _, _, x => by simpa only [NKV] using x
 | .str _, _, x => by simpa only [NKV] using x
 | .tuple xs, _, x => by
  simp only [NKV] at x ⊢; obtain ⟨a, vs, e, x1, x2⟩ := x; exact ⟨a, vs, e, x1.stay ht hf, NKVs.stay ht hf xs vs x2⟩
 | .none, _, x | .bool _, _, x | .list _, _, x | .dict _, _, x => by simp only [NKV] at x
theorem NKVs.stay (ht : ∀ b xs, H b = some (.tup xs) → H' b = some (.tup xs)) (hf : ∀ b o u, H b = some (.frz o u) → H' b = some (.frz o u)) : ∀ (ps : List PyData) (vs : List V), NKVs K H ps vs → NKVs K H' ps vs
 | [], _, x => by simpa only [NKVs] using x
 | p :: ps, _, x => by
  simp only [NKVs] at x ⊢; obtain ⟨v, r, e, x1, x2⟩ := x; exact ⟨v, r, e, NKV.stay ht hf p v x1, NKVs.stay ht hf ps r x2⟩
end
end
section
variable (P : Program) (w : World)
def ObjOk (H : Hp) (h : Heap) (a : Addr) : HO → Prop
 | .lst xs => xs.length ≤ sizeLine ∧ ∃ (its : List Value) (n : Nat), Vals xs its ∧ h.get? a = some { cls := .type "list", data := .seq its.toArray n }
 | .tup xs => (xs.length ≤ sizeLine ∧ NoD h a) ∧ ∃ its : List Value, Vals xs its ∧ IsTup h a its.toArray
 | .dK kvs => kvs.length ≤ sizeLine ∧ (a == sysModules) = false ∧ ∃ vs, KV kvs vs ∧ h.DictOf (mixKind P w) a vs
 | .dT kvs => kvs.length ≤ sizeLine ∧ (a == sysModules) = false ∧ ∃ xs : List (List Key × Addr × Value),
   Paired (fun (p : List Key × V) (q : List Key × Addr × Value) => p.1 = q.1 ∧ H q.2.1 = some (.tup (p.1.map kV)) ∧ RelV p.2 q.2.2) kvs xs ∧
   ∃ o es ep, h.get? a = some o ∧ o.ExactDict ∧ o.data = .dict es ep ∧ es.toList = xs.map (entryOfKey (tupleKind (mixKind P w))) ∧ (xs.map (·.1)).Nodup
 | .dN K kvs => kvs.length ≤ sizeLine ∧ (a == sysModules) = false ∧ ∃ xs : List (List PyData × Addr × Value),
   Paired (fun (p : List PyData × V) (q : List PyData × Addr × Value) => p.1 = q.1 ∧ (isKs p.1 = true ∧ PyData.depthAll p.1 ≤ 6 ∧ NKV K H (.tuple p.1) (.ref q.2.1)) ∧ RelV p.2 q.2.2) kvs xs ∧
   ∃ o es ep, h.get? a = some o ∧ o.ExactDict ∧ o.data = .dict es ep ∧ es.toList = xs.map (entryOfKey (nestKind P w)) ∧ (xs.map (·.1)).Nodup
 | .set S n => h.SetOf (intKind P w) a S n
 | .ins C dx fs => H dx = some (.own a) ∧ fs.length ≤ 1000 ∧ dx ≠ a ∧ h.get? a = some (PySem.W.instObj C dx) ∧
   ∃ mA, h.Ns1 dx mA ∧ (∀ f, RelO (fs.lookup f) (mA f)) ∧ PySem.Within mA (fs.map (·.1))
 | .own _ => ∃ o, h.get? a = some o
 | .xd fs => ∃ mA, h.Ns1 a mA ∧ ∀ f, RelO (fs.lookup f) (mA f)
 | .rng lo hi => ∃ t u v, h.get? a = some { cls := .type "range", data := .fields #[.int lo t, .int hi u, .int 1 v] }
 | .frz o u => h.get? a = some o ∧ ObjOk H h a u
 | .tbl ps => h.get? a = some { cls := .none, data := .fields ps }
 | .met f x => h.get? a = some (PySem.W.methodObj (.ref f) (.ref x))
 | .ext φ => φ h ∧ (∃ o, h.get? a = some o) ∧ ∀ h1 h2 : Heap, φ h1 → (∀ o, h1.get? a = some o → h2.get? a = some o) → φ h2
def HOk (H : Hp) (h : Heap) : Prop := ∀ a o, H a = some o → ObjOk P w H h a o
end
section
variable {P : Program} {w : World} {H H' : Hp} {h h' : Heap} {a : Addr} {o : HO}
theorem ObjOk.lt (x : ObjOk P w H h a o) : a < h.objs.size := by
 cases o with
 | lst xs => obtain ⟨_, _, _, _, e⟩ := x; exact Heap.lt_size e
 | tup xs => obtain ⟨_, _, _, p⟩ := x; exact p.lt
 | dK kvs => obtain ⟨_, _, _, _, o, _, _, e, _⟩ := x; exact Heap.lt_size e
 | dT kvs => obtain ⟨_, _, _, _, o, _, _, e, _⟩ := x; exact Heap.lt_size e
 | dN K kvs => obtain ⟨_, _, _, _, o, _, _, e, _⟩ := x; exact Heap.lt_size e
 | set S n => obtain ⟨o, _, _, _, e, _⟩ := x; exact Heap.lt_size e
 | ins C dx fs => obtain ⟨_, _, _, e, _⟩ := x; exact Heap.lt_size e
 | own y => obtain ⟨_, e⟩ := x; exact Heap.lt_size e
 | xd fs => obtain ⟨_, ⟨_, _, _, e, _⟩, _⟩ := x; exact Heap.lt_size e
 | rng lo hi => obtain ⟨_, _, _, e⟩ := x; exact Heap.lt_size e
 | frz ob u => obtain ⟨e, _⟩ := x; exact Heap.lt_size e
 | tbl ps => exact Heap.lt_size (show h.get? a = some _ from x)
 | met f y => exact Heap.lt_size (show h.get? a = some _ from x)
 | ext φ => obtain ⟨_, ⟨_, e⟩, _⟩ := x; exact Heap.lt_size e
theorem Paired.mapP {α β : Type} {F G : α → β → Prop} : ∀ {l₁ : List α} {l₂ : List β}, Paired F l₁ l₂ → (∀ a b, F a b → G a b) → Paired G l₁ l₂
 | _, _, .nil, _ => .nil
 | _, _, .cons r t, f => .cons (f _ _ r) (Paired.mapP t f)
theorem ObjOk.stay (x : ObjOk P w H h a o) (k : ∀ b u, (b = a ∨ H b = some (.own a)) → h.get? b = some u → h'.get? b = some u)
  (ho : ∀ b, H b = some (.own a) → H' b = some (.own a)) (ht : ∀ b xs, H b = some (.tup xs) → H' b = some (.tup xs)) (hf : ∀ b ob u, H b = some (.frz ob u) → H' b = some (.frz ob u)) : ObjOk P w H' h' a o := by
 induction o with
 | lst xs => obtain ⟨z, its, n, r, e⟩ := x; exact ⟨z, its, n, r, k _ _ (.inl rfl) e⟩
 | tup xs => obtain ⟨z, its, r, ob, e, c⟩ := x; exact ⟨⟨z.1, z.2.keep fun _ e => k _ _ (.inl rfl) e⟩, its, r, ob, k _ _ (.inl rfl) e, c⟩
 | dK kvs => obtain ⟨z, y, vs, r, ob, es, ep, e, c⟩ := x; exact ⟨z, y, vs, r, ob, es, ep, k _ _ (.inl rfl) e, c⟩
 | dT kvs =>
  obtain ⟨z, y, xs, r, ob, es, ep, e, c⟩ := x; exact ⟨z, y, xs, Paired.mapP r fun p q z => ⟨z.1, ht _ _ z.2.1, z.2.2⟩, ob, es, ep, k _ _ (.inl rfl) e, c⟩
 | dN K kvs =>
  obtain ⟨z, y, xs, r, ob, es, ep, e, c⟩ := x; exact ⟨z, y, xs, Paired.mapP r fun p q z => ⟨z.1, ⟨z.2.1.1, z.2.1.2.1, NKV.stay ht hf _ _ z.2.1.2.2⟩, z.2.2⟩, ob, es, ep, k _ _ (.inl rfl) e, c⟩
 | set S n => obtain ⟨ob, es, ep, t, e, c⟩ := x; exact ⟨ob, es, ep, t, k _ _ (.inl rfl) e, c⟩
 | ins C dx fs =>
  obtain ⟨d, z, ne, e, mA, ⟨od, es, ep, e2, c⟩, r⟩ := x; exact ⟨ho _ d, z, ne, k _ _ (.inl rfl) e, mA, ⟨od, es, ep, k _ _ (.inr d) e2, c⟩, r⟩
 | own y => obtain ⟨ob, e⟩ := x; exact ⟨ob, k _ _ (.inl rfl) e⟩
 | xd fs => obtain ⟨mA, ⟨od, es, ep, e, c⟩, r⟩ := x; exact ⟨mA, ⟨od, es, ep, k _ _ (.inl rfl) e, c⟩, r⟩
 | rng lo hi => obtain ⟨t, u, v, e⟩ := x; exact ⟨t, u, v, k _ _ (.inl rfl) e⟩
 | frz ob u ih => obtain ⟨e, q⟩ := x; exact ⟨k _ _ (.inl rfl) e, ih q⟩
 | tbl ps =>
  have e : h.get? a = some { cls := .none, data := .fields ps } := x
  show h'.get? a = some { cls := .none, data := .fields ps }
  exact k a _ (.inl rfl) e
 | met f y =>
  have e : h.get? a = some (PySem.W.methodObj (.ref f) (.ref y)) := x
  show h'.get? a = some (PySem.W.methodObj (.ref f) (.ref y))
  exact k a _ (.inl rfl) e
 | ext φ => obtain ⟨p, ⟨o, e⟩, st⟩ := x; exact ⟨st _ _ p fun o q => k _ _ (.inl rfl) q, ⟨o, k _ _ (.inl rfl) e⟩, st⟩
theorem HOk.lt (x : HOk P w H h) (e : H a = some o) : a < h.objs.size := (x a o e).lt
theorem HOk.fresh (x : HOk P w H h) (e : h.objs.size ≤ a) : H a = none := by
 cases q : H a with
 | none => rfl
 | some u => exact absurd (Nat.lt_of_lt_of_le (x.lt q) e) (Nat.lt_irrefl _)
theorem HOk.kept (x : HOk P w H h) (k : ∀ b u, h.get? b = some u → h'.get? b = some u) : HOk P w H h' := fun a o e =>
 (x a o e).stay (fun b u _ q => k b u q) (fun _ q => q) (fun _ _ q => q) fun _ _ _ q => q
theorem HOk.laid (x : HOk P w H h) (k : ∀ b u, h.get? b = some u → h'.get? b = some u) (hp : h.objs.size ≤ a) (new : ObjOk P w (upd H a o) h' a o) : HOk P w (upd H a o) h' := fun b u e => by
 have hn := x.fresh hp
 by_cases hb : b = a
 ·subst hb; rw [upd_same] at e; cases e; exact new
 ·rw [upd_ne hb] at e; exact (x b u e).stay (fun c v _ q => k c v q) (fun c q => by rw [upd_ne (ne_of_none q hn)]; exact q) (fun c xs q => by rw [upd_ne (ne_of_none q hn)]; exact q) fun c ob u q => by rw [upd_ne (ne_of_none q hn)]; exact q
end
def Rd (H : Hp) (a : Addr) (u : HO) : Prop := H a = some u ∨ ∃ o, H a = some (.frz o u)
theorem Rd.of {H : Hp} {a : Addr} {u : HO} (h : H a = some u) : Rd H a u := .inl h
theorem Rd.ok {P : Program} {w : World} {H : Hp} {h : Heap} {a : Addr} {u : HO} (r : Rd H a u) (x : HOk P w H h) : ObjOk P w H h a u := by
 rcases r with r | ⟨o, r⟩
 ·exact x a u r
 ·obtain ⟨_, q⟩ := x a _ r; exact q
def Mut : Option HO → Prop
 | some (.lst _) => True
 | some (.dK _) => True
 | some (.dT _) => True
 | some (.dN _ _) => True
 | some (.set _ _) => True
 | some (.ins _ _ _) => True
 | some (.ext _) => True
 | _ => False
section
variable {P : Program} {w : World} {H : Hp} {h h' : Heap} {x e : Addr} {o' : HO}
theorem HOk.write (ok : HOk P w H h) (mu : Mut (H x)) (he : e = x ∨ H e = some (.own x)) (k : ∀ b u, b ≠ e → h.get? b = some u → h'.get? b = some u) (heo : ∃ u, h'.get? e = some u)
  (new : ObjOk P w (upd H x o') h' x o') : HOk P w (upd H x o') h' := fun b u q => by
 have nown : ∀ c y, H c = some (.own y) → c ≠ x := fun c y r z => by subst z; rw [r] at mu; exact mu
 have ntup : ∀ c xs, H c = some (.tup xs) → c ≠ x := fun c xs r z => by subst z; rw [r] at mu; exact mu
 by_cases hb : b = x
 ·subst hb; rw [upd_same] at q; cases q; exact new
 ·rw [upd_ne hb] at q
  by_cases hbe : b = e
  ·have q' : H b = some (.own x) := by
    rcases he with z | z
    ·exact absurd (hbe.trans z) hb
    ·rw [hbe]; exact z
   rw [q] at q'; cases q'; obtain ⟨v, hv⟩ := heo; exact ⟨v, by rw [hbe]; exact hv⟩
  ·refine (ok b u q).stay (fun c v hc r => k c v ?_ r) (fun c r => by rw [upd_ne (nown c b r)]; exact r) (fun c xs r => by rw [upd_ne (ntup c xs r)]; exact r) fun c ob u r => by rw [upd_ne (fun z => by subst z; rw [r] at mu; exact mu)]; exact r
   rcases hc with rfl | hc
   ·exact hbe
   ·rintro rfl; rcases he with z | z
    ·exact nown c b hc z
    ·rw [hc] at z; cases z; exact hb rfl
end
structure Un (fs ex : List Addr) (H H' : Hp) (h h' : Heap) : Prop where
 keep : ∀ b o, h.get? b = some o → H b = none → b ∉ fs → b ∉ ex → h'.get? b = some o
 slot : ∀ b o, h.get? b = some o → H b = none → b ∈ fs → b ∉ ex → ∃ sl, h'.get? b = some { o with slots := sl }
 free : ∀ b o, h.get? b = some o → H b = none → b ∉ ex → H' b = none
 there : ∀ b o, h.get? b = some o → b ∉ ex → ∃ o', h'.get? b = some o'
 tups : ∀ b xs, H b = some (.tup xs) → H' b = some (.tup xs)
 frzs : ∀ b o u, H b = some (.frz o u) → H' b = some (.frz o u)
 tbls : ∀ b ps, H b = some (.tbl ps) → ∃ more, H' b = some (.tbl (ps ++ more))
section
variable {fs fs' ex ex' : List Addr} {H H1 H2 : Hp} {h h1 h2 h' : Heap} {a x e : Addr} {o : HO}
theorem Un.any (u : Un fs ex H H1 h h1) {b : Addr} {ob : Obj} (q : h.get? b = some ob) (n : H b = none) (hx : b ∉ ex) : ∃ sl, h1.get? b = some { ob with slots := sl } := by
 by_cases hb : b ∈ fs
 ·exact u.slot b ob q n hb hx
 ·exact ⟨ob.slots, u.keep b ob q n hb hx⟩
theorem Un.trans (a : Un fs ex H H1 h h1) (b : Un fs ex H1 H2 h1 h2) : Un fs ex H H2 h h2 where
 keep := fun c ob q n hc hx => b.keep c ob (a.keep c ob q n hc hx) (a.free c ob q n hx) hc hx
 slot := fun c ob q n hc hx => by
  obtain ⟨sl, e1⟩ := a.slot c ob q n hc hx; obtain ⟨sl', e2⟩ := b.slot c _ e1 (a.free c ob q n hx) hc hx; exact ⟨sl', e2⟩
 free := fun c ob q n hx => by
  obtain ⟨o', e1⟩ := a.there c ob q hx; exact b.free c o' e1 (a.free c ob q n hx) hx
 there := fun c ob q hx => by
  obtain ⟨o', e1⟩ := a.there c ob q hx; exact b.there c o' e1 hx
 tups := fun c xs q => b.tups c xs (a.tups c xs q)
 frzs := fun c ob xs q => b.frzs c ob xs (a.frzs c ob xs q)
 tbls := fun c ps q => by
  obtain ⟨m1, e1⟩ := a.tbls c ps q; obtain ⟨m2, e2⟩ := b.tbls c _ e1; exact ⟨m1 ++ m2, by rw [e2, Array.append_assoc]⟩
theorem Un.kept (k : ∀ b u, h.get? b = some u → h'.get? b = some u) : Un fs ex H H h h' :=
 ⟨fun b ob q _ _ _ => k b ob q, fun b ob q _ _ _ => ⟨ob.slots, k b ob q⟩, fun _ _ _ n _ => n, fun b ob q _ => ⟨ob, k b ob q⟩, fun _ _ q => q, fun _ _ _ q => q, fun _ ps q => ⟨#[], by rw [q]; simp⟩⟩
theorem Un.refl : Un fs ex H H h h := Un.kept fun _ _ q => q
theorem Un.laid (k : ∀ b u, h.get? b = some u → h'.get? b = some u) (hp : h.objs.size ≤ a) (hn : H a = none) : Un fs ex H (upd H a o) h h' where
 keep := fun b u q _ _ _ => k b u q
 slot := fun b u q _ _ _ => ⟨u.slots, k b u q⟩
 free := fun b u q n _ => by rw [upd_ne (Nat.ne_of_lt (Nat.lt_of_lt_of_le (Heap.lt_size q) hp))]; exact n
 there := fun b u q _ => ⟨u, k b u q⟩
 tups := fun b xs q => by rw [upd_ne (ne_of_none q hn)]; exact q
 frzs := fun b u xs q => by rw [upd_ne (ne_of_none q hn)]; exact q
 tbls := fun b ps q => ⟨#[], by rw [upd_ne (ne_of_none q hn), q]; simp⟩
theorem Un.write (mu : Mut (H x)) (he : e = x ∨ H e = some (.own x)) (k : ∀ b u, b ≠ e → h.get? b = some u → h'.get? b = some u) (heo : ∃ u, h'.get? e = some u) : Un fs ex H (upd H x o) h h' := by
 have hx : ∀ b, H b = none → b ≠ x := fun b n z => by subst z; rw [n] at mu; exact mu
 have hb : ∀ b, H b = none → b ≠ e := fun b n z => by
  subst z; rcases he with r | r
  ·exact hx b n r
  ·rw [n] at r; cases r
 have hm : ∀ b u, H b = some u → ¬ Mut (some u) → b ≠ x := fun b u q nm z => by subst z; rw [q] at mu; exact nm mu
 refine ⟨fun b u q n _ _ => k b u (hb b n) q, fun b u q n _ _ => ⟨u.slots, k b u (hb b n) q⟩, fun b u q n _ => by rw [upd_ne (hx b n)]; exact n, fun b u q _ => ?_,
  fun b xs q => by rw [upd_ne (hm b _ q fun z => z)]; exact q, fun b u xs q => by rw [upd_ne (hm b _ q fun z => z)]; exact q, fun b ps q => ⟨#[], by rw [upd_ne (hm b _ q fun z => z), q]; simp⟩⟩
 by_cases hbe : b = e
 ·subst hbe; exact heo
 ·exact ⟨u, k b u hbe q⟩
theorem Un.mono (u : Un fs ex H H1 h h1) (hs : ∀ b ∈ fs, b ∈ fs') (hx : ∀ b ∈ ex, b ∈ ex') : Un fs' ex' H H1 h h1 :=
 ⟨fun b ob q n hb he => u.keep b ob q n (fun z => hb (hs b z)) fun z => he (hx b z), fun _ _ q n _ he => u.any q n fun z => he (hx _ z), fun b ob q n he => u.free b ob q n fun z => he (hx b z), fun b ob q he => u.there b ob q fun z => he (hx b z), u.tups, u.frzs, u.tbls⟩
end
def trk (h : Heap) (H : Hp) : List Addr := (List.range h.objs.size).filter fun a => (H a).isSome
def hidT (h : Heap) (H : Hp) : Heap := PySem.W.hideAll h (trk h H)
theorem hidT_size (h : Heap) (H : Hp) : (hidT h H).objs.size = h.objs.size := PySem.W.hideAll_size _ _
theorem hidT_get {h : Heap} {H : Hp} {b : Addr} {o : Obj} (e : h.get? b = some o) (n : H b = none) : (hidT h H).get? b = some o :=
 PySem.W.hideAll_get _ e fun hm => by
  have q : (H b).isSome = true := (List.mem_filter.mp hm).2
  rw [n] at q; simp at q
theorem of_hidT {h : Heap} {H : Hp} {b : Addr} {o : Obj} (e : (hidT h H).get? b = some o) : h.get? b = some o ∧ H b = none := by
 have e' : h.get? b = some o := PySem.W.of_hideAll (trk h H) e
 refine ⟨e', ?_⟩
 cases q : H b with
 | none => rfl
 | some x =>
  have hm : b ∈ trk h H := List.mem_filter.mpr ⟨List.mem_range.mpr (Heap.lt_size e'), by simp [q]⟩
  have z : (hidT h H).get? b = none := PySem.W.hideAll_none (trk h H) hm
  rw [z] at e; cases e
def allNews (g h : Heap) (L : Addr) : List (Addr × Obj) := (List.range h.objs.size).filterMap fun a => if a = L ∨ (g.get? a).isSome = true then none else (h.get? a).map fun o => (a, o)
def rest (g h : Heap) (L d : Addr) : List (Addr × Obj) := (allNews g h L).filter fun p => decide (p.1 ≠ d)
end L2
namespace L2
open PySem PySem.Spec PyProof.Rows
structure Mod (K : PySem.W.Frag) (mg : Str → Option Value) (base : Heap) : Prop where
 kin : K.In base
 glob : base.Ns mainGlobals mg
 blt : ∃ mb, base.Ns builtinsNs mb ∧ ∀ x : Str, x ≠ "__name__" → mb x = bootBuiltins x
 nolimit : base.NoLimit
structure Cx where
 prog : Program
 w : World
 K : PySem.W.Frag
 mg : Str → Option Value
 base : Heap
 A : Around
 N : List Str
 s₀ : Shared
 H₀ : Hp
 env : Env
 outer : List Env
 stack : List Env
 ex : List Addr
 fn : Str → Bool
 calm : Bool
 pn : List (Addr × Obj)
 xe : Value → Shared → Prop
def frs (l : List Env) : List Addr := l.filterMap (·.frame)
abbrev Cx.fs (X : Cx) : List Addr := frs X.outer
def Vis (sc : Scope) (x : Str) : Prop := sc.names.lookup x = some .local ∨ sc.names.lookup x = some .cell ∨ sc.names.lookup x = some .free
def Loc (sc : Scope) (x : Str) : Prop := sc.names.lookup x = some .local ∨ sc.names.lookup x = some .cell
def Look (env : Env) (h : Heap) (m : Str → Option Value) (x : Str) (u : Value) : Prop :=
 (env.kindOf x = some .local ∧ m x = some u) ∨ ((env.kindOf x = some .cell ∨ env.kindOf x = some .free) ∧ ∃ c, env.cells.lookup x = some c ∧ h.IsCell c (some u))
structure Cx.Ok (X : Cx) : Prop where
 mod : Mod X.K X.mg X.base
 kind : X.env.scope.kind = .function
 glob : X.env.globals = mainGlobals
 blt : X.env.builtins = builtinsNs
 above : X.s₀.heap.objs.size ≤ X.env.locals
 inj : ∀ x y c, X.env.cells.lookup x = some c → X.env.cells.lookup y = some c → x = y
 has : ∀ x, (X.env.kindOf x = some .cell ∨ X.env.kindOf x = some .free) → ∃ c, X.env.cells.lookup x = some c
 cab : ∀ x c, X.fn x = true → X.env.cells.lookup x = some c → X.s₀.heap.objs.size ≤ c
 hd : X.calm = true → X.A.handled = none
 frames : X.A.frames = some X.stack
 stk : X.stack = X.outer ∨ (X.stack = X.env :: X.outer ∧ X.env.frame = some X.env.locals)
 exf : ∀ b ∈ X.ex, b ≠ X.env.locals ∧ ∀ x c, X.env.cells.lookup x = some c → c ≠ b
 bs : ∀ b o, X.base.get? b = some o → X.s₀.heap.get? b = some o ∧ X.H₀ b = none
 bsz : X.base.objs.size ≤ X.s₀.heap.objs.size
 noex : ∀ b o, X.base.get? b = some o → b ∉ X.ex
 exfs : ∀ b ∈ X.ex, b ∉ X.fs
 funs : X.s₀.heap.FunFrames X.base X.outer
 frf : ∀ b ∈ X.fs, X.H₀ b = none
structure Inv (X : Cx) (pins : List (Addr × Obj)) (σ : List (Option V)) (H : Hp) (s : Shared) : Prop where
 ok : X.Ok
 os : s.os = X.s₀.os
 bare : AllBare s.gens
 base : Un X.fs X.ex X.H₀ H X.s₀.heap s.heap
 loc : ∃ m, s.heap.Ns X.env.locals m ∧ ∀ (i : Nat) (x : Str) (v : V), X.N[i]? = some x → σ[i]? = some (some v) → Vis X.env.scope x → ∃ u, RelV v u ∧ Look X.env s.heap m x u
 cell : ∀ x c, X.env.cells.lookup x = some c → ∃ v, s.heap.IsCell c v
 free : H X.env.locals = none
 freeC : ∀ x c, X.env.cells.lookup x = some c → H c = none
 pin : ∀ p ∈ X.pn ++ pins, s.heap.get? p.1 = some p.2 ∧ H p.1 = none ∧ p.1 ≠ X.env.locals ∧ p.1 ∉ X.fs ∧ ∀ v, p.2.data ≠ .cell v
 hok : HOk X.prog X.w H s.heap
 len : σ.length = X.N.length
section
variable {X : Cx} {pins : List (Addr × Obj)} {σ : List (Option V)} {H H' : Hp} {s : Shared} {h' : Heap}
theorem Cx.Ok.nofr (ok : X.Ok) {b : Addr} {o : Obj} (e : X.base.get? b = some o) : b ∉ X.fs := fun hb => by
 have := (ok.funs.mem hb).1
 rw [e] at this; cases this
theorem Inv.bs (I : Inv X pins σ H s) : ∀ b o, X.base.get? b = some o → s.heap.get? b = some o ∧ H b = none := fun b o e =>
 ⟨I.base.keep b o (I.ok.bs b o e).1 (I.ok.bs b o e).2 (I.ok.nofr e) (I.ok.noex b o e), I.base.free b o (I.ok.bs b o e).1 (I.ok.bs b o e).2 (I.ok.noex b o e)⟩
theorem Inv.bk (I : Inv X pins σ H s) : ∀ b o, X.base.get? b = some o → s.heap.get? b = some o := fun b o e => (I.bs b o e).1
theorem Inv.mod (I : Inv X pins σ H s) : Mod X.K X.mg X.base := I.ok.mod
theorem Inv.kIn (I : Inv X pins σ H s) : X.K.In s.heap := I.ok.mod.kin.keeps I.bk
theorem Inv.nolimit (I : Inv X pins σ H s) : s.heap.NoLimit := I.ok.mod.nolimit.keeps I.bk
theorem Inv.fr (I : Inv X pins σ H s) : ∃ m, Fr X.base X.env.locals s.heap m :=
 let ⟨m, hn, _⟩ := I.loc
 ⟨m, hn, I.bk, Nat.le_trans I.ok.bsz I.ok.above⟩
theorem Inv.lt (I : Inv X pins σ H s) : X.env.locals < s.heap.objs.size := let ⟨_, hn, _⟩ := I.loc; hn.lt
theorem Inv.sz (I : Inv X pins σ H s) : X.s₀.heap.objs.size ≤ s.heap.objs.size := Nat.le_trans I.ok.above (Nat.le_of_lt I.lt)
theorem Inv.nofs (I : Inv X pins σ H s) {a : Addr} (h : s.heap.objs.size ≤ a) : a ∉ X.fs := fun hb => by
 obtain ⟨_, o, ho, _⟩ := I.ok.funs.mem hb; exact absurd (Nat.lt_of_lt_of_le (Heap.lt_size ho) (Nat.le_trans I.sz h)) (Nat.lt_irrefl _)
theorem Inv.cne (I : Inv X pins σ H s) : ∀ x c, X.env.cells.lookup x = some c → c ≠ X.env.locals := fun x c e z => by
 obtain ⟨v, o, ho, hd⟩ := I.cell x c e; obtain ⟨m, ⟨o', es, ep, ho', hd', _⟩, _⟩ := I.loc; rw [z, ho'] at ho; cases ho; rw [hd'] at hd; cases hd
theorem Inv.funs (I : Inv X pins σ H s) : s.heap.FunFrames X.base X.outer := by
 have all : ∀ (l : List Env), (∀ b ∈ frs l, b ∈ X.fs) → X.s₀.heap.FunFrames X.base l → s.heap.FunFrames X.base l := by
  intro l
  induction l with
  | nil => intro _ _; trivial
  | cons env r ih =>
   intro hs hl; obtain ⟨hk, ⟨L, o, hf, hn, ho, hd⟩, hr⟩ := hl; have hL : L ∈ X.fs := hs L (by unfold frs; rw [List.filterMap_cons, hf]; exact List.mem_cons_self)
   obtain ⟨sl, e⟩ := I.base.slot L o ho (I.ok.frf L hL) hL fun z => I.ok.exfs L z hL; exact ⟨hk, ⟨L, _, hf, hn, e, hd⟩, ih (fun b hb => hs b (by unfold frs; rw [List.filterMap_cons, hf]; exact List.mem_cons_of_mem _ hb)) hr⟩
 exact all X.outer (fun _ hb => hb) I.ok.funs
theorem Inv.stack (I : Inv X pins σ H s) : s.heap.FunFrames X.base X.stack := by
 rcases I.ok.stk with e | ⟨e, hf⟩
 ·rw [e]; exact I.funs
 ·rw [e]; obtain ⟨m, hn, _⟩ := I.loc; refine .cons (by rw [I.ok.kind]; decide) hf hn ?_ I.funs
  exact Heap.get?_none_of_le (Nat.le_trans I.ok.bsz I.ok.above)
theorem Inv.stkSub (I : Inv X pins σ H s) : ∀ b ∈ frs X.stack, b ∈ X.env.locals :: X.fs := fun b hb => by
 rcases I.ok.stk with e | ⟨e, hf⟩
 ·rw [e] at hb; exact List.mem_cons_of_mem _ hb
 ·rw [e] at hb; unfold frs at hb; rw [List.filterMap_cons, hf] at hb; exact hb
theorem Inv.stkFree (I : Inv X pins σ H s) : ∀ b ∈ frs X.stack, H b = none := fun b hb => by
 rcases List.mem_cons.mp (I.stkSub b hb) with e | hb
 ·rw [e]; exact I.free
 ·obtain ⟨_, o, ho, _⟩ := I.ok.funs.mem hb; exact I.base.free b o ho (I.ok.frf b hb) fun z => I.ok.exfs b z hb
theorem Inv.step {g' : Array GenState} {t' : Nat} {d' : Drawn} {ch : List Addr} (I : Inv X pins σ H s)
  (hch : ∀ b ∈ ch, (b ∈ X.ex ∨ X.s₀.heap.objs.size ≤ b) ∧ b ≠ X.env.locals ∧ (∀ x c, X.env.cells.lookup x = some c → c ≠ b) ∧ ∀ p ∈ X.pn ++ pins, p.1 ≠ b)
  (keep : ∀ b o, b ≠ X.env.locals → b ∉ X.fs → b ∉ ch → s.heap.get? b = some o → H b = none → h'.get? b = some o)
  (slot : ∀ b o, b ≠ X.env.locals → b ∈ X.fs → b ∉ ch → s.heap.get? b = some o → H b = none → ∃ sl, h'.get? b = some { o with slots := sl }) (free : ∀ b o, b ∉ ch → s.heap.get? b = some o → H b = none → H' b = none)
  (there : ∀ b o, b ∉ ch → s.heap.get? b = some o → ∃ o', h'.get? b = some o')
  (tups : ∀ b xs, H b = some (.tup xs) → H' b = some (.tup xs)) (frzs : ∀ b o u, H b = some (.frz o u) → H' b = some (.frz o u)) (tbls : ∀ b ps, H b = some (.tbl ps) → ∃ more, H' b = some (.tbl (ps ++ more)))
  (ns : ∀ m, s.heap.Ns X.env.locals m → h'.Ns X.env.locals m) (hok : HOk X.prog X.w H' h') (hg : AllBare g') :
  Inv X pins σ H' { s with heap := h', gens := g', drawn := d', toks := t' } := by
 have neL : ∀ b o, X.s₀.heap.get? b = some o → b ≠ X.env.locals := fun b o e => Nat.ne_of_lt (Nat.lt_of_lt_of_le (Heap.lt_size e) I.ok.above)
 have neC : ∀ b o, X.s₀.heap.get? b = some o → b ∉ X.ex → b ∉ ch := fun b o e hx hb => by
  rcases (hch b hb).1 with z | z
  ·exact hx z
  ·exact absurd (Nat.lt_of_lt_of_le (Heap.lt_size e) z) (Nat.lt_irrefl _)
 have cellK : ∀ x c, X.env.cells.lookup x = some c → ∀ v, s.heap.IsCell c v → h'.IsCell c v := fun x c e v ⟨o, ho, hd⟩ => by
  have nch : c ∉ ch := fun z => (hch c z).2.2.1 x c e rfl
  by_cases hc : c ∈ X.fs
  ·obtain ⟨sl, q⟩ := slot c o (I.cne x c e) hc nch ho (I.freeC x c e); exact ⟨_, q, hd⟩
  ·exact ⟨o, keep c o (I.cne x c e) hc nch ho (I.freeC x c e), hd⟩
 refine ⟨I.ok, I.os, hg, ⟨fun b o e n hb hx => ?_, fun b o e n hb hx => ?_, fun b o e n hx => ?_, fun b o e hx => ?_, fun b xs e => tups b xs (I.base.tups b xs e), fun b o xs e => frzs b o xs (I.base.frzs b o xs e), fun b ps e => ?_⟩, ?_, fun x c e => ?_, ?_, fun x c e => ?_, fun p hp => ?_, hok, I.len⟩
 ·exact keep b o (neL b o e) hb (neC b o e hx) (I.base.keep b o e n hb hx) (I.base.free b o e n hx)
 ·obtain ⟨sl, e1⟩ := I.base.slot b o e n hb hx; obtain ⟨sl', e2⟩ := slot b _ (neL b o e) hb (neC b o e hx) e1 (I.base.free b o e n hx); exact ⟨sl', e2⟩
 ·obtain ⟨o', e1⟩ := I.base.there b o e hx; exact free b o' (neC b o e hx) e1 (I.base.free b o e n hx)
 ·obtain ⟨o', e1⟩ := I.base.there b o e hx; exact there b o' (neC b o e hx) e1
 ·obtain ⟨m1, e1⟩ := I.base.tbls b ps e; obtain ⟨m2, e2⟩ := tbls b _ e1; exact ⟨m1 ++ m2, by rw [e2, Array.append_assoc]⟩
 ·obtain ⟨m, hn, hl⟩ := I.loc; refine ⟨m, ns m hn, fun i x v e1 e2 e3 => ?_⟩; obtain ⟨u, r, l⟩ := hl i x v e1 e2 e3; refine ⟨u, r, ?_⟩; rcases l with l | ⟨k, c, e, z⟩
  ·exact .inl l
  ·exact .inr ⟨k, c, e, cellK x c e _ z⟩
 ·obtain ⟨v, z⟩ := I.cell x c e; exact ⟨v, cellK x c e v z⟩
 ·obtain ⟨m, ⟨o, _, _, ho, _⟩, _⟩ := I.loc; exact free _ o (fun z => (hch _ z).2.1 rfl) ho I.free
 ·obtain ⟨v, o, ho, hd⟩ := I.cell x c e; exact free c o (fun z => (hch c z).2.2.1 x c e rfl) ho (I.freeC x c e)
 ·obtain ⟨e, n, ne, nf, d⟩ := I.pin p hp; have nch : p.1 ∉ ch := fun z => (hch p.1 z).2.2.2 p hp rfl
  exact ⟨keep p.1 p.2 ne nf nch e n, free p.1 p.2 nch e n, ne, nf, d⟩
theorem Inv.un {t' : Nat} (I : Inv X pins σ H s) (u : Un X.fs [] H H' s.heap h') (hok : HOk X.prog X.w H' h') : Inv X pins σ H' { s with heap := h', toks := t' } := by
 obtain ⟨m, ⟨o, es, ep, ho, r⟩, _⟩ := id I.loc; obtain ⟨sl, hL⟩ := u.any ho I.free (by simp)
 exact I.step (g' := s.gens) (d' := s.drawn) (ch := []) (fun _ z => nomatch z) (fun b o _ hb _ e n => u.keep b o e n hb (by simp)) (fun b o _ hb _ e n => u.slot b o e n hb (by simp)) (fun b o _ e n => u.free b o e n (by simp)) (fun b o _ e => u.there b o e (by simp)) u.tups u.frzs u.tbls (fun m' hm => by
  obtain ⟨o', es', ep', ho', r'⟩ := hm; rw [ho] at ho'; cases ho'; exact ⟨_, es', ep', hL, r'⟩) hok I.bare
theorem Inv.call {g' : Array GenState} {t' : Nat} {d' : Drawn} {ch : List Addr} (I : Inv X pins σ H s) (u : Un (frs X.stack) ch H H' s.heap h') (hok : HOk X.prog X.w H' h') (hg : AllBare g')
  (hch : ∀ b ∈ ch, (b ∈ X.ex ∨ X.s₀.heap.objs.size ≤ b) ∧ b ≠ X.env.locals ∧ (∀ x c, X.env.cells.lookup x = some c → c ≠ b) ∧ ∀ p ∈ X.pn ++ pins, p.1 ≠ b) :
  Inv X pins σ H' { s with heap := h', gens := g', drawn := d', toks := t' } := by
 obtain ⟨m, ⟨o, es, ep, ho, r⟩, _⟩ := id I.loc; obtain ⟨sl, hL⟩ := u.any ho I.free fun z => (hch _ z).2.1 rfl; exact I.step (ch := ch) hch (fun b o hL hb hc e n => u.keep b o e n (fun z => (List.mem_cons.mp (I.stkSub b z)).elim hL hb) hc) (fun b o _ _ hc e n => u.any e n hc) (fun b o hc e n => u.free b o e n hc) (fun b o hc e => u.there b o e hc) u.tups u.frzs u.tbls (fun m' hm => by
  obtain ⟨o', es', ep', ho', r'⟩ := hm; rw [ho] at ho'; cases ho'; exact ⟨_, es', ep', hL, r'⟩) hok hg
theorem Inv.turned {t' : Nat} {it : Addr} (I : Inv X pins σ H s) (k : ∀ b o, b ≠ it → s.heap.get? b = some o → h'.get? b = some o) (hn : H it = none) (hL : it ≠ X.env.locals)
  (h1 : it ∈ X.ex ∨ X.s₀.heap.objs.size ≤ it) (h2 : ∀ x c, X.env.cells.lookup x = some c → c ≠ it) (h3 : ∀ p ∈ X.pn ++ pins, p.1 ≠ it) : Inv X pins σ H { s with heap := h', toks := t' } := by
 have nit : ∀ b u, H b = some u → b ≠ it := fun b u e z => by rw [z, hn] at e; cases e
 refine I.step (g' := s.gens) (d' := s.drawn) (ch := [it]) (fun b hb => ?_) (fun b o _ _ hc e _ => k b o (fun z => hc (by simp [z])) e) (fun b o _ _ hc e _ => ⟨o.slots, k b o (fun z => hc (by simp [z])) e⟩) (fun _ _ _ _ n => n)
  (fun b o hc e => ⟨o, k b o (fun z => hc (by simp [z])) e⟩) (fun _ _ e => e) (fun _ _ _ e => e) (fun b ps e => ⟨#[], by rw [e]; simp⟩) (fun m hm => ?_) (fun b u e => ?_) I.bare
 ·have e : b = it := by simpa using hb
  subst e; exact ⟨h1, hL, h2, h3⟩
 ·obtain ⟨o, es, ep, ho, r⟩ := hm; exact ⟨o, es, ep, k _ o (Ne.symm hL) ho, r⟩
 ·refine (I.hok b u e).stay (fun c v hc q => k c v ?_ q) (fun _ q => q) (fun _ _ q => q) fun _ _ _ q => q; rcases hc with z | z
  ·rw [z]; exact nit b u e
  ·exact nit c _ z
theorem Inv.tok (I : Inv X pins σ H s) (t : Nat) : Inv X pins σ H { s with toks := t } := I.un (h' := s.heap) (t' := t) Un.refl I.hok
theorem Inv.kept {t' : Nat} (I : Inv X pins σ H s) (k : ∀ b u, s.heap.get? b = some u → h'.get? b = some u) : Inv X pins σ H { s with heap := h', toks := t' } := I.un (Un.kept k) (I.hok.kept k)
theorem Inv.laid {a : Addr} {o : HO} {t' : Nat} (I : Inv X pins σ H s) (k : ∀ b u, s.heap.get? b = some u → h'.get? b = some u) (hp : s.heap.objs.size ≤ a) (new : ObjOk X.prog X.w (upd H a o) h' a o) :
  Inv X pins σ (upd H a o) { s with heap := h', toks := t' } := I.un (Un.laid k hp (I.hok.fresh hp)) (I.hok.laid k hp new)
theorem Inv.write {x e : Addr} {o : HO} {t' : Nat} (I : Inv X pins σ H s) (mu : Mut (H x)) (he : e = x ∨ H e = some (.own x)) (k : ∀ b u, b ≠ e → s.heap.get? b = some u → h'.get? b = some u) (heo : ∃ u, h'.get? e = some u)
  (new : ObjOk X.prog X.w (upd H x o) h' x o) : Inv X pins σ (upd H x o) { s with heap := h', toks := t' } := I.un (Un.write mu he k heo) (I.hok.write mu he k heo new)
theorem Inv.pins_of {pins' : List (Addr × Obj)} (I : Inv X pins σ H s) (h : ∀ p ∈ pins', s.heap.get? p.1 = some p.2 ∧ H p.1 = none ∧ p.1 ≠ X.env.locals ∧ p.1 ∉ X.fs ∧ ∀ v, p.2.data ≠ .cell v) : Inv X pins' σ H s :=
 ⟨I.ok, I.os, I.bare, I.base, I.loc, I.cell, I.free, I.freeC, fun p hp => (List.mem_append.mp hp).elim (fun z => I.pin p (List.mem_append_left _ z)) (h p), I.hok, I.len⟩
theorem nodup_ix {N : List Str} (hN : N.Nodup) {i j : Nat} {x : Str} (a : N[i]? = some x) (b : N[j]? = some x) : i = j := by
 obtain ⟨h1, e1⟩ := List.getElem?_eq_some_iff.mp a; obtain ⟨h2, e2⟩ := List.getElem?_eq_some_iff.mp b; exact (List.getElem_inj hN).mp (e1.trans e2.symm)
theorem store_ok2 {M : Model} {A : Around} {E : Value → Shared → Prop} {i : Nat} {x : Str} {v : V} {u : Value} {Q : Unit → Shared → Prop} (I : Inv X pins σ H s) (hN : X.N.Nodup) (hi : X.N[i]? = some x) (hx : Loc X.env.scope x) (r : RelV v u)
  (h : ∀ s', Inv X pins (σ.set i (some v)) H s' → (∃ a, Heap.SameBut a s.heap s'.heap ∧ (a = X.env.locals ∨ X.env.cells.lookup x = some a)) → Q () s') (hf : X.fn x = true ∨ X.env.scope.names.lookup x = some .local := by first | exact .inl rfl | exact .inr rfl | assumption) : wpAny M A (storeName X.env x u) Q E s := by
 obtain ⟨m, hn, hl⟩ := id I.loc; have hcls : (X.env.scope.kind == .class || (X.env.scope.kind == .module && X.env.locals != X.env.globals)) = false := by rw [I.ok.kind]; rfl
 have hiσ : i < σ.length := by rw [I.len]; exact (List.getElem?_eq_some_iff.mp hi).1
 have cne := I.cne
 have tracked : ∀ {a : Addr} {h' : Heap}, (∃ o, s.heap.get? a = some o ∧ H a = none) → Heap.SameBut a s.heap h' → HOk X.prog X.w H h' := fun {a h'} ha hs b ob e => by
  obtain ⟨_, _, hfree⟩ := ha; refine (I.hok b ob e).stay (fun c w' hc q => (hs.2 c ?_).trans q) (fun _ q => q) (fun _ _ q => q) fun _ _ _ q => q; rintro rfl; rcases hc with rfl | hc
  ·rw [hfree] at e; cases e
  ·rw [hfree] at hc; cases hc
 rcases hx with hk | hk
 ·refine wpAny_storeName_local hk hn (fun h' hn' hs => ?_) hcls; obtain ⟨oL, _, _, hoL, _⟩ := id hn; refine h _ ⟨I.ok, I.os, I.bare, ⟨fun b o e n hb hx => ?_, fun b o e n hb hx => ?_, I.base.free, fun b o e hx => ?_, I.base.tups, I.base.frzs, I.base.tbls⟩, ⟨_, hn', fun j y v' e1 e2 e3 => ?_⟩, fun y c e => ?_, I.free, I.freeC, fun p hp => ?_, tracked ⟨oL, hoL, I.free⟩ hs, by simpa using I.len⟩ ⟨_, hs, .inl rfl⟩
  ·exact (hs.2 b (Nat.ne_of_lt (Nat.lt_of_lt_of_le (Heap.lt_size e) I.ok.above))).trans (I.base.keep b o e n hb hx)
  ·obtain ⟨sl, e1⟩ := I.base.slot b o e n hb hx; exact ⟨sl, (hs.2 b (Nat.ne_of_lt (Nat.lt_of_lt_of_le (Heap.lt_size e) I.ok.above))).trans e1⟩
  ·obtain ⟨o', e1⟩ := I.base.there b o e hx; exact ⟨o', (hs.2 b (Nat.ne_of_lt (Nat.lt_of_lt_of_le (Heap.lt_size e) I.ok.above))).trans e1⟩
  ·by_cases hj : j = i
   ·subst hj; rw [hi] at e1; cases e1; rw [List.getElem?_set_self hiσ] at e2
    cases e2
    exact ⟨u, r, .inl ⟨hk, by simp⟩⟩
   ·rw [List.getElem?_set_ne (Ne.symm hj)] at e2; obtain ⟨u', r', q⟩ := hl j y v' e1 e2 e3; refine ⟨u', r', ?_⟩; rcases q with ⟨k, e⟩ | ⟨k, c, e, z⟩
    ·refine .inl ⟨k, ?_⟩; have : y ≠ x := fun e => hj (nodup_ix hN e1 (e ▸ hi))
     simp [this, e]
    ·exact .inr ⟨k, c, e, z.sameBut hs (cne y c e)⟩
  ·obtain ⟨w', z⟩ := I.cell y c e; exact ⟨w', z.sameBut hs (cne y c e)⟩
  ·obtain ⟨e, n, ne, nf, d⟩ := I.pin p hp; exact ⟨(hs.2 p.1 ne).trans e, n, ne, nf, d⟩
 ·have hfn : X.fn x = true := by
   rcases hf with z | z
   ·exact z
   ·rw [z] at hk; cases hk
  obtain ⟨c, hc⟩ := I.ok.has x (.inl hk); obtain ⟨w', z⟩ := I.cell x c hc; refine wpAny_storeName_cell I.ok.kind hk hc z (fun h' hc' hs => ?_); obtain ⟨oc, hoc, hocd⟩ := id z; refine h { s with heap := h' } ⟨I.ok, I.os, I.bare, ⟨fun b o e n hb hx => ?_, fun b o e n hb hx => ?_, I.base.free, fun b o e hx => ?_, I.base.tups, I.base.frzs, I.base.tbls⟩, ⟨m, hn.sameBut hs (Ne.symm (cne x c hc)), fun j y v' e1 e2 e3 => ?_⟩, fun y c' e => ?_, I.free, I.freeC, fun p hp => ?_, tracked ⟨oc, hoc, I.freeC x c hc⟩ hs, by simpa using I.len⟩ ⟨c, hs, .inr hc⟩
  ·exact (hs.2 b (Nat.ne_of_lt (Nat.lt_of_lt_of_le (Heap.lt_size e) (I.ok.cab x c hfn hc)))).trans (I.base.keep b o e n hb hx)
  ·obtain ⟨sl, e1⟩ := I.base.slot b o e n hb hx; exact ⟨sl, (hs.2 b (Nat.ne_of_lt (Nat.lt_of_lt_of_le (Heap.lt_size e) (I.ok.cab x c hfn hc)))).trans e1⟩
  ·obtain ⟨o', e1⟩ := I.base.there b o e hx; exact ⟨o', (hs.2 b (Nat.ne_of_lt (Nat.lt_of_lt_of_le (Heap.lt_size e) (I.ok.cab x c hfn hc)))).trans e1⟩
  ·by_cases hj : j = i
   ·subst hj; rw [hi] at e1; cases e1; rw [List.getElem?_set_self hiσ] at e2
    cases e2
    exact ⟨u, r, .inr ⟨.inl hk, c, hc, hc'⟩⟩
   ·rw [List.getElem?_set_ne (Ne.symm hj)] at e2; obtain ⟨u', r', q⟩ := hl j y v' e1 e2 e3; refine ⟨u', r', ?_⟩; rcases q with q | ⟨k, c', e, z'⟩
    ·exact .inl q
    ·refine .inr ⟨k, c', e, z'.sameBut hs ?_⟩; rintro rfl; exact hj (nodup_ix hN e1 (I.ok.inj _ _ _ e hc ▸ hi))
  ·by_cases hcc : c' = c
   ·subst hcc; exact ⟨_, hc'⟩
   ·obtain ⟨w2, z2⟩ := I.cell y c' e; exact ⟨w2, z2.sameBut hs hcc⟩
  ·obtain ⟨e, n, ne, nf, d⟩ := I.pin p hp; refine ⟨(hs.2 p.1 ?_).trans e, n, ne, nf, d⟩; intro q; rw [q, hoc] at e; have q' : oc = p.2 := Option.some.inj e
   exact d w' (by rw [← q']; exact hocd)
theorem store_ok {M : Model} {A : Around} {E : Value → Shared → Prop} {i : Nat} {x : Str} {v : V} {u : Value} {Q : Unit → Shared → Prop} (I : Inv X pins σ H s) (hN : X.N.Nodup) (hi : X.N[i]? = some x) (hx : Loc X.env.scope x) (r : RelV v u)
  (h : ∀ s', Inv X pins (σ.set i (some v)) H s' → Q () s') (hf : X.fn x = true ∨ X.env.scope.names.lookup x = some .local := by first | exact .inl rfl | exact .inr rfl | assumption) : wpAny M A (storeName X.env x u) Q E s :=
 store_ok2 I hN hi hx r (fun s' I' _ => h s' I') hf
theorem Inv.call' {s' : Shared} {ch : List Addr} (I : Inv X pins σ H s) (ho : s'.os = s.os) (u : Un (frs X.stack) ch H H' s.heap s'.heap) (hok : HOk X.prog X.w H' s'.heap) (hg : AllBare s'.gens)
  (hch : ∀ b ∈ ch, (b ∈ X.ex ∨ X.s₀.heap.objs.size ≤ b) ∧ b ≠ X.env.locals ∧ (∀ x c, X.env.cells.lookup x = some c → c ≠ b) ∧ ∀ p ∈ X.pn ++ pins, p.1 ≠ b) : Inv X pins σ H' s' := by
 obtain ⟨h', g', d', t', o'⟩ := s'; have e : o' = s.os := ho
 subst e; exact I.call (g' := g') (t' := t') (d' := d') u hok hg hch
end
abbrev XK := Value → Option Addr → Hp → Prop
abbrev St := List (Option V)
abbrev VK := V → Hp → Prop
abbrev TE := St → Hp → VK → Prop
abbrev TT := St → Hp → (Bool → Hp → Prop) → Prop
abbrev TA := St → Hp → (List V → Hp → Prop) → Prop
structure Ends where
 nx : St → Hp → Prop
 rt : VK
 bk : St → Hp → Prop := fun _ _ => False
 ct : St → Hp → Prop := fun _ _ => False
abbrev TS := Ends → St → Hp → Prop
def EP (X : Cx) (pins : List (Addr × Obj)) (σ : St) (Q : VK) (u : Value) (s' : Shared) : Prop := ∃ v H', Inv X pins σ H' s' ∧ RelV v u ∧ Q v H'
def TP (X : Cx) (pins : List (Addr × Obj)) (σ : St) (Q : Bool → Hp → Prop) (b : Bool) (s' : Shared) : Prop := ∃ H', Inv X pins σ H' s' ∧ Q b H'
def AP (X : Cx) (pins : List (Addr × Obj)) (σ : St) (Q : List V → Hp → Prop) (us : List Value) (s' : Shared) : Prop := ∃ vs H', Inv X pins σ H' s' ∧ Vals vs us ∧ Q vs H'
def SP (X : Cx) (pins : List (Addr × Obj)) (D : Ends) (f : Flow) (s' : Shared) : Prop :=
 match f with
 | .next => ∃ σ' H', Inv X pins σ' H' s' ∧ D.nx σ' H'
 | .brk => ∃ σ' H', Inv X pins σ' H' s' ∧ D.bk σ' H'
 | .cont => ∃ σ' H', Inv X pins σ' H' s' ∧ D.ct σ' H'
 | .ret u => ∃ v σ' H', Inv X pins σ' H' s' ∧ RelV v u ∧ D.rt v H'
def PE (X : Cx) (e : Expr) (t : TE) : Prop :=
 ∀ (pins : List (Addr × Obj)) (s : Shared) (σ : St) (H : Hp) (Q : VK), Inv X pins σ H s → t σ H Q → wpAny (model X.prog X.w) X.A (eval e X.env) (EP X pins σ Q) X.xe s
def PT (X : Cx) (e : Expr) (t : TT) : Prop :=
 ∀ (pins : List (Addr × Obj)) (s : Shared) (σ : St) (H : Hp) (Q : Bool → Hp → Prop), Inv X pins σ H s → t σ H Q → wpAny (model X.prog X.w) X.A (isTrue e X.env (eval e X.env)) (TP X pins σ Q) X.xe s
def PW (X : Cx) (e : Expr) (t : TT) : Prop :=
 ∀ (whole : Sem Value) (pins : List (Addr × Obj)) (s : Shared) (σ : St) (H : Hp) (Q : Bool → Hp → Prop), Inv X pins σ H s → t σ H Q → wpAny (model X.prog X.w) X.A (isTrue e X.env whole) (TP X pins σ Q) X.xe s
theorem PW.pt {X : Cx} {e : Expr} {t : TT} (h : PW X e t) : PT X e t := h _
def PA (X : Cx) (es : List Expr) (t : TA) : Prop :=
 ∀ (pos : Pos) (pins : List (Addr × Obj)) (s : Shared) (σ : St) (H : Hp) (Q : List V → Hp → Prop), Inv X pins σ H s → t σ H Q → wpAny (model X.prog X.w) X.A (spliced (backTo pos (starEach es X.env))) (AP X pins σ Q) X.xe s
def PS (X : Cx) (st : Stmt) (t : TS) : Prop :=
 ∀ (pins : List (Addr × Obj)) (s : Shared) (σ : St) (H : Hp) (D : Ends), Inv X pins σ H s → t D σ H → wpAny (model X.prog X.w) X.A (exec st X.env) (SP X pins D) X.xe s
def PSs (X : Cx) (st : List Stmt) (t : TS) : Prop :=
 ∀ (pins : List (Addr × Obj)) (s : Shared) (σ : St) (H : Hp) (D : Ends), Inv X pins σ H s → t D σ H → wpAny (model X.prog X.w) X.A (execs st X.env) (SP X pins D) X.xe s
theorem thn {α : Type} {t : Sem α} {Q Q' : α → Shared → Prop} {M : Model} {A : Around} {E : Value → Shared → Prop} {s : Shared} (h : wpAny M A t Q E s) (hQ : ∀ a s, Q a s → Q' a s) : wpAny M A t Q' E s := wpAny_mono h hQ fun _ _ x => x
end L2
namespace L2
open PySem PySem.Spec PyProof.Rows
section
variable {X : Cx}
def tVar (i : Nat) : TE := fun σ H Q => ∃ v, σ[i]? = some (some v) ∧ Q v H
def tC (v : V) : TE := fun _ H Q => Q v H
theorem pe_var {i : Nat} {x : Str} {pos : Pos} (hN : X.N[i]? = some x) (hv : Vis X.env.scope x) (hd : (x == ("__debug__" : Str)) = false := by decide) (hcd : (x == ("__classdict__" : Str)) = false := by decide) : PE X (.Name x pos) (tVar i) := by
 intro pins s σ H Q I h; obtain ⟨v, e, h⟩ := h; obtain ⟨m, hn, hl⟩ := I.loc; obtain ⟨u, r, l⟩ := hl i x v hN e hv; have fin : EP X pins σ Q u s := ⟨v, H, I, r, h⟩
 rcases l with ⟨hk, hm⟩ | ⟨hk, c, hc, hcell⟩
 ·exact wpAny_Name (wpAny_loadName_local I.ok.kind hk hn hm fin) hd
 ·rcases hk with hk | hk
  ·exact wpAny_Name (wpAny_loadName_cell I.ok.kind hk hc hcell fin) hd
  ·exact wpAny_Name (wpAny_loadName_free I.ok.kind hk hc hcell fin hcd) hd
theorem pe_int {i j pos} : PE X (.Constant (.int i) j pos) (tC (.int i)) := fun _ _ _ H _ I h => wpAny_Constant_int ⟨.int i, H, I.tok _, ⟨_, rfl⟩, h⟩
theorem pe_bl {b j pos} : PE X (.Constant (.bool b) j pos) (tC (.bl b)) := fun _ _ _ H _ I h => Constant_bool ⟨.bl b, H, I, rfl, h⟩
theorem pe_non {j pos} : PE X (.Constant .none j pos) (tC .non) := fun _ _ _ H _ I h => Constant_none ⟨.non, H, I, rfl, h⟩
theorem pe_str {x j pos} : PE X (.Constant (.str x) j pos) (tC (.str x)) := fun _ _ _ H _ I h => Calls.Constant_str ⟨.str x, H, I.tok _, ⟨_, rfl⟩, h⟩
def Gl (X : Cx) (x : Str) : Prop := X.env.kindOf x = some .globalImplicit
theorem ld_glob {E : Value → Shared → Prop} {pins : List (Addr × Obj)} {s : Shared} {σ : St} {H : Hp} {x : Str} {u : Value} {pos : Pos} {Q : Value → Shared → Prop} (I : Inv X pins σ H s) (hg : Gl X x) (hm : X.mg x = some u) (h : Q u s)
  (hd : (x == ("__debug__" : Str)) = false := by decide) : wpAny (model X.prog X.w) X.A (eval (.Name x pos) X.env) Q E s :=
 Calls.Name_function_global I.ok.kind hg (Calls.loadGlobal_global (by rw [I.ok.glob]; exact I.mod.glob.keeps I.bk) hm h) hd
theorem ld_blt {E : Value → Shared → Prop} {pins : List (Addr × Obj)} {s : Shared} {σ : St} {H : Hp} {x : Str} {u : Value} {pos : Pos} {Q : Value → Shared → Prop} (I : Inv X pins σ H s) (hg : Gl X x) (hm : X.mg x = none) (hv : bootBuiltins x = some u) (h : Q u s)
  (hn : x ≠ "__name__" := by decide) (hd : (x == ("__debug__" : Str)) = false := by decide) : wpAny (model X.prog X.w) X.A (eval (.Name x pos) X.env) Q E s := by
 obtain ⟨mb, h1, h2⟩ := I.mod.blt; exact Calls.Name_function_global I.ok.kind hg (Calls.loadGlobal_builtin (by rw [I.ok.glob]; exact I.mod.glob.keeps I.bk) hm (by rw [I.ok.blt]; exact h1.keeps I.bk) ((h2 x hn).trans hv) h) hd
theorem pe_glob {x : Str} {v : V} {u : Value} {pos : Pos} (hg : Gl X x) (hm : X.mg x = some u) (r : RelV v u) (hd : (x == ("__debug__" : Str)) = false := by decide) : PE X (.Name x pos) (tC v) :=
 fun _ _ _ H _ I h => ld_glob I hg hm ⟨v, H, I, r, h⟩ hd
theorem pe_bltn {x : Str} {v : V} {u : Value} {pos : Pos} (hg : Gl X x) (hm : X.mg x = none) (hv : bootBuiltins x = some u) (r : RelV v u) (hn : x ≠ "__name__" := by decide) (hd : (x == ("__debug__" : Str)) = false := by decide) : PE X (.Name x pos) (tC v) :=
 fun _ _ _ H _ I h => ld_blt I hg hm hv ⟨v, H, I, r, h⟩ hn hd
variable {a b : Expr} {ta tb : TE} {pos : Pos}
def tB (t : TE) : TT := fun σ H Q => t σ H fun x H1 => ∃ c, x = .bl c ∧ Q c H1
theorem pt_val {e : Expr} {t : TE} (h : PE X e t) (he : ∀ whole, isTrue e X.env whole = (do let v ← whole; standAt e.pos; holding [v] (truthy v)) := by intro _; rfl) : PT X e (tB t) := by
 intro pins s σ H Q I hw; refine isTrue_plain (thn (h pins s σ H _ I hw) fun v s1 ⟨x, H1, I1, r1, q1⟩ => ?_) (he _); obtain ⟨d, rfl, q⟩ := q1
 cases r1
 exact wpAny_truthy_bool ⟨H1, I1, q⟩
variable {tA tB' : TT} {rest : List Expr}
def tAnd (t u : TT) : TT := fun σ H Q => t σ H fun c H1 => if c = true then u σ H1 Q else Q false H1
def tOr (t u : TT) : TT := fun σ H Q => t σ H fun c H1 => if c = true then Q true H1 else u σ H1 Q
def tNot (t : TT) : TT := fun σ H Q => t σ H fun c H1 => Q (!c) H1
theorem pw_and1 (ha : PT X a tA) : PW X (.BoolOp .And [a] pos) tA := by
 intro wh pins s σ H Q I h; refine isTrue_and (thn (ha pins s σ H Q I h) fun c s1 e => ?_)
 cases c with
 | true => exact isTrue_and_nil e
 | false => exact e
theorem pw_or1 (ha : PT X a tA) : PW X (.BoolOp .Or [a] pos) tA := by
 intro wh pins s σ H Q I h; refine isTrue_or (thn (ha pins s σ H Q I h) fun c s1 e => ?_)
 cases c with
 | false => exact isTrue_or_nil e
 | true => exact e
theorem pw_and (ha : PT X a tA) (hb : PW X (.BoolOp .And (b :: rest) pos) tB') : PW X (.BoolOp .And (a :: b :: rest) pos) (tAnd tA tB') := by
 intro wh pins s σ H Q I h; refine isTrue_and (thn (ha pins s σ H _ I h) fun c s1 ⟨H1, I1, q1⟩ => ?_)
 cases c with
 | true => exact hb wh pins s1 σ H1 Q I1 q1
 | false => exact ⟨H1, I1, q1⟩
theorem pw_or (ha : PT X a tA) (hb : PW X (.BoolOp .Or (b :: rest) pos) tB') : PW X (.BoolOp .Or (a :: b :: rest) pos) (tOr tA tB') := by
 intro wh pins s σ H Q I h; refine isTrue_or (thn (ha pins s σ H _ I h) fun c s1 ⟨H1, I1, q1⟩ => ?_)
 cases c with
 | true => exact ⟨H1, I1, q1⟩
 | false => exact hb wh pins s1 σ H1 Q I1 q1
theorem pt_not (ha : PT X a tA) : PT X (.UnaryOp .Not a pos) (tNot tA) := by
 intro pins s σ H Q I h; exact isTrue_not (ha pins s σ H (fun c H1 => Q (!c) H1) I h)
def tAndV (ta tb : TE) : TE := fun σ H Q => ta σ H fun x H1 => ∃ c, x = .bl c ∧ if c = true then tb σ H1 Q else Q (.bl false) H1
def tNotV (ta : TE) : TE := fun σ H Q => ta σ H fun x H1 => ∃ c, x = .bl c ∧ Q (.bl (!c)) H1
theorem pe_one {op} {t : TE} (h : PE X a t) : PE X (.BoolOp op [a] pos) t := fun pins s σ H Q I hw => BoolOp_one (h pins s σ H Q I hw)
theorem pe_and (ha : PE X a ta) (hb : PE X (.BoolOp .And (b :: rest) pos) tb) : PE X (.BoolOp .And (a :: b :: rest) pos) (tAndV ta tb) := by
 intro pins s σ H Q I h; refine BoolOp_and (thn (ha pins s σ H _ I h) fun v s1 ⟨x, H1, I1, r1, q1⟩ => ?_); obtain ⟨c, rfl, q1⟩ := q1
 cases r1
 refine wpAny_truthy_bool ?_
 cases c with
 | true => exact hb pins s1 σ H1 Q I1 q1
 | false => exact ⟨.bl false, H1, I1, rfl, q1⟩
theorem pe_not (ha : PE X a ta) : PE X (.UnaryOp .Not a pos) (tNotV ta) := by
 intro pins s σ H Q I h; refine UnaryOp_ (thn (ha pins s σ H _ I h) fun v s1 ⟨x, H1, I1, r1, q1⟩ => ?_); obtain ⟨c, rfl, q1⟩ := q1
 cases r1
 exact not_of (wpAny_truthy_bool ⟨.bl (!c), H1, I1, rfl, q1⟩)
def tIf (t : TT) (ta tb : TE) : TE := fun σ H Q => t σ H fun c H1 => if c = true then ta σ H1 Q else tb σ H1 Q
theorem pe_ifExp {c : Expr} (hc : PT X c tA) (ha : PE X a ta) (hb : PE X b tb) : PE X (.IfExp c a b pos) (tIf tA ta tb) := by
 intro pins s σ H Q I h; refine wpAny_IfExp (thn (hc pins s σ H _ I h) fun d s1 ⟨H1, I1, q1⟩ => ?_)
 cases d with
 | true => exact ha pins s1 σ H1 Q I1 q1
 | false => exact hb pins s1 σ H1 Q I1 q1
end
end L2
namespace L2
open PySem PySem.Spec PyProof.Rows
def SqL (K : PySem.W.Frag) (H : Hp) (a : Addr) (xs : List V) : Prop :=
 Rd H a (.lst xs) ∨
  ∃ (o : Obj) (its : Array Value) (n : Nat), K.lookup a = some o ∧ o.cls = .type "list" ∧ o.dict = none ∧ o.data = .seq its n ∧ its.size ≤ sizeLine ∧ Vals xs its.toList
def SqT (K : PySem.W.Frag) (H : Hp) (a : Addr) (xs : List V) : Prop :=
 Rd H a (.tup xs) ∨
  ∃ (o : Obj) (its : Array Value) (n : Nat), K.lookup a = some o ∧ (o.cls = .type "tuple" ∧ o.dict = none) ∧ o.data = .seq its n ∧ its.size ≤ sizeLine ∧ Vals xs its.toList
def absV : Value → Option V
 | .none => some .non
 | .bool b => some (.bl b)
 | .int i _ => some (.int i)
 | .str x _ => some (.str x)
 | .bytes b _ => some (.byt b)
 | .float b _ => some (.flt b)
 | .ref a => some (.ref a)
 | .type n => some (.ty n)
 | _ => none
theorem RelV.abs {x : V} {u : Value} (r : RelV x u) : absV u = some x := by
 cases x with
 | non => cases r; rfl
 | bl _ => cases r; rfl
 | int _ => obtain ⟨t, rfl⟩ := r; rfl
 | str _ => obtain ⟨t, rfl⟩ := r; rfl
 | byt _ => obtain ⟨t, rfl⟩ := r; rfl
 | flt _ => obtain ⟨t, rfl⟩ := r; rfl
 | ref _ => cases r; rfl
 | ty _ => cases r; rfl
theorem RelV.inj {x y : V} {u : Value} (r : RelV x u) (q : RelV y u) : x = y := Option.some.inj (r.abs.symm.trans q.abs)
theorem Vals.inj : ∀ {xs ys : List V} {us : List Value}, Vals xs us → Vals ys us → xs = ys
 | _, _, _, .nil, .nil => rfl
 | _, _, _, .cons r t, .cons r' t' => by rw [r.inj r', Vals.inj t t']
section
variable {X : Cx} {pins : List (Addr × Obj)} {σ : St} {H : Hp} {s : Shared} {a : Addr} {xs ys : List V}
theorem SqL.of {K : PySem.W.Frag} (h : H a = some (.lst xs)) : SqL K H a xs := .inl (.inl h)
theorem SqT.of {K : PySem.W.Frag} (h : H a = some (.tup xs)) : SqT K H a xs := .inl (.inl h)
theorem Inv.list (I : Inv X pins σ H s) (h : SqL X.K H a xs) : ∃ its : List Value, Vals xs its ∧ PlainL s.heap a its.toArray ∧ xs.length ≤ sizeLine := by
 rcases h with h | ⟨o, its, n, hk, hc, hd, hs, hz, r⟩
 ·obtain ⟨z, its, n, r, e⟩ := h.ok I.hok; exact ⟨its, r, ⟨_, n, e, rfl, rfl, rfl⟩, z⟩
 ·refine ⟨its.toList, r, ⟨o, n, I.kIn a o hk, hc, hd, by simpa using hs⟩, ?_⟩
  have e := r.length
  simp only [Array.length_toList] at e; omega
theorem Inv.tuple (I : Inv X pins σ H s) (h : SqT X.K H a xs) : ∃ its : List Value, Vals xs its ∧ IsTup s.heap a its.toArray ∧ xs.length ≤ sizeLine := by
 rcases h with h | ⟨o, its, n, hk, hc, hs, hz, r⟩
 ·obtain ⟨z, its, r, p⟩ := h.ok I.hok; exact ⟨its, r, p, z.1⟩
 ·refine ⟨its.toList, r, ⟨o, I.kIn a o hk, hc.1, n, by simpa using hs⟩, ?_⟩
  have e := r.length
  simp only [Array.length_toList] at e; omega
theorem Inv.list_inj (I : Inv X pins σ H s) (h : SqL X.K H a xs) (h' : SqL X.K H a ys) : xs = ys := by
 obtain ⟨its, r, ⟨o, n, e, _, _, d⟩, _⟩ := I.list h; obtain ⟨its', r', ⟨o', n', e', _, _, d'⟩, _⟩ := I.list h'; rw [e] at e'; cases e'; rw [d] at d'
 injection d' with d1 _
 have : its = its' := by simpa using congrArg Array.toList d1
 subst this; exact r.inj r'
theorem Inv.tuple_inj (I : Inv X pins σ H s) (h : SqT X.K H a xs) (h' : SqT X.K H a ys) : xs = ys := by
 obtain ⟨its, r, ⟨o, e, _, n, d⟩, _⟩ := I.tuple h; obtain ⟨its', r', ⟨o', e', _, n', d'⟩, _⟩ := I.tuple h'; rw [e] at e'; cases e'; rw [d] at d'
 injection d' with d1 _
 have : its = its' := by simpa using congrArg Array.toList d1
 subst this; exact r.inj r'
end
abbrev Cx.wish (X : Cx) (E : Value → Shared → Prop) : Cx := { X with xe := E }
abbrev Cx.nox (X : Cx) : Cx := X.wish fun _ _ => False
theorem Cx.Ok.wish {X : Cx} (ok : X.Ok) (E : Value → Shared → Prop) : (X.wish E).Ok :=
 ⟨ok.mod, ok.kind, ok.glob, ok.blt, ok.above, ok.inj, ok.has, ok.cab, ok.hd, ok.frames, ok.stk, ok.exf, ok.bs, ok.bsz, ok.noex, ok.exfs, ok.funs, ok.frf⟩
theorem Cx.Ok.unwish {X : Cx} {E : Value → Shared → Prop} (ok : (X.wish E).Ok) : X.Ok :=
 ⟨ok.mod, ok.kind, ok.glob, ok.blt, ok.above, ok.inj, ok.has, ok.cab, ok.hd, ok.frames, ok.stk, ok.exf, ok.bs, ok.bsz, ok.noex, ok.exfs, ok.funs, ok.frf⟩
section
variable {X : Cx} {pins : List (Addr × Obj)} {σ : St} {H : Hp} {s : Shared} {E : Value → Shared → Prop}
theorem Inv.wish (I : Inv X pins σ H s) (E : Value → Shared → Prop) : Inv (X.wish E) pins σ H s := ⟨I.ok.wish E, I.os, I.bare, I.base, I.loc, I.cell, I.free, I.freeC, I.pin, I.hok, I.len⟩
theorem Inv.unwish (I : Inv (X.wish E) pins σ H s) : Inv X pins σ H s := ⟨I.ok.unwish, I.os, I.bare, I.base, I.loc, I.cell, I.free, I.freeC, I.pin, I.hok, I.len⟩
theorem SP.unwish {D : Ends} {f : Flow} {s' : Shared} (h : SP (X.wish E) pins D f s') : SP X pins D f s' := by
 cases f with
 | next => obtain ⟨σ', H', I, q⟩ := h; exact ⟨σ', H', I.unwish, q⟩
 | brk => obtain ⟨σ', H', I, q⟩ := h; exact ⟨σ', H', I.unwish, q⟩
 | cont => obtain ⟨σ', H', I, q⟩ := h; exact ⟨σ', H', I.unwish, q⟩
 | ret u => obtain ⟨v, σ', H', I, r, q⟩ := h; exact ⟨v, σ', H', I.unwish, r, q⟩
theorem PE.nox {e : Expr} {t : TE} (h : PE X.nox e t) : PE X e t := fun pins s σ H Q I hw =>
 wpAny_mono (h pins s σ H Q (I.wish _) hw) (fun _ _ ⟨v, H', I', r, q⟩ => ⟨v, H', I'.unwish, r, q⟩) fun _ _ z => False.elim z
theorem PT.nox {e : Expr} {t : TT} (h : PT X.nox e t) : PT X e t := fun pins s σ H Q I hw =>
 wpAny_mono (h pins s σ H Q (I.wish _) hw) (fun _ _ ⟨H', I', q⟩ => ⟨H', I'.unwish, q⟩) fun _ _ z => False.elim z
theorem PSs.nox {st : List Stmt} {t : TS} (h : PSs X.nox st t) : PSs X st t := fun pins s σ H D I hw =>
 wpAny_mono (h pins s σ H D (I.wish _) hw) (fun _ _ q => q.unwish) fun _ _ z => False.elim z
end
section
variable {X : Cx} {st : Stmt} {rest : List Stmt} {t u : TS} {e : Expr} {te : TE} {pos : Pos}
def tNext : TS := fun D σ H => D.nx σ H
def tSeq (t u : TS) : TS := fun D σ H => t { D with nx := u D } σ H
theorem pss_nil : PSs X [] tNext := fun _ _ σ H _ I h => wpAny_execs_nil ⟨σ, H, I, h⟩
theorem pss_cons (h1 : PS X st t) (h2 : PSs X rest u) : PSs X (st :: rest) (tSeq t u) := by
 intro pins s σ H D I h; refine wpAny_execs_cons (thn (h1 pins s σ H { D with nx := u D } I h) fun f s1 q => ?_)
 cases f with
 | next =>
  obtain ⟨σ', H', I', q⟩ := q; exact h2 pins s1 σ' H' D I' q
 | ret v => exact q
 | brk => exact q
 | cont => exact q
theorem Inv.quiet {pins : List (Addr × Obj)} {σ : St} {H : Hp} {s : Shared} (I : Inv X pins σ H s) : interactive X.env = false := by simp [interactive, I.ok.kind]
def tDrop (te : TE) : TS := fun D σ H => te σ H fun _ H1 => D.nx σ H1
theorem ps_expr (he : PE X e te) (hs : swapsWith e none pos.line X.env = pure false := by rfl) : PS X (.Expr e pos) (tDrop te) := by
 intro pins s σ H D I h; exact wpAny_Expr_any (thn (he pins s σ H _ I h) fun v s1 ⟨x, H1, I1, r1, q1⟩ => ⟨σ, H1, I1, q1⟩) I.quiet hs
def tRet (te : TE) : TS := fun D σ H => te σ H D.rt
theorem ps_ret (he : PE X e te) : PS X (.Return (some e) pos) (tRet te) := by
 intro pins s σ H D I h; exact wpAny_Return_some (thn (he pins s σ H _ I h) fun v s1 ⟨x, H1, I1, r1, q1⟩ => ⟨x, σ, H1, I1, r1, q1⟩)
def tIfS (c : TT) (t u : TS) : TS := fun D σ H => c σ H fun b H1 => if b = true then t D σ H1 else u D σ H1
theorem ps_if {c : Expr} {a b : List Stmt} {tc : TT} (hc : PT X c tc) (ha : PSs X a t) (hb : PSs X b u) : PS X (.If c a b pos) (tIfS tc t u) := by
 intro pins s σ H D I h; refine wpAny_If (thn (hc pins s σ H _ I h) fun d s1 ⟨H1, I1, q1⟩ => ?_)
 cases d with
 | true => exact ha pins s1 σ H1 D I1 q1
 | false => exact hb pins s1 σ H1 D I1 q1
end
abbrev TG := V → St → Hp → (St → Hp → Prop) → Prop
abbrev TGs := List V → St → Hp → (St → Hp → Prop) → Prop
def PG (X : Cx) (target : Expr) (t : TG) : Prop :=
 ∀ (pins : List (Addr × Obj)) (s : Shared) (σ : St) (H : Hp) (v : V) (u : Value) (Q : St → Hp → Prop), Inv X pins σ H s → RelV v u → t v σ H Q →
  wpAny (model X.prog X.w) X.A (assign target X.env u) (fun _ s' => ∃ σ' H', Inv X pins σ' H' s' ∧ Q σ' H') X.xe s
def PGs (X : Cx) (ts : List Expr) (t : TGs) : Prop :=
 ∀ (pins : List (Addr × Obj)) (s : Shared) (σ : St) (H : Hp) (vs : List V) (us : List Value) (Q : St → Hp → Prop), Inv X pins σ H s → Vals vs us → t vs σ H Q →
  wpAny (model X.prog X.w) X.A (assignInOrder ((assignEach ts X.env).map (·.2)) us) (fun _ s' => ∃ σ' H', Inv X pins σ' H' s' ∧ Q σ' H') X.xe s
abbrev TSet := V → V → V → Hp → (Hp → Prop) → Prop
def PSet (X : Cx) (t : TSet) : Prop :=
 ∀ (pins : List (Addr × Obj)) (s : Shared) (σ : St) (H : Hp) (o i v : V) (ov iv u : Value) (Q : Hp → Prop), Inv X pins σ H s → RelV o ov → RelV i iv → RelV v u → t o i v H Q →
  wpAny (model X.prog X.w) X.A (setItem ov iv u) (fun _ s' => ∃ H', Inv X pins σ H' s' ∧ Q H') X.xe s
section
variable {X : Cx} {pos : Pos}
def gName (i : Nat) : TG := fun v σ H Q => Q (σ.set i (some v)) H
theorem pg_name {i : Nat} {x : Str} (hN : X.N.Nodup) (hi : X.N[i]? = some x) (hx : Loc X.env.scope x) (hf : X.fn x = true ∨ X.env.scope.names.lookup x = some .local := by first | exact .inl rfl | exact .inr rfl | assumption) : PG X (.Name x pos) (gName i) := by
 intro pins s σ H v u Q I r h; exact wpAny_assign_Name (store_ok I hN hi hx r (fun s' I' => ⟨_, H, I', h⟩) hf)
def gNil : TGs := fun vs σ H Q => vs = [] ∧ Q σ H
def gCons (t : TG) (u : TGs) : TGs := fun vs σ H Q => ∃ v r, vs = v :: r ∧ t v σ H fun σ' H' => u r σ' H' Q
theorem pgs_nil : PGs X [] gNil := by
 intro pins s σ H vs us Q I r h; obtain ⟨e, h⟩ := h; subst e
 cases r
 exact assignInOrder_nil ⟨σ, H, I, h⟩
theorem pgs_cons {e : Expr} {es : List Expr} {t : TG} {u : TGs} (h1 : PG X e t) (h2 : PGs X es u)
  (hs : (assignEach (e :: es) X.env).map (·.2) = assign e X.env :: (assignEach es X.env).map (·.2) := by rfl) : PGs X (e :: es) (gCons t u) := by
 intro pins s σ H vs us Q I r h; obtain ⟨v, vr, e1, h⟩ := h; subst e1
 cases r with
 | cons r rr =>
  rw [hs]; refine assignInOrder_cons (thn (h1 pins s σ H _ _ _ I r h) fun _ s1 ⟨σ1, H1, I1, q1⟩ => ?_); exact h2 pins s1 σ1 H1 _ _ Q I1 rr q1
def gTup (K : PySem.W.Frag) (n : Nat) (t : TGs) : TG := fun v σ H Q => ∃ a xs, v = .ref a ∧ SqT K H a xs ∧ xs.length = n ∧ t xs σ H Q
theorem pg_tup {es : List Expr} {k : Nat} {t : TGs} {n : Nat} (hc : X.calm = true) (h : PGs X es t)
  (hn : (assignEach es X.env).length = n := by rfl) (hst : (assignEach es X.env).findIdx? (·.1) = none := by rfl) : PG X (.Tuple es k pos) (gTup X.K n t) := by
 intro pins s σ H v u Q I r hw; obtain ⟨a, xs, e1, hq, hl, hw⟩ := hw; subst e1
 cases r
 obtain ⟨its, rv, ht, hz⟩ := I.tuple hq; refine assign_Tuple_tuple (I.ok.hd hc) ht (by simp [hn, ← hl, rv.length]) hst fun h' hx => ?_
 have I1 : Inv X pins σ H { s with heap := h' } := I.kept (t' := s.toks) fun b o e => hx b o (Nat.ne_of_lt (Heap.lt_size e)) e
 exact h pins _ σ H xs _ Q I1 (by simpa using rv) hw
def gSub (to ti : TE) (t : TSet) : TG := fun v σ H Q => to σ H fun o H1 => ti σ H1 fun i H2 => t o i v H2 fun H3 => Q σ H3
theorem pg_sub {o i : Expr} {to ti : TE} {t : TSet} (ho : PE X o to) (hi : PE X i ti) (hs : PSet X t)
  (ha : ∀ v, assign (.Subscript o i pos) X.env v = (do
   let ov ← holding [v] (eval o X.env)
   let iv ← holding [v, ov] (eval i X.env)
   standAt pos
   holding [v, ov, iv] (setItem ov iv v)
   release [v, ov, iv] []) := by intro _; rfl) : PG X (.Subscript o i pos) (gSub to ti t) := by
 intro pins s σ H v u Q I r h; rw [ha]; refine wpAny_bind (wpAny_holding (thn (ho pins s σ H _ I h) fun ov s1 ⟨x, H1, I1, r1, q1⟩ => ?_)); refine wpAny_bind (wpAny_holding (thn (hi pins s1 σ H1 _ I1 q1) fun iv s2 ⟨y, H2, I2, r2, q2⟩ => ?_)); refine wpAny_bind (wpAny_standAt (wpAny_bind (wpAny_holding (thn (hs pins s2 σ H2 x y v ov iv u _ I2 r1 r2 r q2) fun _ s3 ⟨H3, I3, q3⟩ => ?_)))); exact wpAny_release ⟨σ, H3, I3, q3⟩
def tAsg (te : TE) (g : TG) : TS := fun D σ H => te σ H fun x H1 => g x σ H1 D.nx
theorem ps_asg {tg e : Expr} {te : TE} {g : TG} (he : PE X e te) (hg : PG X tg g) (hs : swapsWithSole [tg] e pos.line X.env = pure false := by rfl) (hw : swappedStores [tg] e X.env = pure none := by rfl)
  (h1 : (assignEach [tg] X.env).map (·.2) = [assign tg X.env] := by rfl) : PS X (.Assign [tg] e pos) (tAsg te g) := by
 intro pins s σ H D I h; refine wpAny_Assign_stores (thn (he pins s σ H _ I h) fun v s1 ⟨x, H1, I1, r1, q1⟩ => ?_) hs hw; rw [h1]; exact thn (hg pins s1 σ H1 x v _ I1 r1 q1) fun _ s2 q => q
theorem ps_set {i : Nat} {x : Str} {e : Expr} {te : TE} {pos' : Pos} (hN : X.N.Nodup) (hi : X.N[i]? = some x) (hx : Loc X.env.scope x) (he : PE X e te) (hs : swapsWith e (some (.Name x pos')) pos.line X.env = pure false := by rfl) (hf : X.fn x = true ∨ X.env.scope.names.lookup x = some .local := by first | exact .inl rfl | exact .inr rfl | assumption) :
  PS X (.Assign [.Name x pos'] e pos) (tAsg te (gName i)) := by
 intro pins s σ H D I h; refine wpAny_Assign_Name (thn (he pins s σ H _ I h) fun v s1 ⟨y, H1, I1, r1, q1⟩ => ?_) hs; exact store_ok I1 hN hi hx r1 (fun s2 I2 => ⟨_, H1, I2, q1⟩) hf
def tPar (i j : Nat) (ta : TA) : TS := fun D σ H => ta σ H fun vs H1 => ∃ v w, vs = [v, w] ∧ D.nx ((σ.set i (some v)).set j (some w)) H1
theorem ps_par {i j : Nat} {x y : Str} {a b : Expr} {ta : TA} {px py pt : Pos} {kt k2 pt2} (hc : X.calm = true) (hN : X.N.Nodup) (hi : X.N[i]? = some x) (hj : X.N[j]? = some y) (hij : i ≠ j)
  (hx : X.env.scope.names.lookup x = some .local) (hy : X.env.scope.names.lookup y = some .local) (ha : PA X [a, b] ta)
  (hw : swappedStores [.Tuple [.Name x px, .Name y py] kt pt] (.Tuple [a, b] k2 pt2) X.env = pure (some [x, y]))
  (hs : swapsWithSole [.Tuple [.Name x px, .Name y py] kt pt] (.Tuple [a, b] k2 pt2) pos.line X.env = pure false := by rfl) :
  PS X (.Assign [.Tuple [.Name x px, .Name y py] kt pt] (.Tuple [a, b] k2 pt2) pos) (tPar i j ta) := by
 intro pins s σ H D I h; rw [exec_Assign_arm]; refine wpAny_bind (wpAny_standAt ?_); rw [hs]; refine wpAny_bind (wpAny_pure ?_); rw [if_neg (by decide)]
 refine wpAny_bind (Tuple_ (thn (ha _ pins s σ H _ I h) fun us s1 ⟨vs, H1, I1, r1, q1⟩ => ?_)); obtain ⟨v, w, e1, q1⟩ := q1; subst e1; obtain ⟨u1, u2, rfl, rv, rw'⟩ : ∃ u1 u2, us = [u1, u2] ∧ RelV v u1 ∧ RelV w u2 := by
  cases r1 with
  | cons p q =>
   cases q with
   | cons p' q' =>
    cases q'
    exact ⟨_, _, rfl, p, p'⟩
 refine wpAny_newObj_type ?_ (by show 2 ≤ sizeLine; decide)
 have I2 : Inv X pins σ H1 { s1 with heap := s1.heap.push { cls := .type "tuple", data := .seq [u1, u2].toArray } } := I1.kept (t' := s1.toks) fun b o e => Heap.get?_push_of_some _ e
 rw [hw]; refine wpAny_bind (wpAny_pure ?_); show wpAny (model X.prog X.w) X.A (do rule "assign.swapped-stores"; let items ← unpackItems (.ref s1.heap.objs.size) 2 none; assignInOrder [fun v => bindName X.env y v, fun v => bindName X.env x v] items.reverse; pure Flow.next) _ _ _
 refine wpAny_bind (wpAny_rule (wpAny_bind (unpackItems_tuple (items := #[u1, u2]) (I.ok.hd hc) (IsTup.new s1.heap _) fun h' hx' => ?_))); have I3 := I2.kept (h' := h') (t' := s1.toks) fun b o e => hx' b o (Nat.ne_of_lt (Heap.lt_size e)) e
 show wpAny _ _ (assignInOrder [fun v => bindName X.env y v, fun v => bindName X.env x v] [u2, u1] >>= fun _ => pure Flow.next) _ _ _
 refine wpAny_bind (assignInOrder_cons (wpAny_bindName (store_ok I3 hN hj (.inl hy) rw' (fun s2 I4 => ?_) (.inr hy)))); refine assignInOrder_cons (wpAny_bindName (store_ok I4 hN hi (.inl hx) rv (fun s3 I5 => assignInOrder_nil (wpAny_pure ?_)) (.inr hx))); rw [List.set_comm _ _ (Ne.symm hij)] at I5; exact ⟨_, H1, I5, q1⟩
end
section
variable {X : Cx} {pos : Pos}
def tWhile (c : TT) (tb : TS) : TS := fun D σ H => ∃ W : Nat → St → Hp → Prop, (∃ m, W m σ H) ∧ ∀ m σ H, W m σ H →
 c σ H fun b H1 => if b = true then ∃ N : St → Hp → Prop, (∀ σ' H', N σ' H' → ∃ m', m' < m ∧ W m' σ' H') ∧ tb { D with nx := N, ct := N, bk := D.nx } σ H1 else D.nx σ H1
theorem ps_while {c : Expr} {body : List Stmt} {tc : TT} {tb : TS} (hp : PassesOwn (model X.prog X.w) X.A X.env X.xe) (hc : PT X c tc) (hb : PSs X body tb) : PS X (.While c body [] pos) (tWhile tc tb) := by
 intro pins s σ H D I h; obtain ⟨W, ⟨m0, w0⟩, turn⟩ := h; refine wpAny_While (codeAny_whileLoop (fun n s' => ∃ σ' H', Inv X pins σ' H' s' ∧ W n σ' H') ?_ m0 ⟨σ, H, I, w0⟩); rintro n s1 ⟨σ1, H1, I1, w1⟩; refine wpAny_passesOwn hp (thn (hc pins s1 σ1 H1 _ I1 (turn n σ1 H1 w1)) fun b s2 ⟨H2, I2, q2⟩ => ?_)
 cases b with
 | true =>
  obtain ⟨N, hN, q2⟩ := q2; rw [if_pos rfl]; refine wpAny_passesOwn hp (thn (hb pins s2 σ1 H2 _ I2 q2) fun f s3 q3 => ?_)
  cases f with
  | next =>
   obtain ⟨σ3, H3, I3, n3⟩ := q3; obtain ⟨m', hm, w3⟩ := hN σ3 H3 n3; exact ⟨m', hm, σ3, H3, I3, w3⟩
  | cont =>
   obtain ⟨σ3, H3, I3, n3⟩ := q3; obtain ⟨m', hm, w3⟩ := hN σ3 H3 n3; exact ⟨m', hm, σ3, H3, I3, w3⟩
  | brk => exact q3
  | ret v => exact q3
 | false =>
  rw [if_neg Bool.false_ne_true]; exact wpAny_execs_nil ⟨σ1, H2, I2, q2⟩
end
structure It where
 go : Nat → Hp → Prop
 yld : Nat → Hp → V → Hp → Prop
 stop : Nat → Hp → Prop
def FpOk (X : Cx) (pins : List (Addr × Obj)) (H : Hp) (b : Addr) : Prop :=
 H b = none ∧ b ≠ X.env.locals ∧ b ∉ X.fs ∧ (b ∈ X.ex ∨ X.s₀.heap.objs.size ≤ b) ∧ (∀ x c, X.env.cells.lookup x = some c → c ≠ b) ∧ ∀ p ∈ X.pn ++ pins, p.1 ≠ b
theorem Inv.fpOk {X : Cx} {pins : List (Addr × Obj)} {σ : St} {H H' : Hp} {s : Shared} {b : Addr} (I : Inv X pins σ H s) (hb : s.heap.objs.size ≤ b) (hn : H' b = none) : FpOk X pins H' b := by
 refine ⟨hn, Nat.ne_of_gt (Nat.lt_of_lt_of_le I.lt hb), I.nofs hb, .inr (Nat.le_trans I.sz hb), fun x c e z => ?_, fun p hp z => ?_⟩
 ·obtain ⟨v, q⟩ := I.cell x c e; exact absurd (Nat.lt_of_lt_of_le q.lt (by rw [z]; exact hb)) (Nat.lt_irrefl _)
 ·exact absurd (Nat.lt_of_lt_of_le (Heap.lt_size (I.pin p hp).1) (by rw [z]; exact hb)) (Nat.lt_irrefl _)
structure Turn (P : Program) (w : World) (K : PySem.W.Frag) (tg : Expr) (J : It) (fp : List Addr) (it : Addr) (tn : Nat → Heap → Prop) : Prop where
 mem : it ∈ fp
 obj : ∀ i h, tn i h → ∀ b ∈ fp, ∃ o, h.get? b = some o ∧ ∀ v, o.data ≠ .cell v
 keep : ∀ i h h', tn i h → (∀ b ∈ fp, ∀ o, h.get? b = some o → h'.get? b = some o) → tn i h'
 item : ∀ (X : Cx), X.prog = P → X.w = w → X.K = K → X.calm = true → ∀ (i : Nat) (pins : List (Addr × Obj)) (s : Shared) (σ : St) (H : Hp) (E : Value → Shared → Prop), Inv X pins σ H s → (∀ b ∈ fp, FpOk X pins H b) → tn i s.heap → J.go i H →
  wpAny (model P w) X.A (pyNext (.ref it)) (fun r s1 => ∃ u, r = some u ∧
   wpAny (model P w) X.A (letOwnedTupleGo tg (.ref it) u) (fun _ s2 => ∃ x H', Inv X pins σ H' s2 ∧ RelV x u ∧ J.yld i H x H' ∧ tn (i + 1) s2.heap ∧ ∀ b ∈ fp, H' b = none) E s1) E s
 done : ∀ (X : Cx), X.prog = P → X.w = w → X.K = K → X.calm = true → ∀ (i : Nat) (pins : List (Addr × Obj)) (s : Shared) (σ : St) (H : Hp) (E : Value → Shared → Prop), Inv X pins σ H s → (∀ b ∈ fp, FpOk X pins H b) → tn i s.heap → J.stop i H →
  wpAny (model P w) X.A (pyNext (.ref it)) (fun r s1 => r = none ∧ Inv X pins σ H s1) E s
 self : ∀ (A : Around) (i : Nat) (s : Shared) (Q : Value → Shared → Prop) (E : Value → Shared → Prop), tn i s.heap → Q (.ref it) s → wpAny (model P w) A (pyIter (.ref it)) Q E s
abbrev TI := St → Hp → (It → Hp → Prop) → Prop
def PIE (X : Cx) (pins : List (Addr × Obj)) (σ : St) (tg : Expr) (R : It → Hp → Prop) (itv : Value) (s2 : Shared) : Prop :=
 ∃ (it : Addr) (fp : List Addr) (tn : Nat → Heap → Prop) (J : It) (H' : Hp), itv = .ref it ∧ Inv X pins σ H' s2 ∧ Turn X.prog X.w X.K tg J fp it tn ∧ tn 0 s2.heap ∧ (∀ b ∈ fp, FpOk X pins H' b) ∧ R J H'
def PI (X : Cx) (tg iter : Expr) (wi : TI) : Prop :=
 ∀ (pins : List (Addr × Obj)) (s : Shared) (σ : St) (H : Hp) (R : It → Hp → Prop), Inv X pins σ H s → wi σ H R →
  wpAny (model X.prog X.w) X.A (eval iter X.env) (fun v s1 => wpAny (model X.prog X.w) X.A (pyIter v) (PIE X pins σ tg R) X.xe s1) X.xe s
theorem go_of {M : Model} {A : Around} {E : Value → Shared → Prop} {s : Shared} {tg : Expr} {it : Addr} {u : Value} {o : Obj} {n : String} {vs : Array Value} {Q : Unit → Shared → Prop} (ho : s.heap.get? it = some o) (hc : o.cls = .type n) (hd : o.data = .fields vs)
  (hn : ["enumerate", "zip", "dict_itemiterator", "dict_reverseitemiterator", "odict_iterator", "itertools.zip_longest", "itertools.pairwise"].contains n = false) (hQ : Q () s) : wpAny M A (letOwnedTupleGo tg (.ref it) u) Q E s := by
 unfold letOwnedTupleGo
 cases tg <;> first
  | exact wpAny_pure hQ
  | (cases u <;> first
    | exact wpAny_pure hQ
    | (refine wpAny_bind (wpAny_load ho ?_)
       rw [hc, hd]; show wpAny M A (if (["enumerate", "zip", "dict_itemiterator", "dict_reverseitemiterator", "odict_iterator", "itertools.zip_longest", "itertools.pairwise"].contains n && vs[0]? == some (rawInt _)) = true then _ else _) Q E s
       rw [if_neg (by intro h; rw [hn, Bool.false_and] at h; cases h)]
       exact wpAny_pure hQ))
def Itl (K : PySem.W.Frag) (a : Addr) : It :=
 ⟨fun i H => ∃ xs x, SqL K H a xs ∧ xs[i]? = some x, fun i H x H' => H' = H ∧ ∀ xs, SqL K H a xs → xs[i]? = some x, fun i H => ∃ xs, SqL K H a xs ∧ xs.length ≤ i⟩
def Itt (K : PySem.W.Frag) (a : Addr) : It :=
 ⟨fun i H => ∃ xs x, SqT K H a xs ∧ xs[i]? = some x, fun i H x H' => H' = H ∧ ∀ xs, SqT K H a xs → xs[i]? = some x, fun i H => ∃ xs, SqT K H a xs ∧ xs.length ≤ i⟩
def Itr (lo : Int) (n : Nat) : It := ⟨fun i _ => i < n, fun i H x H' => H' = H ∧ x = .int (lo + i), fun i _ => n ≤ i⟩
theorem turn_list {P : Program} {w : World} {K : PySem.W.Frag} {tg : Expr} (a it : Addr) : Turn P w K tg (Itl K a) [it] it (fun i h => h.IsListIter it a i) where
 mem := by simp
 obj := fun i h st b hb => by
  have e : b = it := by simpa using hb
  subst e; obtain ⟨o, e, c, d⟩ := st; exact ⟨o, e, fun v z => by rw [d] at z; cases z⟩
 keep := fun i h h' st k => st.at fun o e => k it (by simp) o e
 item := by
  intro X hP hw hK hc i pins s σ H E I hf st hg; subst hP hw hK; obtain ⟨xs, x, hq, hx⟩ := hg; obtain ⟨its, rv, p, hz⟩ := I.list hq; obtain ⟨u, hu, ru⟩ := rv.get hx; obtain ⟨f0, f1, f2, f3, f4, f5⟩ := hf it (by simp)
  refine wpAny_pyNext_list_item st p.isList (x := u) (by simpa using hu) fun h' st' sb => ?_
  have I1 : Inv X pins σ H { s with heap := h' } := I.turned (t' := s.toks) (fun b o hb e => (sb.2 b hb).trans e) f0 f1 f3 f4 f5
  obtain ⟨o, e, c, d⟩ := id st'; exact ⟨u, rfl, go_of (s := { s with heap := h' }) e c d (by decide) ⟨x, H, I1, ru, ⟨rfl, fun ys hy => by rw [I.list_inj hy hq]; exact hx⟩, st', fun b hb => (hf b hb).1⟩⟩
 done := by
  intro X hP hw hK hc i pins s σ H E I hf st hg; subst hP hw hK; obtain ⟨xs, hq, hx⟩ := hg; obtain ⟨its, rv, p, hz⟩ := I.list hq; obtain ⟨f0, f1, f2, f3, f4, f5⟩ := hf it (by simp)
  have hl := rv.length
  exact wpAny_pyNext_list_end (I.ok.hd hc) st p.isList (by simp; omega) fun h' eb => ⟨rfl, I.turned (t' := s.toks) (fun b o hb e => eb b o hb e) f0 f1 f3 f4 f5⟩
 self := fun _ _ _ _ _ st h => wpAny_pyIter_listiter st h
theorem turn_tuple {P : Program} {w : World} {K : PySem.W.Frag} {tg : Expr} (a it : Addr) : Turn P w K tg (Itt K a) [it] it (fun i h => h.IsTupleIter it a i) where
 mem := by simp
 obj := fun i h st b hb => by
  have e : b = it := by simpa using hb
  subst e; obtain ⟨o, e, c, d⟩ := st; exact ⟨o, e, fun v z => by rw [d] at z; cases z⟩
 keep := fun i h h' st k => st.at fun o e => k it (by simp) o e
 item := by
  intro X hP hw hK hc i pins s σ H E I hf st hg; subst hP hw hK; obtain ⟨xs, x, hq, hx⟩ := hg; obtain ⟨its, rv, p, hz⟩ := I.tuple hq; obtain ⟨u, hu, ru⟩ := rv.get hx; obtain ⟨f0, f1, f2, f3, f4, f5⟩ := hf it (by simp)
  refine wpAny_pyNext_tuple_item st (show s.heap.IsTuple a its.toArray from p) (x := u) (by simpa using hu) fun h' st' sb => ?_
  have I1 : Inv X pins σ H { s with heap := h' } := I.turned (t' := s.toks) (fun b o hb e => (sb.2 b hb).trans e) f0 f1 f3 f4 f5
  obtain ⟨o, e, c, d⟩ := id st'; exact ⟨u, rfl, go_of (s := { s with heap := h' }) e c d (by decide) ⟨x, H, I1, ru, ⟨rfl, fun ys hy => by rw [I.tuple_inj hy hq]; exact hx⟩, st', fun b hb => (hf b hb).1⟩⟩
 done := by
  intro X hP hw hK hc i pins s σ H E I hf st hg; subst hP hw hK; obtain ⟨xs, hq, hx⟩ := hg; obtain ⟨its, rv, p, hz⟩ := I.tuple hq; obtain ⟨f0, f1, f2, f3, f4, f5⟩ := hf it (by simp)
  have hl := rv.length
  exact wpAny_pyNext_tuple_end (I.ok.hd hc) st (show s.heap.IsTuple a its.toArray from p) (by simp; omega) fun h' eb => ⟨rfl, I.turned (t' := s.toks) (fun b o hb e => eb b o hb e) f0 f1 f3 f4 f5⟩
 self := fun _ _ _ _ _ st h => wpAny_pyIter_tupleiter st h
theorem turn_range {P : Program} {w : World} {K : PySem.W.Frag} {tg : Expr} (it : Addr) (lo : Int) (n : Nat) : Turn P w K tg (Itr lo n) [it] it (fun i h => IsRangeIter h it (lo + (i : Nat) * 1) ((n : Int) - (i : Nat)) 1) where
 mem := by simp
 obj := fun i h st b hb => by
  have e : b = it := by simpa using hb
  subst e; exact ⟨_, st, fun v z => by
   have z' : Data.fields _ = Data.cell v := z
   cases z'⟩
 keep := fun i h h' st k => k it (by simp) _ st
 item := by
  intro X hP hw hK hc i pins s σ H E I hf st hg; subst hP hw hK; obtain ⟨f0, f1, f2, f3, f4, f5⟩ := hf it (by simp)
  have W := Walks.range (prog := X.prog) (w := X.w) (I.ok.hd hc) it lo 1 n
  refine W.item i s _ _ hg st fun v h' tk hv st' kk => ?_; obtain ⟨t, rfl⟩ := hv; have I1 : Inv X pins σ H { s with heap := h', toks := tk } := I.turned (fun b o hb e => kk b o (by simpa using hb) e) f0 f1 f3 f4 f5
  refine ⟨_, rfl, go_of (s := { s with heap := h', toks := tk }) (n := "range_iterator") st' rfl rfl (by decide) ⟨.int (lo + i), H, I1, ⟨t, ?_⟩, ⟨rfl, rfl⟩, st', fun b hb => (hf b hb).1⟩⟩
  rw [Int.mul_one]
 done := by
  intro X hP hw hK hc i pins s σ H E I hf st hg; subst hP hw hK; obtain ⟨f0, f1, f2, f3, f4, f5⟩ := hf it (by simp)
  exact wpAny_pyNext_range_end (I.ok.hd hc) st (by have : n ≤ i := hg; omega) fun h' eb => ⟨rfl, I.turned (t' := s.toks) (fun b o hb e => eb b o hb e) f0 f1 f3 f4 f5⟩
 self := fun _ _ _ _ _ st h => wpAny_pyIter_rangeiter st h
end L2
namespace L2
open PySem PySem.Spec PyProof.Rows
section
variable {X : Cx} {tg : Expr}
theorem range_it {pins : List (Addr × Obj)} {σ : St} {H : Hp} {s : Shared} {R : It → Hp → Prop} {E : Value → Shared → Prop} {lo hi : Int} {t u v : Tok} {tk : Nat} (I : Inv X pins σ H s) (h1 : -(2 ^ 62) ≤ lo) (h2 : lo < 2 ^ 62) (h3 : -(2 ^ 62) ≤ hi) (h4 : hi < 2 ^ 62)
  (q : R (Itr lo (hi - lo).toNat) H) : wpAny (model X.prog X.w) X.A (pyIter (.ref s.heap.objs.size)) (PIE X pins σ tg R) E { s with heap := s.heap.push { cls := .type "range", data := .fields #[.int lo t, .int hi u, .int 1 v] }, toks := tk } := by
 refine wpAny_pyIter_range (IsRange.new ..) (small_one h1 h2 h3 h4) ?_; have I1 : Inv X pins σ H { s with heap := s.heap.push { cls := .type "range", data := .fields #[.int lo t, .int hi u, .int 1 v] }, toks := tk } := I.kept fun b o e => Heap.get?_push_of_some _ e
 refine ⟨(s.heap.push { cls := .type "range", data := .fields #[.int lo t, .int hi u, .int 1 v] }).objs.size, [(s.heap.push { cls := .type "range", data := .fields #[.int lo t, .int hi u, .int 1 v] }).objs.size], _, _, H, rfl,
  I1.kept (t' := tk) fun b o e => Heap.get?_push_of_some _ e, turn_range _ lo (hi - lo).toNat, ?_, fun b hb => ?_, q⟩
 ·have e1 : lo + ((0 : Nat) : Int) * 1 = lo := by simp
  have e2 : (((hi - lo).toNat : Nat) : Int) - ((0 : Nat) : Int) = Builtin.Range.rangeSize lo hi 1 := by rw [rangeSize_one]; split <;> omega
  show IsRangeIter _ _ (lo + ((0 : Nat) : Int) * 1) ((((hi - lo).toNat : Nat) : Int) - ((0 : Nat) : Int)) 1
  rw [e1, e2]; exact Heap.get?_push_size _ rfl
 ·have e : b = (s.heap.push { cls := .type "range", data := .fields #[.int lo t, .int hi u, .int 1 v] }).objs.size := by simpa using hb
  subst e; exact I1.fpOk (Nat.le_refl _) (I1.hok.fresh (Nat.le_refl _))
def iRng1 (ta : TA) : TI := fun σ H R => ta σ H fun vs H1 => ∃ j : Int, vs = [.int j] ∧ -(2 ^ 62) ≤ j ∧ j < 2 ^ 62 ∧ R (Itr 0 j.toNat) H1
theorem pi_range1 {a : Expr} {ta : TA} {p pos : Pos} (hg : Gl X "range") (hm : X.mg "range" = none) (ha : PA X [a] ta) (hs : starEach [a] X.env = [(false, eval a X.env)] := by rfl) : PI X tg (.Call (.Name "range" p) [a] [] pos) (iRng1 ta) := by
 intro pins s σ H R I h; refine Call_ (ld_blt I hg hm boot_range (PyProof.Rows.callWith_type1 (thn (ha pos pins s σ H _ I h) fun us s1 ⟨vs, H1, I1, r1, q1⟩ => ?_) hs rfl)); obtain ⟨j, e, q1, q2, q⟩ := q1; subst e
 cases r1 with
 | cons r rr =>
  cases rr
  obtain ⟨t, rfl⟩ := r; exact call_range_1 (range_it I1 (by omega) (by omega) q1 q2 (by simpa using q))
def tFor (wi : TI) (g : TG) (tb : TS) : TS := fun D σ H => wi σ H fun J H1 => ∃ W : Nat → Nat → St → Hp → Prop, (∃ m, W 0 m σ H1) ∧ ∀ i m σ H, W i m σ H →
 (J.stop i H ∧ D.nx σ H) ∨ (J.go i H ∧ ∃ N : St → Hp → Prop, (∀ σ' H', N σ' H' → ∃ m', m' < m ∧ W (i + 1) m' σ' H') ∧ ∀ x H', J.yld i H x H' → g x σ H' fun σ2 H2 => tb { D with nx := N, ct := N, bk := D.nx } σ2 H2)
def pinsAt (fp : List Addr) (h : Heap) : List (Addr × Obj) := fp.filterMap fun b => (h.get? b).map fun o => (b, o)
theorem mem_pinsAt {fp : List Addr} {h : Heap} {b : Addr} {o : Obj} (hb : b ∈ fp) (e : h.get? b = some o) : (b, o) ∈ pinsAt fp h := List.mem_filterMap.mpr ⟨b, hb, by rw [e]; rfl⟩
theorem of_pinsAt {fp : List Addr} {h : Heap} {p : Addr × Obj} (hp : p ∈ pinsAt fp h) : p.1 ∈ fp ∧ h.get? p.1 = some p.2 := by
 obtain ⟨b, hb, e⟩ := List.mem_filterMap.mp hp
 cases q : h.get? b with
 | none => rw [q] at e; cases e
 | some o =>
  rw [q] at e; have e' : (b, o) = p := Option.some.inj e
  subst e'; exact ⟨hb, q⟩
theorem Inv.pinned {pins : List (Addr × Obj)} {σ : St} {H : Hp} {s : Shared} {fp : List Addr} (I : Inv X pins σ H s) (hf : ∀ b ∈ fp, FpOk X pins H b) (ho : ∀ b ∈ fp, ∃ o, s.heap.get? b = some o ∧ ∀ v, o.data ≠ .cell v) : Inv X (pins ++ pinsAt fp s.heap) σ H s :=
 I.pins_of fun p hp => (List.mem_append.mp hp).elim (fun z => I.pin p (List.mem_append_right _ z)) fun z => by
  obtain ⟨hb, e⟩ := of_pinsAt z; obtain ⟨f0, f1, f2, _⟩ := hf p.1 hb; obtain ⟨o, e', d⟩ := ho p.1 hb; rw [e] at e'; cases e'; exact ⟨e, f0, f1, f2, d⟩
theorem Inv.unpinned {pins pl : List (Addr × Obj)} {σ : St} {H : Hp} {s : Shared} (I : Inv X (pins ++ pl) σ H s) : Inv X pins σ H s := I.pins_of fun p hp => I.pin p (List.mem_append_right _ (List.mem_append_left _ hp))
theorem ps_for {iter : Expr} {body : List Stmt} {wi : TI} {g : TG} {tb : TS} {pos : Pos} (hp : PassesOwn (model X.prog X.w) X.A X.env X.xe) (hc : X.calm = true) (hi : PI X tg iter wi) (hg : PG X tg g) (hb : PSs X body tb)
  (hs : ∀ x, foldedSetIterable iter X.env x = pure x := by intro _; rfl) : PS X (.For tg iter body [] pos) (tFor wi g tb) := by
 intro pins s σ H D I h; refine wpAny_For (thn (hi pins s σ H _ I h) fun v s1 h1 => thn h1 fun itv s2 h2 => ?_) hs; obtain ⟨it, fp, tn, J, H2, e, I2, T, st2, f2, W, ⟨m0, w0⟩, turn⟩ := h2; subst e
 -- what stays true of the iterator's objects through the loop
 have stat : ∀ {H' : Hp}, (∀ b ∈ fp, H' b = none) → ∀ b ∈ fp, FpOk X pins H' b := fun hn b hb => ⟨hn b hb, (f2 b hb).2⟩
 refine codeAny_forLoop_any (fun n s' => ∃ i σ' H', Inv X pins σ' H' s' ∧ tn i s'.heap ∧ (∀ b ∈ fp, H' b = none) ∧ W i n σ' H') ?_ m0 ⟨0, σ, H2, I2, st2, fun b hb => (f2 b hb).1, w0⟩; rintro n s3 ⟨i, σ3, H3, I3, st3, fr3, w3⟩; rcases turn i n σ3 H3 w3 with ⟨stop, qn⟩ | ⟨go, N, hN, step⟩
 ·refine wpAny_passesOwn hp (thn (T.done X rfl rfl rfl hc i pins s3 σ3 H3 X.xe I3 (stat fr3) st3 stop) fun r s4 ⟨hr, I4⟩ => ?_); subst hr; exact wpAny_execs_nil ⟨σ3, H3, I4, qn⟩
 ·refine wpAny_passesOwn hp (thn (T.item X rfl rfl rfl hc i pins s3 σ3 H3 X.xe I3 (stat fr3) st3 go) fun r s4 ⟨u, hr, h4⟩ => ?_); subst hr; refine wpAny_passesOwn hp (thn h4 fun _ s5 ⟨x, H5, I5, r5, y5, st5, fr5⟩ => ?_); have I5' := I5.pinned (stat fr5) (T.obj _ _ st5)
  refine wpAny_passesOwn hp (thn (hg _ s5 σ3 H5 x u _ I5' r5 (step x H5 y5)) fun _ s6 ⟨σ6, H6, I6, q6⟩ => ?_); refine wpAny_passesOwn hp (thn (hb _ s6 σ6 H6 _ I6 q6) fun f s7 q7 => ?_); have again : ∀ {σ7 : St} {H7 : Hp}, Inv X (pins ++ pinsAt fp s5.heap) σ7 H7 s7 → N σ7 H7 → ∃ m, m < n ∧ ∃ i σ' H', Inv X pins σ' H' s7 ∧ tn i s7.heap ∧ (∀ b ∈ fp, H' b = none) ∧ W i m σ' H' := fun {σ7 H7} I7 n7 => by
   obtain ⟨m', hm, w7⟩ := hN σ7 H7 n7; refine ⟨m', hm, i + 1, σ7, H7, I7.unpinned, T.keep _ _ _ st5 fun b hb o e => (I7.pin (b, o) (List.mem_append_right _ (List.mem_append_right _ (mem_pinsAt hb e)))).1, fun b hb => ?_, w7⟩; obtain ⟨o, e, d⟩ := T.obj _ _ st5 b hb; exact (I7.pin (b, o) (List.mem_append_right _ (List.mem_append_right _ (mem_pinsAt hb e)))).2.1
  cases f with
  | next => obtain ⟨σ7, H7, I7, n7⟩ := q7; exact again I7 n7
  | cont => obtain ⟨σ7, H7, I7, n7⟩ := q7; exact again I7 n7
  | brk => obtain ⟨σ7, H7, I7, q7⟩ := q7; exact ⟨σ7, H7, I7.unpinned, q7⟩
  | ret v => obtain ⟨x7, σ7, H7, I7, r7, q7⟩ := q7; exact ⟨x7, σ7, H7, I7.unpinned, r7, q7⟩
end
end L2
namespace L2
open PySem PySem.Spec PyProof.Rows
abbrev R2 := V → V → Hp → VK → Prop
def OpR (X : Cx) (f : Value → Value → Sem Value) (r : R2) : Prop :=
 ∀ (pins : List (Addr × Obj)) (s : Shared) (σ : St) (H : Hp) (x y : V) (v u : Value) (Q : VK), Inv X pins σ H s → RelV x v → RelV y u → r x y H Q →
  wpAny (model X.prog X.w) X.A (f v u) (EP X pins σ Q) X.xe s
def UnR (X : Cx) (f : Value → Sem Value) (r : V → Hp → VK → Prop) : Prop :=
 ∀ (pins : List (Addr × Obj)) (s : Shared) (σ : St) (H : Hp) (x : V) (v : Value) (Q : VK), Inv X pins σ H s → RelV x v → r x H Q →
  wpAny (model X.prog X.w) X.A (f v) (EP X pins σ Q) X.xe s
def CallR (X : Cx) (f : Value) (r : List V → Hp → VK → Prop) : Prop :=
 ∀ (pins : List (Addr × Obj)) (s : Shared) (σ : St) (H : Hp) (xs : List V) (us : List Value) (Q : VK), Inv X pins σ H s → Vals xs us → r xs H Q →
  wpAny (model X.prog X.w) X.A (call f us) (EP X pins σ Q) X.xe s
def tOp (r : R2) (ta tb : TE) : TE := fun σ H Q => ta σ H fun x H1 => tb σ H1 fun y H2 => r x y H2 Q
def tUn (r : V → Hp → VK → Prop) (ta : TE) : TE := fun σ H Q => ta σ H fun x H1 => r x H1 Q
def rI (C : Int → Int → Prop) (g : Int → Int → V) : R2 := fun x y H Q => ∃ i j, x = .int i ∧ y = .int j ∧ C i j ∧ Q (g i j) H
def rI0 (g : Int → Int → V) : R2 := fun x y H Q => ∃ i j, x = .int i ∧ y = .int j ∧ Q (g i j) H
def rU (g : Int → V) : V → Hp → VK → Prop := fun x H Q => ∃ i, x = .int i ∧ Q (g i) H
section
variable {X : Cx} {a b c : Expr} {ta tb tc : TE} {pos : Pos}
theorem binT (ha : PE X a ta) (hb : PE X b tb) {pins : List (Addr × Obj)} {s : Shared} {σ : St} {H : Hp} {R : V → V → Hp → Prop} (I : Inv X pins σ H s)
  (h : ta σ H fun x H1 => tb σ H1 fun y H2 => R x y H2) {Q : Value → Shared → Prop} {f : Value → Value → Sem Value}
  (hf : ∀ v u s2 x y H2, Inv X pins σ H2 s2 → RelV x v → RelV y u → R x y H2 → wpAny (model X.prog X.w) X.A (f v u) Q X.xe s2) :
  wpAny (model X.prog X.w) X.A (eval a X.env) (fun v s₁ => wpAny (model X.prog X.w) X.A (eval b X.env) (fun u s₂ => wpAny (model X.prog X.w) X.A (f v u) Q X.xe s₂) X.xe s₁) X.xe s := by
 refine thn (ha pins s σ H _ I h) fun v s1 ⟨x, H1, I1, r1, q1⟩ => ?_; refine thn (hb pins s1 σ H1 _ I1 q1) fun u s2 ⟨y, H2, I2, r2, q2⟩ => ?_; exact hf v u s2 x y H2 I2 r1 r2 q2
theorem pe_un {op : UnaryOp} {r : V → Hp → VK → Prop} (ho : UnR X (unaryOp op) r) (ha : PE X a ta) : PE X (.UnaryOp op a pos) (tUn r ta) := by
 intro pins s σ H Q I h; exact UnaryOp_ (thn (ha pins s σ H _ I h) fun v s1 ⟨x, H1, I1, r1, q1⟩ => ho pins s1 σ H1 x v Q I1 r1 q1)
theorem opI {f : Value → Value → Sem Value} {C : Int → Int → Prop} {g : Int → Int → Int}
  (rule : ∀ (i j : Int) (t u : Tok) (s : Shared) (Q : Value → Shared → Prop) (E : Value → Shared → Prop), C i j → Q (.int (g i j) s.toks) { s with toks := s.toks + 1 } → wpAny (model X.prog X.w) X.A (f (.int i t) (.int j u)) Q E s) :
  OpR X f (rI C fun i j => .int (g i j)) := by
 intro pins s σ H x y v u Q I rx ry h; obtain ⟨i, j, rfl, rfl, hc, q⟩ := h; obtain ⟨t, rfl⟩ := rx; obtain ⟨t', rfl⟩ := ry; exact rule i j t t' s _ _ hc ⟨.int (g i j), H, I.tok _, ⟨_, rfl⟩, q⟩
theorem opI0 {f : Value → Value → Sem Value} {g : Int → Int → Int}
  (rule : ∀ (i j : Int) (t u : Tok) (s : Shared) (Q : Value → Shared → Prop) (E : Value → Shared → Prop), Q (.int (g i j) s.toks) { s with toks := s.toks + 1 } → wpAny (model X.prog X.w) X.A (f (.int i t) (.int j u)) Q E s) :
  OpR X f (rI0 fun i j => .int (g i j)) := by
 intro pins s σ H x y v u Q I rx ry h; obtain ⟨i, j, rfl, rfl, q⟩ := h; obtain ⟨t, rfl⟩ := rx; obtain ⟨t', rfl⟩ := ry; exact rule i j t t' s _ _ ⟨.int (g i j), H, I.tok _, ⟨_, rfl⟩, q⟩
theorem opB0 {f : Value → Value → Sem Value} {g : Int → Int → Bool}
  (rule : ∀ (i j : Int) (t u : Tok) (s : Shared) (Q : Value → Shared → Prop) (E : Value → Shared → Prop), Q (.bool (g i j)) s → wpAny (model X.prog X.w) X.A (f (.int i t) (.int j u)) Q E s) :
  OpR X f (rI0 fun i j => .bl (g i j)) := by
 intro pins s σ H x y v u Q I rx ry h; obtain ⟨i, j, rfl, rfl, q⟩ := h; obtain ⟨t, rfl⟩ := rx; obtain ⟨t', rfl⟩ := ry; exact rule i j t t' s _ _ ⟨.bl (g i j), H, I, rfl, q⟩
def CPow (i j : Int) : Prop := 0 ≤ j ∧ j ≤ 1000000 ∧ i.natAbs < 2 ^ 64
def CMul (i j : Int) : Prop := (-(2 ^ 64) < i ∧ i < 2 ^ 64) ∨ (-(2 ^ 64) < j ∧ j < 2 ^ 64)
theorem CMul.ok {i j : Int} (h : CMul i j) : IntMulOk i j := by
 rcases h with ⟨h1, h2⟩ | ⟨h1, h2⟩
 ·exact .of_left (intBits_le_64 h1 h2)
 ·exact .of_right (intBits_le_64 h1 h2)
theorem op_add : OpR X (binaryOp .Add) (rI0 fun i j => .int (i + j)) := opI0 fun _ _ _ _ _ _ _ q => add_int q
theorem op_sub : OpR X (binaryOp .Sub) (rI0 fun i j => .int (i - j)) := opI0 fun _ _ _ _ _ _ _ q => sub_int q
theorem op_modN : OpR X (binaryOp .Mod) (rI (fun _ j => j ≠ 0) fun i j => .int (i.fmod j)) := opI fun _ _ _ _ _ _ _ hc q => mod_int' hc q
theorem op_pow : OpR X (binaryOp .Pow) (rI CPow fun i j => .int (i ^ j.toNat)) := opI fun _ _ _ _ _ _ _ hc q => pow_int_small hc.1 hc.2.1 hc.2.2 q
theorem unI {f : Value → Sem Value} {g : Int → Int}
  (rule : ∀ (i : Int) (t : Tok) (s : Shared) (Q : Value → Shared → Prop) (E : Value → Shared → Prop), Q (.int (g i) s.toks) { s with toks := s.toks + 1 } → wpAny (model X.prog X.w) X.A (f (.int i t)) Q E s) :
  UnR X f (rU fun i => .int (g i)) := by
 intro pins s σ H x v Q I rx h; obtain ⟨i, rfl, q⟩ := h; obtain ⟨t, rfl⟩ := rx; exact rule i t s _ _ ⟨.int (g i), H, I.tok _, ⟨_, rfl⟩, q⟩
theorem un_neg : UnR X (unaryOp .USub) (rU fun i => .int (-i)) := unI fun _ _ _ _ _ q => neg_int q
end
def scal : V → V → Bool
 | .non, .non => true | .non, .int _ => true | .int _, .non => true | .non, .bl _ => true | .bl _, .non => true | .non, .str _ => true | .str _, .non => true
 | .int _, .int _ => true | .bl _, .bl _ => true | .str _, .str _ => true | .byt _, .byt _ => true
 | .int _, .str _ => true | .str _, .int _ => true | .bl _, .str _ => true | .str _, .bl _ => true
 | _, _ => false
def rEq : R2 := fun x y H Q => scal x y = true ∧ Q (.bl (decide (x = y))) H
def rNe : R2 := fun x y H Q => scal x y = true ∧ Q (.bl (!decide (x = y))) H
theorem dec_int {i j : Int} : decide (V.int i = V.int j) = (i == j) := by
 rw [Bool.eq_iff_iff]; simp
theorem dec_bl {i j : Bool} : decide (V.bl i = V.bl j) = (i == j) := by
 rw [Bool.eq_iff_iff]; simp
theorem dec_str {i j : Str} : decide (V.str i = V.str j) = (i == j) := by
 rw [Bool.eq_iff_iff]; simp
theorem dec_byt {i j : Array UInt8} : decide (V.byt i = V.byt j) = (i.toList == j.toList) := by
 rw [Bool.eq_iff_iff]
 cases i
 cases j
 simp
section
variable {X : Cx} {a b c : Expr} {ta tb tc : TE} {pos : Pos}
theorem fin_bl {pins : List (Addr × Obj)} {σ : St} {H : Hp} {s : Shared} {Q : VK} {k k' : Bool} (I : Inv X pins σ H s) (q : Q (.bl k) H) (e : k = k') : EP X pins σ Q (.bool k') s := by
 subst e; exact ⟨.bl k, H, I, rfl, q⟩
theorem op_eq : OpR X (compareOp .Eq) rEq := by
 intro pins s σ H x y v u Q I rx ry h; obtain ⟨hs, q⟩ := h
 cases x with
 | non =>
  cases rx
  cases y with
  | non => cases ry; exact PySem.EqNone.eq_none_none (fin_bl I q (by simp))
  | bl j => cases ry; exact PySem.EqNone.eq_none_bool (fin_bl I q (by simp))
  | int j => obtain ⟨t', rfl⟩ := ry; exact PySem.EqNone.eq_none_int (fin_bl I q (by simp))
  | str j => obtain ⟨t', rfl⟩ := ry; exact PySem.EqNone.eq_none_str (fin_bl I q (by simp))
  | _ => exact absurd (show false = true from hs) Bool.false_ne_true
 | bl i =>
  cases rx
  cases y with
  | non => cases ry; exact PySem.EqNone.eq_bool_none (fin_bl I q (by simp))
  | bl j => cases ry; exact eq_bool (fin_bl I q dec_bl)
  | str j => obtain ⟨t', rfl⟩ := ry; exact PySem.EqMixed.eq_bool_str (fin_bl I q (by simp))
  | _ => exact absurd (show false = true from hs) Bool.false_ne_true
 | int i =>
  obtain ⟨t, rfl⟩ := rx
  cases y with
  | non => cases ry; exact PySem.EqNone.eq_int_none (fin_bl I q (by simp))
  | int j => obtain ⟨t', rfl⟩ := ry; exact eq_int (fin_bl I q dec_int)
  | str j => obtain ⟨t', rfl⟩ := ry; exact PySem.EqMixed.eq_int_str (fin_bl I q (by simp))
  | _ => exact absurd (show false = true from hs) Bool.false_ne_true
 | str i =>
  obtain ⟨t, rfl⟩ := rx
  cases y with
  | non => cases ry; exact PySem.EqNone.eq_str_none (fin_bl I q (by simp))
  | bl j => cases ry; exact PySem.EqMixed.eq_str_bool (fin_bl I q (by simp))
  | int j => obtain ⟨t', rfl⟩ := ry; exact PySem.EqMixed.eq_str_int (fin_bl I q (by simp))
  | str j => obtain ⟨t', rfl⟩ := ry; exact eq_str (fin_bl I q dec_str)
  | _ => exact absurd (show false = true from hs) Bool.false_ne_true
 | byt i =>
  obtain ⟨t, rfl⟩ := rx
  cases y with
  | byt j => obtain ⟨t', rfl⟩ := ry; exact PySem.W.eq_bytes (fin_bl I q dec_byt)
  | _ => exact absurd (show false = true from hs) Bool.false_ne_true
 | _ => cases y <;> exact absurd (show false = true from hs) Bool.false_ne_true
theorem op_ne : OpR X (compareOp .NotEq) rNe := by
 intro pins s σ H x y v u Q I rx ry h; obtain ⟨hs, q⟩ := h
 cases x with
 | non =>
  cases rx
  cases y with
  | non => cases ry; exact PySem.EqNone.ne_none_none (fin_bl I q (by simp))
  | bl j => cases ry; exact PySem.EqNone.ne_none_bool (fin_bl I q (by simp))
  | int j => obtain ⟨t', rfl⟩ := ry; exact PySem.EqNone.ne_none_int (fin_bl I q (by simp))
  | str j => obtain ⟨t', rfl⟩ := ry; exact PySem.EqNone.ne_none_str (fin_bl I q (by simp))
  | _ => exact absurd (show false = true from hs) Bool.false_ne_true
 | bl i =>
  cases rx
  cases y with
  | non => cases ry; exact PySem.EqNone.ne_bool_none (fin_bl I q (by simp))
  | bl j => cases ry; exact ne_bool (fin_bl I q (congrArg not dec_bl))
  | str j => obtain ⟨t', rfl⟩ := ry; exact PySem.EqMixed.ne_bool_str (fin_bl I q (by simp))
  | _ => exact absurd (show false = true from hs) Bool.false_ne_true
 | int i =>
  obtain ⟨t, rfl⟩ := rx
  cases y with
  | non => cases ry; exact PySem.EqNone.ne_int_none (fin_bl I q (by simp))
  | int j => obtain ⟨t', rfl⟩ := ry; exact ne_int (fin_bl I q (congrArg not dec_int))
  | str j => obtain ⟨t', rfl⟩ := ry; exact PySem.EqMixed.ne_int_str (fin_bl I q (by simp))
  | _ => exact absurd (show false = true from hs) Bool.false_ne_true
 | str i =>
  obtain ⟨t, rfl⟩ := rx
  cases y with
  | non => cases ry; exact PySem.EqNone.ne_str_none (fin_bl I q (by simp))
  | bl j => cases ry; exact PySem.EqMixed.ne_str_bool (fin_bl I q (by simp))
  | int j => obtain ⟨t', rfl⟩ := ry; exact PySem.EqMixed.ne_str_int (fin_bl I q (by simp))
  | str j => obtain ⟨t', rfl⟩ := ry; exact ne_str (fin_bl I q (congrArg not dec_str))
  | _ => exact absurd (show false = true from hs) Bool.false_ne_true
 | byt i =>
  obtain ⟨t, rfl⟩ := rx
  cases y with
  | byt j => obtain ⟨t', rfl⟩ := ry; exact PySem.W.ne_bytes (fin_bl I q (congrArg not dec_byt))
  | _ => exact absurd (show false = true from hs) Bool.false_ne_true
 | _ => cases y <;> exact absurd (show false = true from hs) Bool.false_ne_true
theorem op_lt : OpR X (compareOp .Lt) (rI0 fun i j => .bl (decide (i < j))) := opB0 fun _ _ _ _ _ _ _ q => lt_int q
theorem op_le : OpR X (compareOp .LtE) (rI0 fun i j => .bl (decide (i ≤ j))) := opB0 fun _ _ _ _ _ _ _ q => le_int q
theorem op_gt : OpR X (compareOp .Gt) (rI0 fun i j => .bl (decide (j < i))) := opB0 fun _ _ _ _ _ _ _ q => gt_int q
theorem op_ge : OpR X (compareOp .GtE) (rI0 fun i j => .bl (decide (j ≤ i))) := opB0 fun _ _ _ _ _ _ _ q => ge_int q
theorem op_isN : OpR X (compareOp .Is) (fun x y H Q => y = .non ∧ Q (.bl (decide (x = .non))) H) := by
 intro pins s σ H x y v u Q I rx ry h; obtain ⟨rfl, q⟩ := h
 cases ry
 refine is_none_gen (fin_bl I q ?_)
 cases x <;> first
  | (cases rx; rfl)
  | (obtain ⟨t, rfl⟩ := rx; rfl)
theorem OpR.or {f : Value → Value → Sem Value} {r r' : R2} (h : OpR X f r) (h' : OpR X f r') : OpR X f (fun x y H Q => r x y H Q ∨ r' x y H Q) := by
 intro pins s σ H x y v u Q I rx ry q; rcases q with q | q
 ·exact h pins s σ H x y v u Q I rx ry q
 ·exact h' pins s σ H x y v u Q I rx ry q
theorem nomark (b : Expr) {op : CmpOp} (h : op ≠ .In := by decide) (h2 : op ≠ .NotIn := by decide) : behindInMarks op b = false := by
 have e1 : (op == CmpOp.In) = false := by cases op <;> first | rfl | exact absurd rfl h
 have e2 : (op == CmpOp.NotIn) = false := by cases op <;> first | rfl | exact absurd rfl h2
 cases b <;> simp [behindInMarks, e1, e2]
theorem line63 : (sizeLine : Nat) < 2 ^ 63 := by rw [sizeLine_eq]; decide
theorem op_add_str : OpR X (binaryOp .Add) (fun x y H Q => ∃ i j, x = .str i ∧ y = .str j ∧ i.length + j.length ≤ sizeLine ∧ Q (.str (i ++ j)) H) := by
 intro pins s σ H x y v u Q I rx ry h; obtain ⟨i, j, rfl, rfl, hz, q⟩ := h; obtain ⟨t, rfl⟩ := rx; obtain ⟨t', rfl⟩ := ry; exact add_str (fun t' tk => ⟨.str (i ++ j), H, I.tok _, ⟨_, rfl⟩, q⟩) hz
theorem vals1 {x : V} {us : List Value} (r : Vals [x] us) : ∃ u, us = [u] ∧ RelV x u := by
 cases r with
 | cons r1 r2 => cases r2; exact ⟨_, rfl, r1⟩
theorem vals2 {x y : V} {us : List Value} (r : Vals [x, y] us) : ∃ u w', us = [u, w'] ∧ RelV x u ∧ RelV y w' := by
 cases r with
 | cons r1 r2 =>
  cases r2 with
  | cons r3 r4 => cases r4; exact ⟨_, _, rfl, r1, r3⟩
theorem call_abs : CallR X (.builtin "abs") (fun xs H Q => ∃ i, xs = [.int i] ∧ Q (.int (if i < 0 then -i else i)) H) := by
 intro pins s σ H xs us Q I r h; obtain ⟨i, rfl, q⟩ := h; obtain ⟨u, rfl, t, rfl⟩ := vals1 r; exact call_abs_int fun u tk => ⟨.int (if i < 0 then -i else i), H, I.tok _, ⟨_, rfl⟩, q⟩
theorem call_int1 : CallR X (.type "int") (fun xs H Q => (∃ i, xs = [.int i] ∧ Q (.int i) H) ∨ ∃ k, xs = [.bl k] ∧ Q (.int (if k then 1 else 0)) H) := by
 intro pins s σ H xs us Q I r h; rcases h with ⟨i, rfl, q⟩ | ⟨k, rfl, q⟩
 ·obtain ⟨u, rfl, t, rfl⟩ := vals1 r; exact call_int_int ⟨.int i, H, I, ⟨_, rfl⟩, q⟩
 ·obtain ⟨u, rfl, r1⟩ := vals1 r
  cases r1
  exact call_int_bool ⟨.int (if k then 1 else 0), H, I.tok _, ⟨_, rfl⟩, q⟩
theorem call_str_int : CallR X (.type "str") (fun xs H Q => ∃ i, xs = [.int i] ∧ i.natAbs.log2 < 1920 ∧ Q (.str (toString i)) H) := by
 intro pins s σ H xs us Q I r h; obtain ⟨i, rfl, hz, q⟩ := h; obtain ⟨u, rfl, t, rfl⟩ := vals1 r; exact PySem.P.str_of_int hz ⟨.str _, H, I.tok _, ⟨_, rfl⟩, q⟩
end
end L2
namespace L2
open PySem PySem.Spec PyProof.Rows
structure ObjM (h : Heap) (x dx C : Addr) (mA : Str → Option Value) : Prop where
 obj : h.get? x = some (PySem.W.instObj C dx)
 ns : h.Ns1 dx mA
 ne : dx ≠ x
theorem lookIn_ns {h : Heap} {dx : Addr} {mA : Str → Option Value} (n : h.Ns1 dx mA) : ∃ od, h.get? dx = some od ∧ ∀ name, PySem.W.lookIn name od = some (mA name) := by
 obtain ⟨o, es, ep, ho, hd, hk, _, hm⟩ := n; refine ⟨o, ho, fun name => ?_⟩; have e := hm name
 unfold nsFind findBy at e; rw [← Array.find?_toList] at e; unfold PySem.W.lookIn; rw [hd]; dsimp only
 split
 ·rename_i y q; rw [q] at e; exact congrArg some e
 ·rename_i q; rw [q] at e; have a : es.toList.any (·.refKey) = false := by
   rw [List.any_eq_false]; intro y hy; obtain ⟨z, t, hkey⟩ := hk y (Array.mem_toList_iff.mp hy); simp [DictEntry.refKey, hkey]
  have a' : ¬ es.toList.any (·.refKey) = true := by rw [a]; exact Bool.false_ne_true
  rw [if_neg a']; exact congrArg some e
theorem ObjM.look {h : Heap} {x dx C : Addr} {mA : Str → Option Value} (I : ObjM h x dx C mA) : ∃ od, PySem.W.InstAt h x (PySem.W.instObj C dx) C (some od) ∧ ∀ name, PySem.W.lookIn name od = some (mA name) :=
 let ⟨od, ho, hl⟩ := lookIn_ns I.ns
 ⟨od, ⟨I.obj, rfl, rfl, ho⟩, hl⟩
section
variable {prog : Program} {w : World} {A : Around} {E : Value → Shared → Prop} {s : Shared} {K : PySem.W.Frag} {x dx C f : Addr} {mA : Str → Option Value} {name : Str} {v : Value}
theorem get_map {expr : Bool} {Q : Value → Shared → Prop} (X : K.In s.heap) (I : ObjM s.heap x dx C mA) (hg : PySem.W.plainGet K C name = true) (hh : PySem.W.hasDictIn K C = true)
  (ha : PySem.W.findIn K (.ref C) name = some none) (hv : mA name = some v) (hv' : PySem.W.handedIn v = true) (h : Q v { s with toks := s.toks + 1 }) :
  wpAny (model prog w) A (getAttr (.ref x) name expr) Q E s := by
 obtain ⟨od, J, hl⟩ := I.look; exact PySem.W.get_value X J (PySem.W.plainGet_of hg).1 (PySem.W.findObj_own hh ha rfl (by rw [hl, hv])) hv' h
end
structure Cls (K : PySem.W.Frag) (C : Addr) : Prop where
 pg : PySem.W.plainGet K C Str.empty = true
 hd : PySem.W.hasDictIn K C = true
 po : PySem.W.plainOver K C = true
 sa : PySem.W.findIn K (.ref C) "__setattr__" = some (some (.builtin "object.__setattr__"))
theorem Cls.get {K : PySem.W.Frag} {C : Addr} (c : Cls K C) (f : Str) : PySem.W.plainGet K C f = true := c.pg
end L2
namespace L2
open PySem PySem.Spec PyProof.Rows
structure Room (k : Nat) (A : Around) : Prop where
 hd : A.handled = none
 gd : A.guards = some []
 dp : A.depth + 3 * k + 5 < recursionLimit
 un : A.units + 16 * k + 200 < cLine
theorem Room.mono {j k : Nat} {A : Around} (r : Room k A) (h : j ≤ k) : Room j A := ⟨r.hd, r.gd, by have := r.dp; omega, by have := r.un; omega⟩
theorem Room.deeper {k : Nat} {A : Around} (r : Room (k + 1) A) (env : Env) : Room k (A.deeper env) :=
 ⟨r.hd, r.gd, by have := r.dp; show A.depth + 1 + 3 * k + 5 < _; omega, by have := r.un; show A.units + 3 + 16 * k + 200 < _; omega⟩
theorem Room.in1 {k : Nat} {A : Around} (r : Room (k + 1) A) : Room k A.in1 :=
 ⟨r.hd, r.gd, by have := r.dp; show A.depth + 3 * k + 5 < _; omega, by have := r.un; show A.units + 1 + 16 * k + 200 < _; omega⟩
theorem Room.depth {k : Nat} {A : Around} (r : Room k A) : A.depth < recursionLimit := by have := r.dp; omega
theorem Room.units {k : Nat} {A : Around} (r : Room k A) : A.units + 64 < cLine := by have := r.un; omega
def tNil : TA := fun _ H Q => Q [] H
def tCons (ta : TE) (tr : TA) : TA := fun σ H Q => ta σ H fun x H1 => tr σ H1 fun xs H2 => Q (x :: xs) H2
section
variable {X : Cx} {e : Expr} {es : List Expr} {te : TE} {t : TA} {pos : Pos}
theorem pa_nil : PA X [] tNil := fun _ _ _ _ H Q I h => Calls.spliced_nil ⟨[], H, I, .nil, h⟩
theorem pa_cons (ha : PE X e te) (hr : PA X es t) (hs : starEach (e :: es) X.env = (false, eval e X.env) :: starEach es X.env := by rfl) : PA X (e :: es) (tCons te t) := by
 intro pos pins s σ H Q I h; rw [hs]; show wpAny _ _ (spliced ((false, eval e X.env) :: backTo pos (starEach es X.env))) _ _ s
 refine Calls.spliced_cons (thn (ha pins s σ H _ I h) fun u s1 ⟨x, H1, I1, r1, q1⟩ => ?_); exact thn (hr pos pins s1 σ H1 _ I1 q1) fun us s2 ⟨xs, H2, I2, r2, q2⟩ => ⟨x :: xs, H2, I2, .cons r1 r2, q2⟩
def tTup (t : TA) : TE := fun σ H Q => t σ H fun xs H1 => xs.length ≤ sizeLine ∧ ∀ p, H1 p = none → Q (.ref p) (upd H1 p (.tup xs))
theorem pe_tup {x1} (h : PA X es t) : PE X (.Tuple es x1 pos) (tTup t) := by
 intro pins s σ H Q I hq; refine wpAny_Tuple_spliced (thn (h pos pins s σ H _ I hq) fun us s1 ⟨xs, H1, I1, r, z, q⟩ => ⟨by rw [← r.length]; exact z, ?_⟩)
 have hf : H1 s1.heap.objs.size = none := I1.hok.fresh (Nat.le_refl _)
 refine ⟨.ref s1.heap.objs.size, upd H1 s1.heap.objs.size (.tup xs), I1.laid (t' := s1.toks) (fun b u e => Heap.get?_push_of_some _ e) (Nat.le_refl _) ?_, rfl, q _ hf⟩; exact ⟨⟨z, NoD.new _ _ _⟩, us, r, ⟨_, Heap.get?_push_size _ rfl, rfl, _, rfl⟩⟩
end
abbrev Sp := List V → Hp → VK → XK → Prop
abbrev CXT := List Env → Hp → Shared → XK → Value → Shared → Prop
structure Env0 (P : Program) (w : World) (K : PySem.W.Frag) (mg : Str → Option Value) (base : Heap) (A : Around) (outer : List Env) (s : Shared) (H : Hp) : Prop where
 frames : A.frames = some outer
 mod : Mod K mg base
 bs : ∀ b o, base.get? b = some o → s.heap.get? b = some o ∧ H b = none
 bsz : base.objs.size ≤ s.heap.objs.size
 funs : s.heap.FunFrames base outer
 frf : ∀ b ∈ frs outer, H b = none
 hok : HOk P w H s.heap
 bare : AllBare s.gens
def CE (outer : List Env) (P : Program) (w : World) (H : Hp) (s : Shared) (Q : VK) (u : Value) (s' : Shared) : Prop :=
 ∃ v H', s'.os = s.os ∧ AllBare s'.gens ∧ Un (frs outer) [] H H' s.heap s'.heap ∧ HOk P w H' s'.heap ∧ RelV v u ∧ Q v H'
def CR (CX : CXT) (outer : List Env) (P : Program) (w : World) (H : Hp) (s : Shared) (Q : VK) (E : XK) (r : Result) (s' : Shared) : Prop :=
 match r with
 | .ok (.ret u) => CE outer P w H s Q u s'
 | .ok _ => False
 | .error e => CX outer H s E e s'
structure FnOk (P : Program) (w : World) (K : PySem.W.Frag) (mg : Str → Option Value) (base : Heap) (CX : CXT) (k : Nat) (f : Addr) (fd : FuncData) (ps : List Str) (sp : Sp) : Prop where
 len : ∀ vs H Q E, sp vs H Q E → vs.length = ps.length
 run : ∀ (A : Around) (outer : List Env) (s : Shared) (H : Hp) (args : Args) (us : List Value) (vs : List V) (Q : VK) (E : XK), Room k A → Env0 P w K mg base A outer s H → BindsTo s fd args (ps.zip us) → Vals vs us → sp vs H Q E →
  codeAny (model P w) A (.call (.ref f) args) (CR CX outer P w H s Q E) s
theorem FnOk.mono {P : Program} {w : World} {K : PySem.W.Frag} {mg : Str → Option Value} {base : Heap} {CX : CXT} {j k : Nat} {f : Addr} {fd : FuncData} {ps : List Str} {sp : Sp} (F : FnOk P w K mg base CX j f fd ps sp) (h : j ≤ k) :
  FnOk P w K mg base CX k f fd ps sp := ⟨F.len, fun A outer s H args us vs Q E hr => F.run A outer s H args us vs Q E (hr.mono h)⟩
theorem FnOk.imp {P : Program} {w : World} {K : PySem.W.Frag} {mg : Str → Option Value} {base : Heap} {CX : CXT} {k : Nat} {f : Addr} {fd : FuncData} {ps : List Str} {sp sp' : Sp} (F : FnOk P w K mg base CX k f fd ps sp)
  (h : ∀ vs H Q E, sp' vs H Q E → sp vs H Q E) : FnOk P w K mg base CX k f fd ps sp' :=
 ⟨fun vs H Q E q => F.len vs H Q E (h _ _ _ _ q), fun A outer s H args us vs Q E hr he hb hv hs => F.run A outer s H args us vs Q E hr he hb hv (h _ _ _ _ hs)⟩
theorem Env0.in1 {P : Program} {w : World} {K : PySem.W.Frag} {mg : Str → Option Value} {base : Heap} {A : Around} {outer : List Env} {s : Shared} {H : Hp} (e : Env0 P w K mg base A outer s H) :
  Env0 P w K mg base A.in1 outer s H := ⟨e.frames, e.mod, e.bs, e.bsz, e.funs, e.frf, e.hok, e.bare⟩
section
variable {X : Cx} {pins : List (Addr × Obj)} {σ : St} {H : Hp} {s s' : Shared}
theorem Inv.env0 (I : Inv X pins σ H s) : Env0 X.prog X.w X.K X.mg X.base X.A X.stack s H :=
 ⟨I.ok.frames, I.ok.mod, I.bs, Nat.le_trans I.ok.bsz I.sz, I.stack, I.stkFree, I.hok, I.bare⟩
theorem Inv.after {Q : VK} {u : Value} (I : Inv X pins σ H s) (h : CE X.stack X.prog X.w H s Q u s') : EP X pins σ Q u s' := by
 obtain ⟨v, H', os, bare, un, hok, r, q⟩ := h; obtain ⟨hh, g, d, t, os'⟩ := s'; obtain rfl : os' = s.os := os; exact ⟨v, H', I.call (h' := hh) (g' := g) (d' := d) (t' := t) (ch := []) un hok bare (fun b z => absurd z (by simp)), r, q⟩
end
def tCall (sp : Sp) (dvs : List V) (E : XK) (t : TA) : TE := fun σ H Q => t σ H fun vs H1 => sp (vs ++ dvs) H1 Q E
def Binds (K : PySem.W.Frag) (fd : FuncData) (ps : List Str) (ds : List Value) : Prop :=
 ∀ (s : Shared) (us : List Value), K.In s.heap → (us ++ ds).length = ps.length → BindsTo s fd ⟨us, []⟩ (ps.zip (us ++ ds))
theorem Binds.all {K : PySem.W.Frag} {fd : FuncData} {ps : List Str} (h : ∀ us : List Value, us.length = ps.length → bindArgs fd ⟨us, []⟩ = pure (ps.zip us)) : Binds K fd ps [] := fun s us _ hl => by
 rw [List.append_nil] at hl ⊢; exact .of_eq (h us hl)
def Passes (CX : CXT) (X : Cx) (E : XK) : Prop := ∀ (pins : List (Addr × Obj)) (σ : St) (H : Hp) (s : Shared) (e : Value) (s' : Shared), Inv X pins σ H s → CX X.stack H s E e s' → X.xe e s'
section
variable {X : Cx} {CX : CXT} {k : Nat} {f C : Addr} {fd : FuncData} {ps : List Str} {sp : Sp} {dvs : List V} {ds : List Value} {E : XK} {x m : Str} {p pos apos : Pos} {e o : Expr} {es : List Expr} {ta : TE} {t : TA}
theorem run_fn {pins : List (Addr × Obj)} {σ : St} {H : Hp} {s : Shared} {Q : VK} {us : List Value} {vs : List V} (F : FnOk X.prog X.w X.K X.mg X.base CX k f fd ps sp) (hr : Room k X.A) (hb : Binds X.K fd ps ds) (hd : Vals dvs ds) (hx : Passes CX X E)
  (I : Inv X pins σ H s) (r : Vals vs us) (h : sp (vs ++ dvs) H Q E) : wpAny (model X.prog X.w) X.A (call (.ref f) us) (EP X pins σ Q) X.xe s := by
 have r2 : Vals (vs ++ dvs) (us ++ ds) := r.append hd
 have hl : (us ++ ds).length = ps.length := by rw [← r2.length]; exact F.len _ _ _ _ h
 refine wpAny_call (codeAny_mono (F.run X.A X.stack s H ⟨us, []⟩ (us ++ ds) (vs ++ dvs) Q E hr I.env0 (hb s us I.kIn hl) r2 h) fun r s' hq => ?_)
 cases r with
 | error e => exact hx pins σ H s e s' I hq
 | ok fl =>
  cases fl with
  | ret u => exact I.after hq
  | next => exact False.elim hq
  | brk => exact False.elim hq
  | cont => exact False.elim hq
theorem pe_call (F : FnOk X.prog X.w X.K X.mg X.base CX k f fd ps sp) (hr : Room k X.A) (hg : Gl X x) (hm : X.mg x = some (.ref f)) (hk : PySem.W.keepIn X.K (.ref f) = true) (hb : Binds X.K fd ps ds) (hd : Vals dvs ds) (hx : Passes CX X E)
  (ha : PA X (e :: es) t) (hdb : (x == ("__debug__" : Str)) = false := by decide) (he : starEach (e :: es) X.env = (false, eval e X.env) :: starEach es X.env := by rfl) (hpl : (backTo pos (starEach es X.env)).any (·.1) = false := by rfl) :
  PE X (.Call (.Name x p) (e :: es) [] pos) (tCall sp dvs E t) := by
 intro pins s σ H Q I h; refine wpAny_Call_Name_kw (ld_glob I hg hm ?_ hdb); refine PySem.W.callWith_K (h₀ := X.base) I.ok.mod.kin hk (thn (ha pos pins s σ H _ I h) fun us s1 ⟨vs, H1, I1, r, q⟩ => ⟨I1.kIn, ?_⟩) he hpl; exact run_fn F hr hb hd hx I1 r q
end
structure FnScope (N P : List Str) (sc : Scope) : Prop where
 kind : sc.kind = .function
 co : sc.isCoroutine = false
 gen : sc.isGenerator = false
 nd : N.Nodup
 pre : N.take P.length = P
 par : ∀ x ∈ P, sc.names.lookup x = some .local ∨ sc.names.lookup x = some .cell
 nofree : ∀ y ∈ sc.names, y.2 ≠ .free
theorem bindL_out {kindOf : Str → Option NameKind} {x : Str} : ∀ {binds : List (Str × Value)} {m : Str → Option Value}, (∀ v, (x, v) ∉ binds) → bindL kindOf binds m x = m x
 | [], _, _ => rfl
 | (n, v) :: r, m, h => by
  unfold bindL; rw [bindL_out fun w hw => h w (List.mem_cons_of_mem _ hw)]
  split
  ·have : x ≠ n := by rintro rfl; exact h v List.mem_cons_self
   simp [this]
  ·rfl
theorem bindC_out {kindOf : Str → Option NameKind} {x : Str} : ∀ {binds : List (Str × Value)} {m : Str → Option Value}, (∀ v, (x, v) ∉ binds) → bindC kindOf binds m x = m x
 | [], _, _ => rfl
 | (n, v) :: r, m, h => by
  unfold bindC; rw [bindC_out fun w hw => h w (List.mem_cons_of_mem _ hw)]
  split
  ·rfl
  ·have : x ≠ n := by rintro rfl; exact h v List.mem_cons_self
   simp [this]
theorem bindL_get {kindOf : Str → Option NameKind} {x : Str} {v : Value} : ∀ {P : List Str} {vs : List Value} {i : Nat} {m : Str → Option Value}, P.Nodup → P[i]? = some x → vs[i]? = some v → kindOf x = some .local →
  bindL kindOf (P.zip vs) m x = some v
 | [], _, _, _, _, h, _, _ => by simp at h
 | _ :: _, [], _, _, _, _, h, _ => by simp at h
 | p :: P, w :: vs, 0, m, nd, h1, h2, hk => by
  simp at h1 h2; subst h1; subst h2; show bindL kindOf ((p, w) :: P.zip vs) m p = _
  unfold bindL; rw [bindL_out fun v hv => (List.nodup_cons.mp nd).1 (List.of_mem_zip hv).1, if_pos hk]; simp
 | p :: P, w :: vs, i + 1, m, nd, h1, h2, hk => by
  show bindL kindOf ((p, w) :: P.zip vs) m x = _
  unfold bindL; exact bindL_get (i := i) (List.nodup_cons.mp nd).2 (by simpa using h1) (by simpa using h2) hk
theorem bindC_get {kindOf : Str → Option NameKind} {x : Str} {v : Value} : ∀ {P : List Str} {vs : List Value} {i : Nat} {m : Str → Option Value}, P.Nodup → P[i]? = some x → vs[i]? = some v → kindOf x ≠ some .local →
  bindC kindOf (P.zip vs) m x = some v
 | [], _, _, _, _, h, _, _ => by simp at h
 | _ :: _, [], _, _, _, _, h, _ => by simp at h
 | p :: P, w :: vs, 0, m, nd, h1, h2, hk => by
  simp at h1 h2; subst h1; subst h2; show bindC kindOf ((p, w) :: P.zip vs) m p = _
  unfold bindC; rw [bindC_out fun v hv => (List.nodup_cons.mp nd).1 (List.of_mem_zip hv).1, if_neg hk]; simp
 | p :: P, w :: vs, i + 1, m, nd, h1, h2, hk => by
  show bindC kindOf ((p, w) :: P.zip vs) m x = _
  unfold bindC; exact bindC_get (i := i) (List.nodup_cons.mp nd).2 (by simpa using h1) (by simpa using h2) hk
def start (N : List Str) (vs : List V) : St := vs.map some ++ List.replicate (N.length - vs.length) none
def cxOf (CX : CXT) (P : Program) (w : World) (K : PySem.W.Frag) (mg : Str → Option Value) (base : Heap) (N : List Str) (qual : Str) (scope : Scope) (f : Addr) (cd : Value) (A : Around) (outer : List Env) (s : Shared) (H : Hp) (E : XK) : Cx where
 prog := P
 w := w
 K := K
 mg := mg
 base := base
 A := A.deeper (envOfC qual scope s.heap.objs.size f cd)
 N := N
 s₀ := s
 H₀ := H
 env := envOfC qual scope s.heap.objs.size f cd
 outer := outer
 stack := envOfC qual scope s.heap.objs.size f cd :: outer
 ex := []
 calm := true
 fn := fun _ => true
 pn := []
 xe := fun e s' => wpAny (model P w) (A.deeper (envOfC qual scope s.heap.objs.size f cd)) («leaving» (envOfC qual scope s.heap.objs.size f cd) e) (fun _ s'' => CX outer H s E e s'') (fun e' s'' => CX outer H s E e' s'') s'
theorem cell_has {sc : Scope} {n : Nat} {x : Str} (h : sc.names.lookup x = some .cell) : ∃ c, (cellsFrom n sc.names []).lookup x = some c := by
 have q := PySem.W.cellsFrom_some sc.names n [] (.inl h)
 exact Option.isSome_iff_exists.mp q
theorem inv_start {CX : CXT} {P : Program} {w : World} {K : PySem.W.Frag} {mg : Str → Option Value} {base : Heap} {N ps : List Str} {qual : Str} {scope : Scope} {f : Addr} {cd : Value} {A : Around} {outer : List Env} {s s1 : Shared} {H : Hp} {E : XK} {us : List Value} {vs : List V}
  (S : FnScope N ps scope) (hd : A.handled = none) (e0 : Env0 P w K mg base A outer s H) (hl : vs.length = ps.length) (r : Vals vs us)
  (x : InCallC s s.heap.objs.size (bindL (envOfC qual scope s.heap.objs.size f cd).kindOf (ps.zip us) fun _ => none) (cellsFrom (s.heap.objs.size + 1) scope.names []) (bindC (envOfC qual scope s.heap.objs.size f cd).kindOf (ps.zip us) fun _ => none) s1) :
  Inv (cxOf CX P w K mg base N qual scope f cd A outer s H E) [] (start N vs) H s1 := by
 have hpl : ps.length ≤ N.length := by have := congrArg List.length S.pre; rw [List.length_take] at this; omega
 obtain ⟨h1, tk, rfl, hk⟩ := x.done; have noA : ∀ b : Addr, b ∉ (cxOf CX P w K mg base N qual scope f cd A outer s H E).ex := fun b z => absurd (show b ∈ ([] : List Addr) from z) (by simp)
 refine ⟨⟨e0.mod, S.kind, rfl, rfl, Nat.le_refl _, fun y z c h1 h2 => ?_, fun y hy => ?_, fun y c _ h => ?_, fun _ => hd, Around.frames_deeper e0.frames, .inr ⟨rfl, rfl⟩, fun b z => absurd z (noA b), e0.bs, e0.bsz, fun b _ _ => noA b, fun b z => absurd z (noA b), e0.funs, e0.frf⟩,
  rfl, e0.bare, Un.kept hk, ⟨_, x.toInCall.ns, fun i y v h1 h2 h3 => ?_⟩, fun y c h => ⟨_, x.cell y c h⟩, e0.hok.fresh (Nat.le_refl _), fun y c h => ?_, fun p hp => absurd (show p ∈ ([] : List (Addr × Obj)) from hp) (by simp), e0.hok.kept hk, ?_⟩
 ·exact name_of_addr x.apart (PySem.mem_of_lookup h1) (PySem.mem_of_lookup h2)
 ·have hy : scope.names.lookup y = some .cell ∨ scope.names.lookup y = some .free := hy
  rcases hy with hy | hy
  ·exact cell_has hy
  ·exact absurd rfl (S.nofree _ (PySem.mem_of_lookup hy))
 ·exact Nat.le_of_lt (x.above y c (PySem.mem_of_lookup h))
 ·have hi : i < vs.length := by
   unfold start at h2
   by_cases hi : i < vs.length
   ·exact hi
   ·rw [List.getElem?_append_right (by simpa using hi)] at h2
    rw [List.getElem?_replicate] at h2
    split at h2 <;> cases h2
  have ha : vs[i]? = some v := by
   unfold start at h2; rw [List.getElem?_append_left (by simpa using hi), List.getElem?_map] at h2
   cases e : vs[i]? with
   | none => rw [e] at h2; cases h2
   | some a => rw [e] at h2; cases h2; rfl
  obtain ⟨u, hu, rv⟩ := r.get ha; have hp : ps[i]? = some y := by
   rw [← S.pre, List.getElem?_take_of_lt (by omega)]; exact h1
  have ndP : ps.Nodup := by rw [← S.pre]; exact S.nd.sublist (List.take_sublist _ _)
  refine ⟨u, rv, ?_⟩; rcases S.par y (List.mem_of_getElem? hp) with k | k
  ·exact .inl ⟨k, bindL_get ndP hp hu k⟩
  ·obtain ⟨c, e⟩ := cell_has (n := s.heap.objs.size + 1) k; refine .inr ⟨.inl k, c, e, ?_⟩; have q := x.cell y c e
   rw [bindC_get ndP hp hu (by show scope.names.lookup y ≠ _; rw [k]; decide)] at q
   exact q
 ·exact e0.hok.fresh (Nat.le_of_lt (x.above y c (PySem.mem_of_lookup h)))
 ·unfold start; show _ = N.length
  rw [List.length_append, List.length_map, List.length_replicate]; omega
theorem fn_of {CX : CXT} {P : Program} {w : World} {K : PySem.W.Frag} {mg : Str → Option Value} {base : Heap} {k : Nat} {f : Addr} {name qual : Str} {params : Arguments} {body : List Stmt} {scope : Scope} {dV kV doc pm cdv ct oc : Value} {an od : Option Addr}
  {osl : Array (Option Value)} {N ps : List Str} {sp : Sp} (lk : K.lookup f = some ⟨oc, od, .func (PySem.W.fnOf name qual params body scope dV kV doc pm an cdv ct), osl⟩) (hcd : PySem.W.codeIn K cdv qual = true) (S : FnScope N ps scope)
  (len : ∀ vs H Q E, sp vs H Q E → vs.length = ps.length)
  (hbody : ∀ (A : Around) (outer : List Env) (s : Shared) (H : Hp) (vs : List V) (Q : VK) (E : XK), Room k (A.deeper (envOfC qual scope s.heap.objs.size f cdv)) → sp vs H Q E →
   ∃ t, PSs (cxOf CX P w K mg base N qual scope f cdv A outer s H E) body t ∧ t { nx := fun _ H' => Q .non H', rt := Q } (start N vs) H) :
  FnOk P w K mg base CX (k + 1) f (PySem.W.fnOf name qual params body scope dV kV doc pm an cdv ct) ps sp := by
 refine ⟨len, fun A outer s H args us vs Q E hr e0 hb r hsp => ?_⟩; have hl := len _ _ _ _ hsp
 have KX : K.In s.heap := e0.mod.kin.keeps fun b o e => (e0.bs b o e).1
 have lim : s.heap.NoLimit := e0.mod.nolimit.keeps fun b o e => (e0.bs b o e).1
 have hkind : ∀ y ∈ ps.zip us, scope.names.lookup y.1 = some .local ∨ (scope.names.lookup y.1 = some .cell ∧ ((cellsFrom (s.heap.objs.size + 1) scope.names []).lookup y.1).isSome = true) := fun ⟨n, v⟩ hy => by
  rcases S.par n (List.of_mem_zip hy).1 with q | q
  ·exact .inl q
  ·exact .inr ⟨q, PySem.W.cellsFrom_some _ _ _ (.inl q)⟩
 refine codeAny_call_function hr.depth (KX _ _ lk) rfl S.co S.gen rfl (PySem.W.codeRec_of KX hcd) (hb _ _ _ _ ?_); refine wpAny_newFunctionEnv_cells S.kind hkind fun env he s1 x => ?_; subst he; refine ⟨lim.keeps x.toInCall.keep, codeAny_func ?_⟩; obtain ⟨t, ht, hq⟩ := hbody A outer s H vs Q E (hr.deeper _) hsp; have I : Inv (cxOf CX P w K mg base N qual scope f cdv A outer s H E) [] (start N vs) H s1 := inv_start S hr.hd e0 hl r x
 refine wpAny_mono (ht [] s1 (start N vs) H _ I hq) (fun fl s' hs => ?_) fun e s' hs => hs; have fin : ∀ {σ' : St} {H' : Hp} {v : V} {u : Value}, Inv (cxOf CX P w K mg base N qual scope f cdv A outer s H E) [] σ' H' s' → RelV v u → Q v H' → CE outer P w H s Q u s' :=
  fun {σ' H' v u} J rv q => ⟨v, H', J.os, J.bare, J.base, J.hok, rv, q⟩
 cases fl with
 | ret u =>
  obtain ⟨v, σ', H', J, rv, q⟩ := hs; exact fin J rv q
 | next =>
  obtain ⟨σ', H', J, q⟩ := hs; exact fin (v := V.non) (u := Value.none) J rfl q
 | brk =>
  obtain ⟨_, _, _, q⟩ := hs; exact False.elim q
 | cont =>
  obtain ⟨_, _, _, q⟩ := hs; exact False.elim q
end L2
namespace L2
open PySem PySem.Spec PyProof.Rows
section
variable {X : Cx} {x : Str} {p pos : Pos} {e : Expr} {es : List Expr} {t : TA} {id T : String} {r : List V → Hp → VK → Prop}
def tCB (r : List V → Hp → VK → Prop) (t : TA) : TE := fun σ H Q => t σ H fun vs H1 => r vs H1 Q
theorem pe_callB (hc : CallR X (.builtin id) r) (hg : Gl X x) (hm : X.mg x = none) (hv : bootBuiltins x = some (.builtin id)) (ha : PA X (e :: es) t) (hn : x ≠ "__name__" := by decide) (hdb : (x == ("__debug__" : Str)) = false := by decide)
  (he : starEach (e :: es) X.env = (false, eval e X.env) :: starEach es X.env := by rfl) (hpl : (backTo pos (starEach es X.env)).any (·.1) = false := by rfl) : PE X (.Call (.Name x p) (e :: es) [] pos) (tCB r t) := by
 intro pins s σ H Q I h; refine wpAny_Call_Name_kw (ld_blt I hg hm hv ?_ hn hdb); exact PyProof.Rows.callWith_builtin1 (thn (ha pos pins s σ H _ I h) fun us s1 ⟨vs, H1, I1, r1, q1⟩ => hc pins s1 σ H1 vs us Q I1 r1 q1) he hpl
theorem pe_callTy (hc : CallR X (.type T) r) (hg : Gl X x) (hm : X.mg x = none) (hv : bootBuiltins x = some (.type T)) (ha : PA X (e :: es) t) (hn : x ≠ "__name__" := by decide) (hdb : (x == ("__debug__" : Str)) = false := by decide)
  (he : starEach (e :: es) X.env = (false, eval e X.env) :: starEach es X.env := by rfl) (hpl : (backTo pos (starEach es X.env)).any (·.1) = false := by rfl) : PE X (.Call (.Name x p) (e :: es) [] pos) (tCB r t) := by
 intro pins s σ H Q I h; refine wpAny_Call_Name_kw (ld_blt I hg hm hv ?_ hn hdb); exact PyProof.Rows.callWith_type1 (thn (ha pos pins s σ H _ I h) fun us s1 ⟨vs, H1, I1, r1, q1⟩ => hc pins s1 σ H1 vs us Q I1 r1 q1) he hpl
end
end L2
namespace HT
open PySem PyProof.Rows
section
variable {prog : Program} {w : World} {A : Around} {E : Value → Shared → Prop} {s : Shared}
theorem cat_tup {t b : Addr} {vs ws : List Value} {Q : Value → Shared → Prop} (ht : IsTup s.heap t vs.toArray) (hb : IsTup s.heap b ws.toArray) (hv : vs ≠ [])
  (h1 : ws = [] → Q (.ref t) s) (h2 : ws ≠ [] → Q (.ref s.heap.objs.size) { s with heap := s.heap.push { cls := .type "tuple", data := .seq (vs ++ ws).toArray } })
  (hsz : vs.length + ws.length ≤ sizeLine) : wpAny (model prog w) A (binaryOp .Add (.ref t) (.ref b)) Q E s := by
 obtain ⟨⟨cls, dd, data, sl⟩, ho, hc, n, hd⟩ := id ht; obtain ⟨⟨cls2, dd2, data2, sl2⟩, ho2, hc2, n2, hd2⟩ := id hb; simp only at hc hd hc2 hd2; subst hc hd hc2 hd2; have e : vs.toArray ++ ws.toArray = (vs ++ ws).toArray := by simp
 by_cases hw : ws = []
 ·exact concat_meets ⟨_, ho, rfl⟩ ⟨_, ho2, rfl⟩ noFill_tuple_add seq_tuple_add PySem.F.slot_tuple_add PySem.F.entry_tuple_add (PySem.F.args_tuple_add_2 _ _)
   (tuple_addW1 t b vs.toArray ws.toArray n n2 dd dd2 sl sl2 (by simpa using hv) (by simp [hw])) ⟨ho, ho2, h1 hw⟩
 ·refine concat_meets ⟨_, ho, rfl⟩ ⟨_, ho2, rfl⟩ noFill_tuple_add seq_tuple_add PySem.F.slot_tuple_add PySem.F.entry_tuple_add (PySem.F.args_tuple_add_2 _ _)
   (tuple_addW2 t b vs.toArray ws.toArray n n2 dd dd2 sl sl2 (by simpa using hv) (by simpa using hw) (by rw [List.size_toArray, List.size_toArray]; exact hsz)) ⟨ho, ho2, ?_⟩
  rw [e]; exact h2 hw
def sIx (n d : Nat) : Option Int → Nat
 | none => d
 | some v => if v < 0 then (v + (n : Int)).toNat else min v.toNat n
theorem sIx_le (n d : Nat) (hd : d ≤ n) (o : Option Int) : sIx n d o ≤ n := by
 cases o with
 | none => exact hd
 | some v =>
  show (if v < 0 then (v + (n : Int)).toNat else min v.toNat n) ≤ n
  by_cases hv : v < 0
  ·rw [if_pos hv]; omega
  ·rw [if_neg hv]; exact Nat.min_le_right _ _
theorem clip_eq (v : Int) (n d : Nat) : (if v < 0 then max (v + (n : Int)) 0 else min v (n : Int)) = ((sIx n d (some v) : Nat) : Int) := by
 show (if v < 0 then max (v + (n : Int)) 0 else min v (n : Int)) = (((if v < 0 then (v + (n : Int)).toNat else min v.toNat n) : Nat) : Int)
 by_cases hv : v < 0
 ·simp only [if_pos hv]; omega
 ·simp only [if_neg hv]; omega
theorem adjust_gen (lo hi : Option Int) (n : Nat) : Builtin.Slice.sliceAdjust lo hi 1 (n : Int) = (((sIx n 0 lo : Nat) : Int), ((sIx n n hi : Nat) : Int)) := by
 have h1 : ¬ ((1 : Int) < 0) := by omega
 unfold Builtin.Slice.sliceAdjust; simp only [h1, if_false]; refine Prod.ext ?_ ?_
 ·cases lo with
  | none => rfl
  | some v => exact clip_eq v n 0
 ·cases hi with
  | none => rfl
  | some v => exact clip_eq v n n
theorem places_gen (i j : Nat) : Builtin.Slice.slicePlaces (i : Int) (j : Int) 1 = j - i := by
 unfold Builtin.Slice.slicePlaces; have h1 : (1 : Int) > 0 := by omega
 simp only [h1, if_true, Int.ediv_one]
 split <;> omega
theorem slicePart_ {v : Value} {o : Option Int} {Q : Option Int → Shared → Prop} (p : IsPart v o) (h : Q o s) : wpAny (model prog w) A (Builtin.Slice.slicePartIndex v) Q E s := by
 cases p with
 | none => exact slicePart_none h
 | int i t => exact slicePart_int h
theorem sliceApplied_gen {sl : Addr} {vl vu : Value} {lo hi : Option Int} {n : Nat} {Q : Int × Int × Nat → Shared → Prop} (hs : s.heap.IsSliceOf sl vl vu .none) (pl : IsPart vl lo) (pu : IsPart vu hi)
  (h : Q (((sIx n 0 lo : Nat) : Int), 1, sIx n n hi - sIx n 0 lo) s) : wpAny (model prog w) A (Builtin.Slice.sliceApplied (.ref sl) (pure (n : Int))) Q E s := by
 obtain ⟨os, hos, hcs, hds⟩ := id hs; unfold Builtin.Slice.sliceApplied Builtin.Slice.sliceFields; refine wpAny_bind (wpAny_bind (wpAny_field hos hds (x := vl) rfl (wpAny_bind (wpAny_field hos hds (x := vu) rfl (wpAny_bind (wpAny_field hos hds (x := .none) rfl (wpAny_pure ?_))))))); refine wpAny_bind (slicePart_none ?_); show wpAny _ _ (if ((1 : Int) == 0) = true then _ else _) _ _ s
 rw [if_neg (by decide)]
 refine wpAny_bind (slicePart_ pl (wpAny_bind (slicePart_ pu (wpAny_bind (wpAny_pure ?_))))); show wpAny _ _ (match Builtin.Slice.sliceAdjust lo hi 1 (n : Int) with | (lo, hi) => pure (lo, (1 : Int), Builtin.Slice.slicePlaces lo hi 1)) _ _ s
 rw [adjust_gen lo hi n]; show wpAny _ _ (pure (((sIx n 0 lo : Nat) : Int), (1 : Int), Builtin.Slice.slicePlaces ((sIx n 0 lo : Nat) : Int) ((sIx n n hi : Nat) : Int) 1)) _ _ s
 rw [places_gen]; exact wpAny_pure h
theorem pick_gen (xs : Array Value) (i k : Nat) : ((List.range k).filterMap fun (m : Nat) => xs[((i : Int) + (m : Int) * 1).toNat]?).toArray = ((xs.toList.drop i).take k).toArray := by
 have e : (fun (m : Nat) => xs[((i : Int) + (m : Int) * 1).toNat]?) = fun m => xs[i + m]? := by
  funext m
  have : ((i : Int) + (m : Int) * 1).toNat = i + m := by omega
  rw [this]
 rw [e]; have := pick_run xs i k
 rw [List.filterMap_map] at this; have e2 : ((fun x => xs[x]?) ∘ fun x => i + x) = fun m => xs[i + m]? := rfl
 rw [e2] at this; rw [this]
theorem getItem_tuple_cut {t sl : Addr} {items : Array Value} {vl vu : Value} {lo hi : Option Int} {Q : Value → Shared → Prop} (ht : IsTup s.heap t items) (hs : s.heap.IsSliceOf sl vl vu .none) (pl : IsPart vl lo) (pu : IsPart vu hi)
  (hw : ¬ (sIx items.size 0 lo = 0 ∧ sIx items.size items.size hi = items.size))
  (h : Q (.ref s.heap.objs.size) { s with heap := s.heap.push { cls := .type "tuple", data := .seq ((items.toList.drop (sIx items.size 0 lo)).take (sIx items.size items.size hi - sIx items.size 0 lo)).toArray } })
  (hsz : items.size ≤ sizeLine) : wpAny (model prog w) A (getItem (.ref t) (.ref sl)) Q E s := by
 have htake : sizeOk (.seq ((items.toList.drop (sIx items.size 0 lo)).take (sIx items.size items.size hi - sIx items.size 0 lo)).toArray) := by
  show ((items.toList.drop (sIx items.size 0 lo)).take (sIx items.size items.size hi - sIx items.size 0 lo)).toArray.size ≤ sizeLine
  rw [List.size_toArray, List.length_take, List.length_drop, Array.length_toList]; omega
 have hj : sIx items.size items.size hi ≤ items.size := sIx_le _ _ (Nat.le_refl _) hi
 obtain ⟨os, hos, hcs, hds⟩ := id hs; have hTs : s.TypeIs (.ref sl) "slice" := ⟨os, hos, hcs⟩
 unfold getItem
 try with_reducible refine wpAny_holding ?_
 first | refine wpAny_bind (wpAny_pure ?_) | skip
 refine wpAny_bind (wpAny_sequenceKey ht.typeIs (by decide) ?_)
 refine wpAny_bind (wpAny_callSpecial?_slot (name := Str.ofString "__getitem__") ht.typeIs PyProof.Rows.slot_tuple_getitem
  (wpAny_call_entry PyProof.Rows.slot_tuple_getitem ht.typeIs entry_tuple_getitem ?_ (args_tuple_getitem _ _)))
 show wpAny _ _ (Builtin.Tuple.tupleItemsOf (.ref t) >>= _) _ _ s
 refine wpAny_bind (tupleItemsOf_ ht ?_); refine wpAny_bind (wpAny_typeOf hTs ?_); rw [if_pos (by decide)]
 refine wpAny_bind (sliceApplied_gen hs pl pu ?_); have hno : ¬ ((((sIx items.size 0 lo : Nat) : Int) == 0 && (1 : Int) == 1 && (sIx items.size items.size hi - sIx items.size 0 lo) == items.size) = true) := by
  intro q; rw [Bool.and_eq_true, Bool.and_eq_true] at q; have q1 : ((sIx items.size 0 lo : Nat) : Int) = 0 := eq_of_beq q.1.1
  have q2 : sIx items.size items.size hi - sIx items.size 0 lo = items.size := eq_of_beq q.2
  exact hw ⟨by omega, by omega⟩
 show wpAny _ _ (if (((sIx items.size 0 lo : Nat) : Int) == 0 && (1 : Int) == 1 && (sIx items.size items.size hi - sIx items.size 0 lo) == items.size) = true then _ else _) _ _ s
 rw [if_neg hno, pick_gen]
 first
  | exact wpAny_bind (m := Builtin.Tuple.tupleExact _) (wpAny_newObj_type (wpAny_pure ⟨_, rfl, wpAny_pure h⟩) htake)
  | exact wpAny_bind (m := Builtin.Tuple.tupleExact _) (wpAny_newObj_type (wpAny_bind (wpAny_pure (wpAny_pure ⟨_, rfl, wpAny_pure h⟩))) htake)
  | exact wpAny_bind (wpAny_bind (m := Builtin.Tuple.tupleExact _) (wpAny_newObj_type (wpAny_pure (wpAny_pure ⟨_, rfl, wpAny_pure h⟩)) htake))
  | exact wpAny_bind (wpAny_bind (m := Builtin.Tuple.tupleExact _) (wpAny_newObj_type (wpAny_pure ⟨_, rfl, wpAny_pure h⟩) htake))
end
end HT
namespace L2
open PySem PySem.Spec PyProof.Rows
abbrev TO := St → Hp → (Option Int → Hp → Prop) → Prop
def PO (X : Cx) (e : Option Expr) (t : TO) : Prop :=
 ∀ (pins : List (Addr × Obj)) (s : Shared) (σ : St) (H : Hp) (Q : Option Int → Hp → Prop), Inv X pins σ H s → t σ H Q →
  wpAny (model X.prog X.w) X.A (evalPart e X.env) (fun u s' => ∃ o H', Inv X pins σ H' s' ∧ IsPart u o ∧ Q o H') X.xe s
def tNoPart : TO := fun _ H Q => Q none H
def tPart (t : TE) : TO := fun σ H Q => t σ H fun x H1 => ∃ i, x = .int i ∧ Q (some i) H1
section
variable {X : Cx} {e : Expr} {te : TE} {lo hi : Option Expr} {tl th : TO} {pos p2 : Pos}
theorem po_none : PO X none tNoPart := by
 intro pins s σ H Q I h; rw [evalPart_none]; exact wpAny_pure ⟨none, H, I, .none, h⟩
theorem po_some (h : PE X e te) : PO X (some e) (tPart te) := by
 intro pins s σ H Q I hw; rw [evalPart_some]; refine thn (h pins s σ H _ I hw) fun u s1 ⟨x, H1, I1, r1, q1⟩ => ?_; obtain ⟨i, rfl, q⟩ := q1; obtain ⟨t, rfl⟩ := r1; exact ⟨some i, H1, I1, .int i t, q⟩
def SlR (X : Cx) (r : V → Option Int → Option Int → Hp → VK → Prop) : Prop :=
 ∀ (pins : List (Addr × Obj)) (s : Shared) (σ : St) (H : Hp) (x : V) (v vl vu : Value) (lo hi : Option Int) (sl : Addr) (Q : VK), Inv X pins σ H s → RelV x v → s.heap.IsSliceOf sl vl vu .none → IsPart vl lo → IsPart vu hi → r x lo hi H Q →
  ∃ T id, typeLookup (.type T) "__getitem__" = pure (some (.builtin id)) ∧ s.TypeIs v T ∧ wpAny (model X.prog X.w) X.A (getItem v (.ref sl)) (EP X pins σ Q) X.xe s
theorem SlR.or {r r' : V → Option Int → Option Int → Hp → VK → Prop} (h : SlR X r) (h' : SlR X r') : SlR X (fun x lo hi H Q => r x lo hi H Q ∨ r' x lo hi H Q) := by
 intro pins s σ H x v vl vu lo hi sl Q I rx hs pl pu q; rcases q with q | q
 ·exact h pins s σ H x v vl vu lo hi sl Q I rx hs pl pu q
 ·exact h' pins s σ H x v vl vu lo hi sl Q I rx hs pl pu q
def tSl (r : V → Option Int → Option Int → Hp → VK → Prop) (te : TE) (tl th : TO) : TE := fun σ H Q => te σ H fun x H1 => tl σ H1 fun l H2 => th σ H2 fun u H3 => r x l u H3 Q
theorem pe_slice {r : V → Option Int → Option Int → Hp → VK → Prop} (hr : SlR X r) (he : PE X e te) (hl : PO X lo tl) (hu : PO X hi th) : PE X (.Subscript e (.Slice lo hi none p2) pos) (tSl r te tl th) := by
 intro pins s σ H Q I h; refine Subscript_ (thn (he pins s σ H _ I h) fun v s1 ⟨x, H1, I1, r1, q1⟩ => ?_); refine wpAny_Slice (thn (hl pins s1 σ H1 _ I1 q1) fun vl s2 ⟨l, H2, I2, pl, q2⟩ => thn (hu pins s2 σ H2 _ I2 q2) fun vu s3 ⟨u, H3, I3, pu, q3⟩ => ?_); rw [evalPart_none]; refine wpAny_pure ?_; have I4 : Inv X pins σ H3 { s3 with heap := s3.heap.push { cls := .type "slice", data := .fields #[vl, vu, .none] } } := I3.kept (t' := s3.toks) fun b ob q => Heap.get?_push_of_some _ q
 obtain ⟨T, id, hT, ht, hg⟩ := hr pins { s3 with heap := s3.heap.push { cls := .type "slice", data := .fields #[vl, vu, .none] } } σ H3 x v vl vu l u s3.heap.objs.size Q I4 r1 (Heap.IsSliceOf.new ..) pl pu q3; show wpAny (model X.prog X.w) X.A (subscriptTail e (.Slice lo hi none p2) v (.ref s3.heap.objs.size)) (EP X pins σ Q) X.xe { s3 with heap := s3.heap.push { cls := .type "slice", data := .fields #[vl, vu, .none] } }
 exact tail_any (ops := [.ref s3.heap.objs.size, v]) ht hT hg (by with_unfolding_all rfl)
def cutV (xs : List V) (lo hi : Option Int) : List V := (xs.drop (HT.sIx xs.length 0 lo)).take (HT.sIx xs.length xs.length hi - HT.sIx xs.length 0 lo)
theorem cutV_length (xs : List V) (lo hi : Option Int) : (cutV xs lo hi).length ≤ xs.length := by
 unfold cutV; rw [List.length_take, List.length_drop]; omega
def rSlT (K : PySem.W.Frag) : V → Option Int → Option Int → Hp → VK → Prop := fun x lo hi H Q => ∃ a xs, x = .ref a ∧ SqT K H a xs ∧
 ¬ (HT.sIx xs.length 0 lo = 0 ∧ HT.sIx xs.length xs.length hi = xs.length) ∧ ∀ p, H p = none → Q (.ref p) (upd H p (.tup (cutV xs lo hi)))
theorem sl_tup : SlR X (rSlT X.K) := by
 intro pins s σ H x v vl vu lo hi sl Q I rx hs pl pu h; obtain ⟨a, xs, rfl, hx, hw, q⟩ := h
 cases rx
 obtain ⟨its, r, ht, hz⟩ := I.tuple hx; have hlen : its.toArray.size = xs.length := by rw [List.size_toArray]; exact r.length.symm
 refine ⟨"tuple", _, PyProof.Rows.slot_tuple_getitem.lookup, ht.typeIs, ?_⟩; refine HT.getItem_tuple_cut ht hs pl pu (by rw [hlen]; exact hw) ?_ (by rw [hlen]; exact hz)
 rw [hlen]; refine ⟨.ref s.heap.objs.size, _, I.laid (t' := s.toks) (o := .tup (cutV xs lo hi)) (fun b ob q => Heap.get?_push_of_some _ q) (Nat.le_refl _) ?_, rfl, q _ (I.hok.fresh (Nat.le_refl _))⟩; exact ⟨⟨Nat.le_trans (cutV_length xs lo hi) hz, NoD.new _ _ _⟩, _, (r.drop (HT.sIx xs.length 0 lo)).take (HT.sIx xs.length xs.length hi - HT.sIx xs.length 0 lo), IsTup.new _ _⟩
def rCatT (K : PySem.W.Frag) : R2 := fun x y H Q => ∃ a b xs ys, x = .ref a ∧ y = .ref b ∧ SqT K H a xs ∧ SqT K H b ys ∧ xs ≠ [] ∧ xs.length + ys.length ≤ sizeLine ∧
 (ys = [] → Q (.ref a) H) ∧ (ys ≠ [] → ∀ p, H p = none → Q (.ref p) (upd H p (.tup (xs ++ ys))))
theorem Vals.nil_iff {xs : List V} {us : List Value} (r : Vals xs us) : us = [] ↔ xs = [] := by
 cases r with
 | nil => simp
 | cons _ _ => simp
theorem op_catT : OpR X (binaryOp .Add) (rCatT X.K) := by
 intro pins s σ H x y v u Q I rx ry h; obtain ⟨a, b, xs, ys, rfl, rfl, ha, hb, hx, hz, q1, q2⟩ := h
 cases rx
 cases ry
 obtain ⟨its, r1, p1, _⟩ := I.tuple ha; obtain ⟨its2, r2, p2, _⟩ := I.tuple hb; refine HT.cat_tup p1 p2 (fun z => hx (r1.nil_iff.mp z)) (fun z => ⟨.ref a, H, I, rfl, q1 (r2.nil_iff.mp z)⟩) (fun z => ?_) (by rw [← r1.length, ← r2.length]; exact hz)
 refine ⟨.ref s.heap.objs.size, _, I.laid (t' := s.toks) (o := .tup (xs ++ ys)) (fun b ob q => Heap.get?_push_of_some _ q) (Nat.le_refl _) ?_, rfl, q2 (fun w => z (r2.nil_iff.mpr w)) _ (I.hok.fresh (Nat.le_refl _))⟩; exact ⟨⟨by rw [List.length_append]; exact hz, NoD.new _ _ _⟩, _, r1.append r2, IsTup.new _ _⟩
end
end L2
namespace L2
open PySem PySem.Spec PyProof.Rows
def ixN (n : Nat) (i : Int) : Option Nat := if 0 ≤ i then (if i < n then some i.toNat else none) else if -(n : Int) ≤ i then some (i + n).toNat else none
def atI {α : Type} (xs : List α) (i : Int) : Option α := (ixN xs.length i).bind fun j => xs[j]?
theorem ixN_seq {n : Nat} {i : Int} {j : Nat} (h : ixN n i = some j) : seqIndex? i n = some j ∧ j < n ∧ -(n : Int) ≤ i ∧ i < n := by
 unfold ixN at h
 by_cases h0 : 0 ≤ i
 ·rw [if_pos h0] at h
  by_cases h1 : i < n
  ·rw [if_pos h1] at h; have e : i.toNat = j := Option.some.inj h
   exact ⟨by rw [seqIndex_of h0 h1, e], by omega, by omega, h1⟩
  ·rw [if_neg h1] at h; cases h
 ·rw [if_neg h0] at h
  by_cases h1 : -(n : Int) ≤ i
  ·rw [if_pos h1] at h; have e : (i + n).toNat = j := Option.some.inj h
   exact ⟨by rw [seqIndex_neg (by omega) h1, e], by omega, h1, by omega⟩
  ·rw [if_neg h1] at h; cases h
theorem atI_get {α : Type} {xs : List α} {i : Int} {v : α} (h : atI xs i = some v) : ∃ j, seqIndex? i xs.length = some j ∧ xs[j]? = some v ∧ j < xs.length ∧ -(xs.length : Int) ≤ i ∧ i < xs.length := by
 unfold atI at h
 cases e : ixN xs.length i with
 | none => rw [e] at h; cases h
 | some j =>
  rw [e] at h; obtain ⟨h1, h2, h3, h4⟩ := ixN_seq e; exact ⟨j, h1, h, h2, h3, h4⟩
theorem atI_nat {α : Type} {xs : List α} {j : Nat} {v : α} (h : xs[j]? = some v) : atI xs (j : Int) = some v := by
 have hj : j < xs.length := (List.getElem?_eq_some_iff.mp h).1
 have e : ixN xs.length (j : Int) = some j := by
  unfold ixN; rw [if_pos (by omega), if_pos (by omega)]; simp
 unfold atI; rw [e]; exact h
def PlainIx (b : Expr) : Prop := ∀ o i, subscripted b false o i = operate [o, i] (getItem o i)
def IxR (X : Cx) (r : R2) : Prop :=
 ∀ (value slice : Expr) (pins : List (Addr × Obj)) (s : Shared) (σ : St) (H : Hp) (x y : V) (v u : Value) (Q : VK), Inv X pins σ H s → RelV x v → RelV y u → r x y H Q →
  subscripted slice false v u = operate [v, u] (getItem v u) → wpAny (model X.prog X.w) X.A (subscriptTail value slice v u) (EP X pins σ Q) X.xe s
def MtR (X : Cx) (id : String) (r : V → List V → Hp → VK → Prop) : Prop :=
 ∀ (pins : List (Addr × Obj)) (s : Shared) (σ : St) (H : Hp) (x : V) (xs : List V) (v : Value) (us : List Value) (Q : VK), Inv X pins σ H s → RelV x v → Vals xs us → r x xs H Q →
  wpAny (model X.prog X.w) X.A (call (.builtin id) (v :: us)) (EP X pins σ Q) X.xe s
section
variable {X : Cx} {a b : Expr} {ta tb : TE} {pos : Pos}
theorem IxR.or {r r' : R2} (h : IxR X r) (h' : IxR X r') : IxR X (fun x y H Q => r x y H Q ∨ r' x y H Q) := by
 intro value slice pins s σ H x y v u Q I rx ry q hs; rcases q with q | q
 ·exact h value slice pins s σ H x y v u Q I rx ry q hs
 ·exact h' value slice pins s σ H x y v u Q I rx ry q hs
theorem MtR.or {id : String} {r r' : V → List V → Hp → VK → Prop} (h : MtR X id r) (h' : MtR X id r') : MtR X id (fun x xs H Q => r x xs H Q ∨ r' x xs H Q) := by
 intro pins s σ H x xs v us Q I rx rs q; rcases q with q | q
 ·exact h pins s σ H x xs v us Q I rx rs q
 ·exact h' pins s σ H x xs v us Q I rx rs q
theorem pe_ix {r : R2} (hr : IxR X r) (ha : PE X a ta) (hb : PE X b tb) (hs : PlainIx b) : PE X (.Subscript a b pos) (tOp r ta tb) := by
 intro pins s σ H Q I h; exact Subscript_ (binT ha hb I h fun v u s2 x y H2 I2 rx ry q => hr a b pins s2 σ H2 x y v u Q I2 rx ry q (hs _ _))
def rIxL (K : PySem.W.Frag) : R2 := fun x y H Q => ∃ p xs i v, x = .ref p ∧ y = .int i ∧ SqL K H p xs ∧ atI xs i = some v ∧ Q v H
def rIxT (K : PySem.W.Frag) : R2 := fun x y H Q => ∃ p xs i v, x = .ref p ∧ y = .int i ∧ SqT K H p xs ∧ atI xs i = some v ∧ Q v H
def rIxS : R2 := fun x y H Q => ∃ z i c, x = .str z ∧ y = .int i ∧ z.length ≤ sizeLine ∧ atI z.cps.toList i = some c ∧ Q (.str ⟨#[c]⟩) H
theorem ix_list : IxR X (rIxL X.K) := by
 intro value slice pins s σ H x y v u Q I rx ry h hs; obtain ⟨p, xs, i, z, rfl, rfl, hq, he, q⟩ := h
 cases rx
 obtain ⟨t, rfl⟩ := ry; obtain ⟨its, r, pl, hz⟩ := I.list hq; obtain ⟨j, h1, h2, h3, h4, h5⟩ := atI_get he; obtain ⟨w, ew, rw'⟩ := r.get h2; have hl := r.length
 have hn := line63
 have fin : EP X pins σ Q w s := ⟨z, H, I, rw', q⟩
 by_cases h0 : 0 ≤ i
 ·have hj : i.toNat = j := by
   rw [seqIndex_of h0 h5] at h1; exact Option.some.inj h1
  exact item_listR pl.isList h0 (by omega) (by rw [hj]; simpa using ew) fin hs
 ·have hj : (i + (its.toArray.size : Int)).toNat = j := by
   rw [seqIndex_neg (by omega) h4] at h1
   rw [List.size_toArray, ← hl]; exact Option.some.inj h1
  exact subscriptTail_builtinR (x := w) pl.isList.typeIs slot_list_getitem.lookup
   (wpAny_getItem_list_neg (Q := fun r s' => r = w ∧ EP X pins σ Q r s') pl.isList (by omega) (by rw [List.size_toArray] <;> omega) (by omega) (by rw [hj]; simpa using ew) ⟨rfl, fin⟩) hs
theorem ix_tup : IxR X (rIxT X.K) := by
 intro value slice pins s σ H x y v u Q I rx ry h hs; obtain ⟨p, xs, i, z, rfl, rfl, hq, he, q⟩ := h
 cases rx
 obtain ⟨t, rfl⟩ := ry; obtain ⟨its, r, pl, hz⟩ := I.tuple hq; obtain ⟨j, h1, h2, h3, h4, h5⟩ := atI_get he; obtain ⟨w, ew, rw'⟩ := r.get h2; have hl := r.length
 have hn := line63
 have fin : EP X pins σ Q w s := ⟨z, H, I, rw', q⟩
 exact subscriptTail_builtinR (x := w) pl.typeIs slot_tuple_getitem.lookup
  (getItem_tuple (j := j) (Q := fun r s' => r = w ∧ EP X pins σ Q r s') pl (by omega) (by omega) (by rw [List.size_toArray, ← hl]; exact h1) (by simpa using ew) ⟨rfl, fin⟩) hs
theorem ix_str : IxR X rIxS := by
 intro value slice pins s σ H x y v u Q I rx ry h hs; obtain ⟨z, i, c, rfl, rfl, hz, he, q⟩ := h; obtain ⟨t, rfl⟩ := rx; obtain ⟨t', rfl⟩ := ry; obtain ⟨j, h1, h2, h3, h4, h5⟩ := atI_get he; have hl : z.cps.toList.length = z.length := by simp [Str.length]
 rw [hl] at h1 h4 h5; have hn := line63
 exact tail_any (typeIs_str s z t) slot_str_getitem.lookup (getItem_str (c := c) (by
  have e1 : decide (i < -(2 ^ 63 : Int)) = false := decide_eq_false (by omega)
  have e2 : decide (i ≥ 2 ^ 63) = false := decide_eq_false (by omega)
  rw [e1, e2, Bool.or_false]) (by rw [h1]; simpa using h2) ⟨.str ⟨#[c]⟩, H, I.tok _, ⟨_, rfl⟩, q⟩) hs
def rIx (K : PySem.W.Frag) : R2 := fun x y H Q => rIxL K x y H Q ∨ rIxT K x y H Q ∨ rIxS x y H Q
theorem ix_seq : IxR X (rIx X.K) := ix_list.or (ix_tup.or ix_str)
theorem mapSeq_set (its : List Value) (n j : Nat) (u : Value) : Obj.mapSeq (·.setIfInBounds j u) { cls := .type "list", data := .seq its.toArray n } = { cls := .type "list", data := .seq (its.set j u).toArray n } := by
 simp [Obj.mapSeq]
theorem Inv.lst {pins : List (Addr × Obj)} {σ : St} {H : Hp} {s : Shared} {p : Addr} {xs : List V} (I : Inv X pins σ H s) (h : H p = some (.lst xs)) :
  ∃ (its : List Value) (n : Nat), Vals xs its ∧ s.heap.get? p = some { cls := .type "list", data := .seq its.toArray n } ∧ xs.length ≤ sizeLine := by
 obtain ⟨z, its, n, r, e⟩ := I.hok p _ h; exact ⟨its, n, r, e, z⟩
theorem Inv.lstUpd {pins : List (Addr × Obj)} {σ : St} {H : Hp} {s : Shared} {p : Addr} {xs ys : List V} {its its' : List Value} {n n' : Nat} {f : Obj → Obj} (I : Inv X pins σ H s) (h : H p = some (.lst xs))
  (ho : s.heap.get? p = some { cls := .type "list", data := .seq its.toArray n }) (hf : f { cls := .type "list", data := .seq its.toArray n } = { cls := .type "list", data := .seq its'.toArray n' }) (r : Vals ys its') (hz : ys.length ≤ sizeLine) (t : Nat) :
  Inv X pins σ (upd H p (.lst ys)) { s with heap := s.heap.update p f, toks := t } := by
 have e : (s.heap.update p f).get? p = some { cls := .type "list", data := .seq its'.toArray n' } := by
  rw [Heap.get?_update_self f ho (by rw [hf] <;> rfl), hf]
 refine I.write (x := p) (e := p) (by rw [h]; trivial) (.inl rfl) (fun b u hb q => (Heap.get?_update_other _ _ (Ne.symm hb)).trans q) ⟨_, e⟩ ?_
 exact ⟨hz, its', n', r, e⟩
def rSetL : V → V → V → Hp → (Hp → Prop) → Prop := fun o i v H Q => ∃ p xs k j, o = .ref p ∧ i = .int k ∧ H p = some (.lst xs) ∧ ixN xs.length k = some j ∧ Q (upd H p (.lst (xs.set j v)))
theorem set_list : PSet X rSetL := by
 intro pins s σ H o i v ov iv u Q I ro ri rv h; obtain ⟨p, xs, k, j, rfl, rfl, hp, hj, q⟩ := h
 cases ro
 obtain ⟨t, rfl⟩ := ri; obtain ⟨its, n, r, ho, hz⟩ := I.lst hp; obtain ⟨h1, h2, h3, h4⟩ := ixN_seq hj; have hl := r.length
 have hn := line63
 have I' : Inv X pins σ (upd H p (.lst (xs.set j v))) { s with heap := s.heap.update p (Obj.mapSeq (·.setIfInBounds j u)) } :=
  I.lstUpd hp ho (mapSeq_set its n j u) (r.set rv j) (by rw [List.length_set]; exact hz) s.toks
 by_cases h0 : 0 ≤ k
 ·have hk : k.toNat = j := by
   rw [seqIndex_of h0 h4] at h1; exact Option.some.inj h1
  exact PySem.W.ki_setAt ho h0 (by omega) (by rw [List.size_toArray, ← hl]; exact h4) (by rw [hk]; exact ⟨_, I', q⟩)
 ·have hk : (k + (its.toArray.size : Int)).toNat = j := by
   rw [seqIndex_neg (by omega) h3] at h1
   rw [List.size_toArray, ← hl]; exact Option.some.inj h1
  exact PySem.W.ki_setBack ho (by omega) (by rw [List.size_toArray, ← hl]; exact h3) (by omega) (by rw [hk]; exact ⟨_, I', q⟩)
theorem slice_bounds (lo hi : Option Int) (n : Nat) : (sliceBounds lo hi none n).1 = ((HT.sIx n 0 lo : Nat) : Int) ∧ (sliceBounds lo hi none n).2.1 = ((HT.sIx n n hi : Nat) : Int) ∧ (sliceBounds lo hi none n).2.2 = 1 := by
 refine ⟨?_, ?_, rfl⟩
 ·cases lo with
  | none => simp [sliceBounds, HT.sIx]
  | some i =>
   simp only [sliceBounds, HT.sIx, Option.getD_none, show (1 : Int) > 0 by decide, if_true]
   by_cases h : i < 0
   ·simp only [h, if_true] <;> omega
   ·simp only [h, if_false] <;> omega
 ·cases hi with
  | none => simp [sliceBounds, HT.sIx]
  | some i =>
   simp only [sliceBounds, HT.sIx, Option.getD_none, show (1 : Int) > 0 by decide, if_true]
   by_cases h : i < 0
   ·simp only [h, if_true] <;> omega
   ·simp only [h, if_false] <;> omega
theorem slicePick_cut (its : List Value) (lo hi : Option Int) : slicePick its.toArray lo hi none = ((its.drop (HT.sIx its.length 0 lo)).take (HT.sIx its.length its.length hi - HT.sIx its.length 0 lo)).toArray := by
 obtain ⟨h1, h2, h3⟩ := slice_bounds lo hi its.toArray.size; unfold slicePick; rw [h1, h2, h3]; simp only [sliceRange_one, pick_run, List.size_toArray] <;> rfl
def rSlL (K : PySem.W.Frag) : V → Option Int → Option Int → Hp → VK → Prop := fun x lo hi H Q => ∃ a xs, x = .ref a ∧ SqL K H a xs ∧ ∀ p, H p = none → Q (.ref p) (upd H p (.lst (cutV xs lo hi)))
theorem sl_list : SlR X (rSlL X.K) := by
 intro pins s σ H x v vl vu lo hi sl Q I rx hs pl pu h; obtain ⟨a, xs, rfl, hx, q⟩ := h
 cases rx
 obtain ⟨its, r, ht, hz⟩ := I.list hx; have hlen := r.length
 refine ⟨"list", _, slot_list_getitem.lookup, ht.isList.typeIs, ?_⟩; refine wpAny_getItem_list_slice ht.isList hs pl pu .none (by simp) ?_ (by rw [List.size_toArray] <;> omega)
 rw [slicePick_cut, ← hlen]; refine ⟨.ref s.heap.objs.size, _, I.laid (t' := s.toks) (o := .lst (cutV xs lo hi)) (fun b ob q => Heap.get?_push_of_some _ q) (Nat.le_refl _) ?_, rfl, q _ (I.hok.fresh (Nat.le_refl _))⟩; exact ⟨Nat.le_trans (cutV_length xs lo hi) hz, _, 0, (r.drop (HT.sIx xs.length 0 lo)).take (HT.sIx xs.length xs.length hi - HT.sIx xs.length 0 lo), Heap.get?_push_size _ rfl⟩
def flatV : V → Bool
 | .non => true
 | .bl _ => true
 | .int _ => true
 | .str _ => true
 | _ => false
def eqV : V → V → Bool
 | .non, .non => true
 | .bl a, .bl b => a == b
 | .bl a, .int b => (if a then 1 else 0) == b
 | .int a, .bl b => a == (if b then 1 else 0)
 | .int a, .int b => a == b
 | .str a, .str b => a == b
 | _, _ => false
theorem eqAt_V {A : Around} {s : Shared} {y x : V} {u v : Value} (ry : RelV y u) (rx : RelV x v) (fy : flatV y = true) (fx : flatV x = true) : SeqAt.EqAt A s u v (eqV y x) := by
 cases y with
 | non =>
  cases ry
  cases x with
  | non => cases rx; exact SeqAt.EqAt.same _
  | bl b => cases rx; exact SeqAt.EqAt.none_bool b
  | int b => obtain ⟨t, rfl⟩ := rx; exact SeqAt.EqAt.none_int b t
  | str b => obtain ⟨t, rfl⟩ := rx; exact SeqAt.EqAt.none_str b t
  | _ => exact absurd (show false = true from fx) Bool.false_ne_true
 | bl a =>
  cases ry
  cases x with
  | non => cases rx; exact SeqAt.EqAt.bool_none a
  | bl b => cases rx; exact SeqAt.EqAt.bool_bool a b
  | int b => obtain ⟨t, rfl⟩ := rx; exact SeqAt.EqAt.bool_int a b t
  | str b => obtain ⟨t, rfl⟩ := rx; exact SeqAt.EqAt.bool_str a b t
  | _ => exact absurd (show false = true from fx) Bool.false_ne_true
 | int a =>
  obtain ⟨t', rfl⟩ := ry
  cases x with
  | non => cases rx; exact SeqAt.EqAt.int_none a t'
  | bl b => cases rx; exact SeqAt.EqAt.int_bool a t' b
  | int b => obtain ⟨t, rfl⟩ := rx; exact SeqAt.EqAt.int_int a t' b t
  | str b => obtain ⟨t, rfl⟩ := rx; exact SeqAt.EqAt.int_str a t' b t
  | _ => exact absurd (show false = true from fx) Bool.false_ne_true
 | str a =>
  obtain ⟨t', rfl⟩ := ry
  cases x with
  | non => cases rx; exact SeqAt.EqAt.str_none a t'
  | bl b => cases rx; exact SeqAt.EqAt.str_bool a t' b
  | int b => obtain ⟨t, rfl⟩ := rx; exact SeqAt.EqAt.str_int a t' b t
  | str b => obtain ⟨t, rfl⟩ := rx; exact SeqAt.EqAt.str_str a t' b t
  | _ => exact absurd (show false = true from fx) Bool.false_ne_true
 | _ => exact absurd (show false = true from fy) Bool.false_ne_true
def eqU (x : V) (u : Value) : Bool := match u with
 | .none => eqV .non x
 | .bool b => eqV (.bl b) x
 | .int i _ => eqV (.int i) x
 | .str z _ => eqV (.str z) x
 | _ => false
theorem eqU_of {x y : V} {u : Value} (r : RelV y u) (f : flatV y = true) : eqU x u = eqV y x := by
 cases y with
 | non => cases r; rfl
 | bl b => cases r; rfl
 | int i => obtain ⟨t, rfl⟩ := r; rfl
 | str z => obtain ⟨t, rfl⟩ := r; rfl
 | _ => exact absurd (show false = true from f) Bool.false_ne_true
theorem any_eqU {x : V} : ∀ {xs : List V} {us : List Value}, Vals xs us → xs.all flatV = true → us.any (eqU x) = xs.any fun y => eqV y x
 | _, _, .nil, _ => rfl
 | y :: xs, u :: us, .cons r t, f => by
  rw [List.all_cons, Bool.and_eq_true] at f; rw [List.any_cons, List.any_cons, eqU_of r f.1, any_eqU t f.2]
theorem mem_eqAt {A : Around} {s : Shared} {x : V} {v : Value} (rx : RelV x v) (fx : flatV x = true) : ∀ {xs : List V} {us : List Value}, Vals xs us → xs.all flatV = true → ∀ u ∈ us, SeqAt.EqAt A s u v (eqU x u)
 | _, _, .nil, _ => fun u hu => by cases hu
 | y :: xs, u :: us, .cons r t, f => fun u' hu => by
  rw [List.all_cons, Bool.and_eq_true] at f; rcases List.mem_cons.mp hu with rfl | hu
  ·rw [eqU_of r f.1]; exact eqAt_V r rx f.1 fx
  ·exact mem_eqAt rx fx t f.2 u' hu
def inV (x : V) (xs : List V) : Bool := xs.any fun y => eqV y x
def rIn (K : PySem.W.Frag) (neg : Bool) : R2 := fun x y H Q => ∃ p xs, y = .ref p ∧ (SqL K H p xs ∨ SqT K H p xs) ∧ flatV x = true ∧ xs.all flatV = true ∧ Q (.bl (if neg then !inV x xs else inV x xs)) H
theorem op_notIn_seq : OpR X (compareOp .NotIn) (rIn X.K true) := by
 intro pins s σ H x y v u Q I rx ry h; obtain ⟨p, xs, rfl, hq, fx, fs, q⟩ := h
 cases ry
 rcases hq with hq | hq
 ·obtain ⟨its, r, pl, hz⟩ := I.list hq; refine SeqAt.notIn_listAt (eqU x) pl.isList (fun w hw => mem_eqAt rx fx r fs w (by simpa using hw)) ⟨.bl _, H, I, rfl, ?_⟩
  rw [show its.toArray.any (eqU x) = its.any (eqU x) by simp, any_eqU r fs]
  exact q
 ·obtain ⟨its, r, pl, hz⟩ := I.tuple hq; refine SeqAt.notIn_tupleAt (eqU x) pl (fun w hw => mem_eqAt rx fx r fs w (by simpa using hw)) ⟨.bl _, H, I, rfl, ?_⟩
  rw [show its.toArray.any (eqU x) = its.any (eqU x) by simp, any_eqU r fs]
  exact q
theorem call_len_seq : CallR X (.builtin "len") (fun xs H Q => ∃ p ys, xs = [.ref p] ∧ (SqL X.K H p ys ∨ SqT X.K H p ys) ∧ Q (.int ys.length) H) := by
 intro pins s σ H xs us Q I r h; obtain ⟨p, ys, rfl, hq, q⟩ := h; obtain ⟨u, rfl, rx⟩ := vals1 r
 cases rx
 have hn := line63
 rcases hq with hq | hq
 ·obtain ⟨its, r', pl, hz⟩ := I.list hq; have hlen := r'.length
  exact Calls.call_len_list pl.isList (by simp only [List.size_toArray] <;> omega) ⟨.int ys.length, H, I.tok _, ⟨s.toks + 1, by rw [List.size_toArray, hlen]⟩, q⟩
 ·obtain ⟨its, r', pl, hz⟩ := I.tuple hq; have hlen := r'.length
  exact len_tuple pl (by simp only [List.size_toArray] <;> omega) ⟨.int ys.length, H, I.tok _, ⟨s.toks + 1, by rw [List.size_toArray, hlen]⟩, q⟩
theorem call_len_str : CallR X (.builtin "len") (fun xs H Q => ∃ z, xs = [.str z] ∧ z.length ≤ sizeLine ∧ Q (.int z.length) H) := by
 intro pins s σ H xs us Q I r h; obtain ⟨z, rfl, hz, q⟩ := h; obtain ⟨u, rfl, t, rfl⟩ := vals1 r; have hn := line63
 exact len_str (by omega) ⟨.int z.length, H, I.tok _, ⟨_, rfl⟩, q⟩
theorem CallR.or {f : Value} {r r' : List V → Hp → VK → Prop} (h : CallR X f r) (h' : CallR X f r') : CallR X f (fun xs H Q => r xs H Q ∨ r' xs H Q) := by
 intro pins s σ H xs us Q I rs q; rcases q with q | q
 ·exact h pins s σ H xs us Q I rs q
 ·exact h' pins s σ H xs us Q I rs q
theorem call_list_of : CallR X (.type "list") (fun xs H Q => ∃ p ys, xs = [.ref p] ∧ (SqL X.K H p ys ∨ SqT X.K H p ys) ∧ ∀ l, H l = none → Q (.ref l) (upd H l (.lst ys))) := by
 intro pins s σ H xs us Q I r h; obtain ⟨p, ys, rfl, hq, q⟩ := h; obtain ⟨u, rfl, rx⟩ := vals1 r
 cases rx
 have fin : ∀ (its : List Value), Vals ys its → ys.length ≤ sizeLine → ∀ (h' : Heap) (c' : Nat), (∀ b o', s.heap.get? b = some o' → h'.get? b = some o') →
   h'.get? s.heap.objs.size = some { cls := .type "list", dict := none, data := .seq its.toArray c', slots := #[] } → EP X pins σ Q (.ref s.heap.objs.size) { s with heap := h' } := fun its r' hz h' c' kp e =>
  ⟨.ref s.heap.objs.size, _, I.laid (t' := s.toks) kp (Nat.le_refl _) (show ObjOk X.prog X.w _ h' _ (.lst ys) from ⟨hz, its, c', r', e⟩), rfl, q _ (I.hok.fresh (Nat.le_refl _))⟩
 rcases hq with hq | hq
 ·obtain ⟨its, r', pl, hz⟩ := I.list hq; have hlen := r'.length
  obtain ⟨o, ho, hc, n, hd⟩ := pl.isList; exact call_list_seq p (.inl rfl) ho hc hd (fun h' c' kp e => fin its r' hz h' c' kp e) (by simp only [List.size_toArray] <;> omega)
 ·obtain ⟨its, r', pl, hz⟩ := I.tuple hq; have hlen := r'.length
  obtain ⟨o, ho, hc, n, hd⟩ := pl; exact call_list_seq p (.inr rfl) ho hc hd (fun h' c' kp e => fin its r' hz h' c' kp e) (by simp only [List.size_toArray] <;> omega)
theorem call_tuple_of : CallR X (.type "tuple") (fun xs H Q => ∃ p ys, xs = [.ref p] ∧ ((SqL X.K H p ys ∧ ∀ l, H l = none → Q (.ref l) (upd H l (.tup ys))) ∨ (SqT X.K H p ys ∧ Q (.ref p) H))) := by
 intro pins s σ H xs us Q I r h; obtain ⟨p, ys, rfl, h⟩ := h; obtain ⟨u, rfl, rx⟩ := vals1 r
 cases rx
 rcases h with ⟨hq, q⟩ | ⟨hq, q⟩
 ·obtain ⟨its, r', pl, hz⟩ := I.list hq; have hlen := r'.length
  refine call_tuple_list pl.isList (fun h' kp => ?_) (by simp only [List.size_toArray] <;> omega)
  have I1 : Inv X pins σ H { s with heap := h' } := I.kept (t' := s.toks) kp
  have I2 : Inv X pins σ (upd H h'.objs.size (.tup ys)) { s with heap := h'.push { cls := .type "tuple", data := .seq its.toArray } } :=
   I1.laid (t' := s.toks) (fun b o e => Heap.get?_push_of_some _ e) (Nat.le_refl _) (show ObjOk X.prog X.w _ _ _ (.tup ys) from ⟨⟨hz, NoD.new _ _ _⟩, its, r', IsTup.new _ _⟩)
  exact ⟨.ref h'.objs.size, _, I2, rfl, q _ (I1.hok.fresh (Nat.le_refl _))⟩
 ·obtain ⟨its, r', pl, hz⟩ := I.tuple hq; exact call_tuple_same pl ⟨.ref p, H, I, rfl, q⟩
def tyV (K : PySem.W.Frag) (T : String) (x : V) (H : Hp) : Prop := match x with
 | .str _ => T = "str"
 | .int _ => T = "int"
 | .ref p => (T = "list" ∧ ∃ xs, SqL K H p xs) ∨ (T = "tuple" ∧ ∃ o, K.lookup p = some o ∧ o.cls = .type "tuple" ∧ o.dict = none) ∨
   (T = "dict" ∧ ((∃ kvs, H p = some (.dK kvs)) ∨ ∃ kvs, H p = some (.dT kvs))) ∨ (T = "set" ∧ ∃ S n, H p = some (.set S n))
 | _ => False
theorem tyV_is {pins : List (Addr × Obj)} {σ : St} {H : Hp} {s : Shared} {T : String} {x : V} {v : Value} (I : Inv X pins σ H s) (r : RelV x v) (ty : tyV X.K T x H) :
  s.TypeIs v T ∧ ∀ a, v = .ref a → ∃ ob, s.heap.get? a = some ob ∧ ob.dict = none := by
 cases x with
 | str z =>
  obtain ⟨t, rfl⟩ := r
  cases (show T = "str" from ty)
  exact ⟨typeIs_str s z t, fun _ e => nomatch e⟩
 | int i =>
  obtain ⟨t, rfl⟩ := r
  cases (show T = "int" from ty)
  exact ⟨typeIs_int s i t, fun _ e => nomatch e⟩
 | ref p =>
  cases r
  rcases ty with ⟨rfl, xs, hq⟩ | ⟨rfl, o, hk, hc, hd⟩ | ⟨rfl, hk⟩ | ⟨rfl, S, n, hk⟩
  ·obtain ⟨its, _, pl, _⟩ := I.list hq; refine ⟨pl.isList.typeIs, fun a e => ?_⟩
   cases e
   obtain ⟨o, n, e, c, hd, _⟩ := pl; exact ⟨o, e, hd⟩
  ·refine ⟨⟨o, I.kIn p o hk, hc⟩, fun a e => ?_⟩
   cases e
   exact ⟨o, I.kIn _ o hk, hd⟩
  ·have z : ∃ o, s.heap.get? p = some o ∧ o.ExactDict := by
    rcases hk with ⟨kvs, hk⟩ | ⟨kvs, hk⟩
    ·obtain ⟨_, _, _, _, o, _, _, e, ex, _⟩ := I.hok p _ hk; exact ⟨o, e, ex⟩
    ·obtain ⟨_, _, _, _, o, _, _, e, ex, _⟩ := I.hok p _ hk; exact ⟨o, e, ex⟩
   obtain ⟨o, e, ex⟩ := z; refine ⟨⟨o, e, ex.1⟩, fun a e2 => ?_⟩
   cases e2
   exact ⟨o, e, ex.2.1⟩
  ·obtain ⟨o, _, _, _, e, ex, _⟩ := I.hok p _ hk; refine ⟨⟨o, e, ex.1⟩, fun a e2 => ?_⟩
   cases e2
   exact ⟨o, e, ex.2.1⟩
 | _ => exact False.elim ty
def tBM (K : PySem.W.Frag) (T : String) (r : V → List V → Hp → VK → Prop) (to : TE) (t : TA) : TE := fun σ H Q => to σ H fun x H1 => tyV K T x H1 ∧ t σ H1 fun xs H2 => r x xs H2 Q
variable {o e : Expr} {es : List Expr} {to : TE} {t : TA} {name : Str} {apos cpos : Pos} {T id : String} {r : V → List V → Hp → VK → Prop}
theorem pe_bm (pa : PlainAttrs T) (slot : Slot T name id) (hty : typeOf (.builtin id) = pure (.type "method_descriptor")) (hm : MtR X id r) (ho : PE X o to) (ha : PA X (e :: es) t)
  (hbase : attributeBase o name X.env (eval o X.env) = eval o X.env := by rfl)
  (hfew : ((backTo cpos (starEach (e :: es) X.env)).all (fun x => !x.1) && (backToKw cpos (keywordEach [] X.env)).all (fun x => x.1.isSome)
   && decide ((e :: es).length + ([] : List Keyword).length + (if ([] : List Keyword).isEmpty then 0 else 1) < 30)) = true := by rfl)
  (hline : (apos.endLine == cpos.line) = true := by rfl) (hs : starEach (e :: es) X.env = (false, eval e X.env) :: starEach es X.env := by rfl) (hplain : (backTo cpos (starEach es X.env)).any (·.1) = false := by rfl) :
  PE X (.Call (.Attribute o name apos) (e :: es) [] cpos) (tBM X.K T r to t) := by
 intro pins s σ H Q I h; refine wpAny_Call_method_late hbase hfew hline rfl (thn (ho pins s σ H _ I h) fun v s1 ⟨x, H1, I1, r1, ty, q1⟩ => ?_); obtain ⟨h1, h2⟩ := tyV_is I1 r1 ty; refine ⟨T, id, pa, slot, hty, h1, h2, ?_⟩; have hA := ha cpos pins s1 σ H1 _ I1 q1
 rw [hs] at hA ⊢; refine Calls.callWith_builtin (by show (false || (backTo cpos (starEach es X.env)).any (·.1)) = false; rw [hplain] <;> rfl) (Calls.evalArgs_plain ?_)
 exact thn hA fun us s2 ⟨vs, H2, I2, r2, q2⟩ => hm pins s2 σ H2 x vs v us Q I2 r1 r2 q2
end
end L2
namespace L2
open PySem PySem.Spec PyProof.Rows
def MtM (X : Cx) (id : String) (r : V → List V → Hp → VK → Prop) : Prop :=
 ∀ (pins : List (Addr × Obj)) (s : Shared) (σ : St) (H : Hp) (x : V) (xs : List V) (v : Value) (us : List Value) (Q : VK), Inv X pins σ H s → RelV x v → Vals xs us → r x xs H Q →
  wpAny (model X.prog X.w) X.A (call (.builtin id) (v :: us)) (EP X pins σ Q) X.xe s
theorem Vals.one : ∀ {x : V} {us : List Value}, Vals [x] us → ∃ u, us = [u] ∧ RelV x u
 | _, _, .cons r .nil => ⟨_, rfl, r⟩
theorem Vals.two : ∀ {x y : V} {us : List Value}, Vals [x, y] us → ∃ u v, us = [u, v] ∧ RelV x u ∧ RelV y v
 | _, _, _, .cons r (.cons q .nil) => ⟨_, _, rfl, r, q⟩
theorem Vals.zero : ∀ {us : List Value}, Vals [] us → us = []
 | _, .nil => rfl
theorem Vals.reverse {xs : List V} {us : List Value} (h : Vals xs us) : Vals xs.reverse us.reverse := by
 induction h with
 | nil => exact .nil
 | cons r t ih => rw [List.reverse_cons, List.reverse_cons]; exact Vals.append ih (.cons r .nil)
theorem Vals.rep {xs : List V} {us : List Value} (h : Vals xs us) : ∀ k : Nat, Vals (List.replicate k xs).flatten (List.replicate k us).flatten
 | 0 => .nil
 | k + 1 => by
  rw [List.replicate_succ, List.replicate_succ, List.flatten_cons, List.flatten_cons]; exact Vals.append h (Vals.rep h k)
theorem foldl_rep (its : List Value) : ∀ (k : Nat) (acc : List Value),
  List.foldl (fun x1 x2 => x1 ++ x2) acc.toArray (List.replicate k its.toArray) = (acc ++ (List.replicate k its).flatten).toArray
 | 0, acc => by simp
 | k + 1, acc => by
  have e : acc.toArray ++ its.toArray = (acc ++ its).toArray := by simp
  have e2 : (acc ++ its) ++ (List.replicate k its).flatten = acc ++ (List.replicate (k + 1) its).flatten := by
   rw [List.replicate_succ, List.flatten_cons, List.append_assoc]
  rw [← e2, ← foldl_rep its k (acc ++ its), ← e, List.replicate_succ, List.foldl_cons]
section
variable {X : Cx} {pins : List (Addr × Obj)} {σ : St} {H : Hp} {s : Shared} {l b : Addr} {xs ys zs : List V}
theorem Inv.lset {its its' : List Value} {n : Nat} {f : Array Value → Array Value} {t' : Nat} (I : Inv X pins σ H s) (hH : H l = some (.lst xs))
  (e : s.heap.get? l = some { cls := .type "list", data := .seq its.toArray n }) (hf : f its.toArray = its'.toArray) (hv : Vals ys its') (hz : ys.length ≤ sizeLine) :
  Inv X pins σ (upd H l (.lst ys)) { s with heap := s.heap.update l (Obj.mapSeq f), toks := t' } := by
 have q := PySem.IsL.update e f
 rw [hf] at q; refine I.write (x := l) (e := l) (by rw [hH]; exact trivial) (.inl rfl) (fun b' u hb hu => (Heap.get?_update_other s.heap (Obj.mapSeq f) (Ne.symm hb)).trans hu) ⟨_, q⟩ ?_
 exact ⟨hz, its', _, hv, q⟩
theorem Inv.lnew {its : List Value} {t' : Nat} (I : Inv X pins σ H s) (hv : Vals ys its) (hz : ys.length ≤ sizeLine) :
  Inv X pins σ (upd H s.heap.objs.size (.lst ys)) { s with heap := s.heap.push { cls := .type "list", data := .seq its.toArray }, toks := t' } :=
 I.laid (fun _ _ q => Heap.get?_push_of_some _ q) (Nat.le_refl _) ⟨hz, its, 0, hv, Heap.get?_push_size _ rfl⟩
theorem Inv.fresh (I : Inv X pins σ H s) : H s.heap.objs.size = none := I.hok.fresh (Nat.le_refl _)
theorem Inv.lstM (I : Inv X pins σ H s) (hH : H l = some (.lst xs)) : xs.length ≤ sizeLine ∧ ∃ (its : List Value) (n : Nat), Vals xs its ∧ xs.length = its.length ∧ s.heap.get? l = some { cls := .type "list", data := .seq its.toArray n } := by
 obtain ⟨z, its, n, r, e⟩ := I.hok l _ hH; exact ⟨z, its, n, r, r.length, e⟩
theorem notLongL {n : Nat} (h : n ≤ sizeLine) : Builtin.List.listTooLong n = false := by
 unfold Builtin.List.listTooLong; exact decide_eq_false (by omega)
end
section
variable {X : Cx}
def rAppend : V → List V → Hp → VK → Prop := fun x vs H Q => ∃ l xs y, x = .ref l ∧ vs = [y] ∧ H l = some (.lst xs) ∧ xs.length < sizeLine ∧ Q .non (upd H l (.lst (xs ++ [y])))
theorem mt_append : MtM X "list.append" rAppend := by
 intro pins s σ H x vs v us Q I rx rv h; obtain ⟨l, xs, y, rfl, rfl, hH, hz, q⟩ := h
 cases rx
 obtain ⟨u, rfl, ru⟩ := rv.one; obtain ⟨z, its, n, r, hl, e⟩ := I.lstM hH; refine call_meets F.slot_list_append ⟨_, e, rfl⟩ F.entry_list_append (F.args_list_append_2 _ _) (PySem.list_append l its.toArray n u (by rw [List.size_toArray]; omega)) ⟨e, ?_⟩
 refine ⟨.non, _, I.lset (its' := its ++ [u]) hH e (by simp) (r.append (.cons ru .nil)) ?_, rfl, q⟩
 rw [List.length_append, List.length_singleton]; omega
def rRep : R2 := fun x y H Q => ∃ l k xs, x = .ref l ∧ y = .int k ∧ H l = some (.lst xs) ∧ -(2 ^ 63) ≤ k ∧ k < 2 ^ 63 ∧ xs.length * k.toNat ≤ sizeLine ∧
 ∀ p, H p = none → Q (.ref p) (upd H p (.lst (List.replicate k.toNat xs).flatten))
theorem len_rep {α : Type} (xs : List α) (k : Nat) : (List.replicate k xs).flatten.length = k * xs.length := by
 induction k with
 | zero => simp
 | succ k ih => rw [List.replicate_succ, List.flatten_cons, List.length_append, ih, Nat.succ_mul, Nat.add_comm]
theorem op_rep : OpR X (binaryOp .Mult) rRep := by
 intro pins s σ H x y v u Q I rx ry h; obtain ⟨l, k, xs, rfl, rfl, hH, h1, h2, hz, q⟩ := h
 cases rx
 obtain ⟨t, rfl⟩ := ry; obtain ⟨z, its, n, r, hl, e⟩ := I.lstM hH; have hlen : its.toArray.size * k.toNat ≤ sizeLine := by rw [List.size_toArray, ← hl]; exact hz
 have hcap : ¬ its.toArray.size * k.toNat > (2 ^ 63 - 1) / 8 := by
  have : (sizeLine : Nat) ≤ (2 ^ 63 - 1) / 8 := by decide
  omega
 have hfit : ¬ (!Builtin.List.listFitsIndex k) = true := by
  rw [fitsIndex_both h1 h2]; exact Bool.false_ne_true
 have hlong : ¬ Builtin.List.listTooLong (its.toArray.size * k.toNat) = true := by
  rw [notLongL hlen]; exact Bool.false_ne_true
 have hnew : List.foldl (fun x1 x2 => x1 ++ x2) #[] (List.replicate (if its.toArray.isEmpty = true then 0 else k.toNat) its.toArray) = (List.replicate k.toNat its).flatten.toArray := by
  have f0 : ∀ m : Nat, List.foldl (fun x1 x2 => x1 ++ x2) #[] (List.replicate m its.toArray) = (List.replicate m its).flatten.toArray := fun m => by
   have := foldl_rep its m []
   rw [List.nil_append] at this; exact this
  rw [f0]
  cases its with
  | nil => simp
  | cons a r' => rw [if_neg (by simp)]
 refine wpAny_binaryOp_repeat_ref (T := "list") (U := "int") (by decide) ⟨_, e, rfl⟩ (fun s' => typeIs_int s' k t) noFill_list_mul F.fills_int_mul F.slot_int_rmul repeat_list F.slot_int_index.lookup
  (call_meets F.slot_int_rmul (typeIs_int s k t) F.entry_int_rmul (F.args_int_rmul_2 _ _) (int___rmul___int_list k t l its.toArray n)
   ⟨e, rfl, ⟨_, e, rfl⟩, call_meets F.slot_list_mul ⟨_, e, rfl⟩ F.entry_list_mul (F.args_list_mul_2 _ _) (AutoListH.list___mul___list_int_3 l its.toArray n k t hfit hcap hlong) ⟨e, ?_⟩⟩)
 rw [hnew]; exact ⟨.ref _, _, I.lnew (t' := s.toks) (r.rep k.toNat) (by rw [len_rep, Nat.mul_comm]; exact hz), rfl, q _ I.fresh⟩
end
section
variable {prog : Program} {w : World} {A : Around} {E : Value → Shared → Prop} {s : Shared}
theorem bounds_run {a c n : Nat} (hac : a ≤ c) (hc : c ≤ n) : sliceBounds (some (a : Int)) (some (c : Int)) none n = ((a : Int), (c : Int), 1) := by
 simp only [sliceBounds, Option.getD_none]; have h1 : ¬ ((a : Int) < 0) := by omega
 have h2 : ¬ ((c : Int) < 0) := by omega
 simp only [h1, h2, if_false, show (1 : Int) > 0 by decide, if_true]
 congr 1
 ·omega
 ·congr 1; omega
set_option maxRecDepth 100000 in
theorem setItem_slice {l b sl : Addr} {items new : Array Value} {n n2 : Nat} {vl vu : Value} {a c : Nat} {Q : Unit → Shared → Prop}
  (e : s.heap.get? l = some { cls := .type "list", data := .seq items n }) (e2 : s.heap.get? b = some { cls := .type "list", data := .seq new n2 }) (hne : l ≠ b)
  (hs : s.heap.IsSliceOf sl vl vu .none) (pl : IsPart vl (some (a : Int))) (pu : IsPart vu (some (c : Int))) (hac : a ≤ c) (hc : c ≤ items.size)
  (hsz : items.size + new.size ≤ sizeLine) (h : Q () { s with heap := s.heap.update l (Obj.mapSeq fun xs => xs.extract 0 a ++ new ++ xs.extract c xs.size) }) :
  wpAny (model prog w) A (setItem (.ref l) (.ref sl) (.ref b)) Q E s := by
 have hl : s.heap.IsList l items := PySem.IsL.isList e
 have hb : s.heap.IsList b new := PySem.IsL.isList e2
 obtain ⟨os, hos, hcs, hds⟩ := id hs; have hTs : s.TypeIs (.ref sl) "slice" := ⟨os, hos, hcs⟩
 have hstep : ¬ ((rawPart none == rawInt 0) = true) := Bool.false_ne_true
 have hsame : Builtin.List.listSameRef (.ref l) (.ref b) = false := by
  unfold Builtin.List.listSameRef; exact beq_eq_false_iff_ne.mpr hne
 have hmax : (max (a : Int) (c : Int)).toNat = c := by omega
 have hz' : ((fun xs : Array Value => xs.extract 0 a ++ new ++ xs.extract c xs.size) items).size ≤ sizeLine + 1 := by
  simp only [Array.size_append, Array.size_extract]; omega
 unfold setItem
 try with_reducible refine wpAny_holding ?_
 first | refine wpAny_bind (wpAny_pure ?_) | skip
 refine wpAny_bind (wpAny_sequenceKey hl.typeIs (by decide) ?_)
 refine wpAny_bind (wpAny_callSpecial?_slot (name := Str.ofString "__setitem__") hl.typeIs slot_list_setitem
  (wpAny_call_entry slot_list_setitem hl.typeIs entry_list_setitem ?_ (args_list_setitem _ _ _)))
 show wpAny _ _ (Builtin.List.listSubscript? (.ref sl) >>= _) _ _ s
 refine wpAny_bind ?_; unfold Builtin.List.listSubscript?; refine wpAny_bind (wpAny_specialOf hTs slice_no_index ?_); simp only [Option.isNone_none, if_true]; refine wpAny_pure ?_; show wpAny _ _ (typeOf (.ref sl) >>= _) _ _ s
 refine wpAny_bind (wpAny_typeOf hTs ?_)
 first
  | rw [if_neg (by decide)]
  | refine PySem.W.KFB.if_not (by decide) ?_
 rw [listSliceParts_eq]; refine wpAny_bind (wpAny_bind (wpAny_field hos hds (x := .none) rfl (wpAny_bind (wpAny_listPart .none ?_)))); rw [if_neg hstep]; refine wpAny_bind (wpAny_field hos hds (x := vl) rfl (wpAny_bind (wpAny_listPart pl ?_))); refine wpAny_bind (wpAny_field hos hds (x := vu) rfl (wpAny_bind (wpAny_listPart pu (wpAny_pure ?_))))
 first
  | simp only [hsame, Bool.false_eq_true, if_false]
  | refine PySem.W.KFB.if_not hsame ?_
  | (dsimp only
     rw [if_neg (by rw [hsame]; exact Bool.false_ne_true)])
 refine wpAny_bind (m := Builtin.List.listAllItems (.ref b) "must assign iterable to extended slice") ?_; unfold Builtin.List.listAllItems; refine wpAny_bind (wpAny_typeOf hb.typeIs ?_)
 first
  | refine PySem.W.KFB.if_so (by decide) ?_
  | rw [if_pos (by decide)]
  | simp only [beq_self_eq_true, Bool.true_or, if_true]
 unfold Builtin.List.listItems; refine wpAny_bind (wpAny_seqItems e2 rfl (wpAny_pure ?_)); refine wpAny_bind (wpAny_bind (wpAny_seqItems e rfl (wpAny_pure ?_))); refine wpAny_bind (wpAny_of_eq ((sliceIndices_raw (some (a : Int)) (some (c : Int)) none items.size (by simp)).trans (congrArg (pure : Int × Int × Int → Sem (Int × Int × Int)) (bounds_run hac hc))) ?_)
 show wpAny _ _ (if ((1 : Int) == 1) = true then _ else _) _ _ s
 rw [if_pos (by decide)]
 refine wpAny_bind (wpAny_rule ?_)
 first
  | simp only [notLongL hsz, Bool.false_eq_true, if_false]
  | refine PySem.W.KFB.if_not (notLongL hsz) ?_
 first | refine wpAny_bind (wpAny_pure ?_) | skip
 show wpAny _ _ (updateSeq l (fun xs => xs.extract 0 ((a : Int)).toNat ++ new ++ xs.extract (max (a : Int) (c : Int)).toNat xs.size) >>= _) _ _ s
 rw [hmax, Int.toNat_natCast]; refine wpAny_bind (wpAny_updateSeq (hz := Nat.le_trans (Nat.le_add_right _ _) hsz) (_hz' := hz') e rfl ?_); refine wpAny_bind (wpAny_letGo ?_)
 first
  | exact wpAny_bind (wpAny_pure (wpAny_pure ⟨.none, rfl, wpAny_pure h⟩))
  | exact wpAny_pure ⟨.none, rfl, wpAny_pure h⟩
end
end L2
namespace Att
open PySem PySem.W PySem.Calls PyProof.Rows
theorem ints_of_wellAll {P : Params} {h : Heap} : ∀ (ns : List Int) (vs : List Value), WellAll P h vs (ns.map WData.int) → IntsAre vs ns := by
 intro ns
 induction ns with
 | nil =>
  intro vs w; rw [List.map_nil] at w
  cases w
  exact .nil
 | cons n ns ih =>
  intro vs w; rw [List.map_cons] at w
  cases w with
  | cons a b =>
   cases a
   exact .cons _ _ (ih _ b)
theorem script_of {l : OpenLaw} {n : Nat} (hn : l.most = some n) {P : Params} {h : Heap} {args : List WData} {vals : List Value}
  (hpre : l.row.toRowW.claim.pre args = true) (hwl : WellAll P h vals args) :
  ∃ a vs ns, vals = [Value.ref a] ∧ args = [WData.list (ns.map WData.int)] ∧ h.get? a = some { cls := .type "list", data := .seq vs.toArray } ∧ IntsAre vs ns ∧ ns.length ≤ n := by
 have hsh : WShape.hasAll [] args [.list .int] = true := (pre_splitW hpre).1
 have hc : l.pre.holds [] { args := args } = true := (pre_splitW hpre).2
 obtain ⟨d, r, rfl, h1, h2⟩ := hasAllW_cons hsh; obtain rfl := hasAllW_nil h2; obtain ⟨xs, rfl, h3⟩ := hasW_list h1; obtain ⟨ns, rfl⟩ := items_int h3; have hlen : ns.length ≤ n := by
  unfold OpenLaw.pre at hc; have h4 : (WTm.not (.lt (.lit (.int (n : Int))) (.len (.arg 0)))).holds [] { args := [.list (ns.map .int)] } = true := by
   have h4 := (holds_andW hc).1
   rw [hn] at h4; exact h4
  have h5 := condW_of h4 (w_not (w_lt w_lit (w_len_list (w_arg rfl))))
  rw [List.length_map] at h5; refine Nat.le_of_not_lt fun q => ?_; have q' : (n : Int) < ((ns.length : Nat) : Int) := by omega
  first
   | (rw [decide_eq_true q'] at h5; exact absurd h5 (by decide))
   | (simp at h5; omega)
 cases hwl with
 | cons w1 w2 =>
  cases w2
  cases w1 with
  | list ho hall => exact ⟨_, _, ns, rfl, rfl, ho, ints_of_wellAll ns _ hall, hlen⟩
theorem post_true (l : OpenLaw) (args : List WData) : l.row.toRowW.claim.post args (.bool true) args = true :=
 postW_of (r := l.row.toRowW) (X := (true == true))
  (show WShape.has [] (.bool true) .bool = true by first | rfl | decide | simp [WShape.has, WShape.arms, WShape.armsAll])
  (show (WTm.eq .res (.lit (.bool true))).value [] { args := args, res := some (.bool true), after := args } = some (.bool (true == true)) from w_eq_bool (w_res rfl) w_lit) rfl
theorem attach_call {l : OpenLaw} {n : Nat} {q : Program} {loose : List Str} {XP : (Str → Option Value) → Heap → Prop} {YP : World → Heap → Prop} {d : DefRec}
  (hn : l.most = some n) (hdf : d.params.defaults = [])
  (call : ∀ (w : World) (s₀ s₁ : Shared) (mg mb : Str → Option Value) (fa : Addr) (o : Obj) (pm cd doc : Value) (a : Addr) (vs : List Value) (ns : List Int),
   Ground q loose [] XP w s₀ mg mb s₁.heap → YP w s₁.heap →
   s₁.heap.get? fa = some o → o.data = .func (docDef d.name d.params d.body d.scope pm cd doc) → s₁.heap.CodeRec cd d.name → mg d.name = some (.ref fa) →
   s₁.heap.get? a = some { cls := .type "list", data := .seq vs.toArray } → IntsAre vs ns → ns.length ≤ n → s₁.gens = #[] →
   codeAny (model l.prog w) callerA (.call (.ref fa) ⟨[.ref a], []⟩) (fun r s' => r = .ok (.ret (.bool true)) ∧ OldK s₁.heap s'.heap ∧ s'.os = s₁.os ∧ AllBare s'.gens) s₁) :
  WalkO q loose XP YP l.row.toRowW d [] (fun f vs => PySem.call f vs) := by
 intro w s₀ s₁ mg mb G Y fa o pm cd doc dV kV ho hd hcd hD hmg hg args vals as hpre hlay hrd hwl hlo; obtain rfl : dV = .none := Dflts.none hD hdf; obtain rfl : kV = .none := Dflts.noKw hD; obtain ⟨a, vs, ns, rfl, rfl, hobj, hints, hlen⟩ := script_of hn hpre hwl; refine enter_call (codeAny_mono (call w s₀ s₁ mg mb fa o pm cd doc a vs ns G Y ho (fd_plain hd) hcd hmg hobj hints hlen hg) fun r s' hq => ?_); obtain ⟨rfl, h2, h3, h4⟩ := hq; exact ⟨.inl ⟨.bool true, .bool true, [], rfl, fun _ => rfl, .bool true, post_true l _, fun _ => ⟨List.Pairwise.nil, fun _ hm => (nomatch hm)⟩⟩, h2, h3, h4⟩
end Att
namespace L2
open PySem PySem.Spec PyProof.Rows
theorem vals_ints : ∀ {vs : List Value} {ns : List Int}, IntsAre vs ns → Vals (ns.map V.int) vs
 | _, _, .nil => .nil
 | _, _, .cons n t h => .cons ⟨t, rfl⟩ (vals_ints h)
def Only (H : Hp) : Prop := ∀ b, H b = none ∨ ∃ o xs, H b = some (.frz o (.lst xs))
theorem law_call {P : Program} {w : World} {K : PySem.W.Frag} {mg mb : Str → Option Value} {CX : CXT} {k : Nat} {fa a : Addr} {fd : FuncData} {x : Str} {sp : Sp} {s₁ : Shared} {vs : List Value} {ns : List Int}
  (KX : K.In s₁.heap) (hns : s₁.heap.Ns mainGlobals mg) (hb : s₁.heap.Ns builtinsNs mb) (hbb : ∀ x : Str, x ≠ "__name__" → mb x = bootBuiltins x) (hlim : s₁.heap.NoLimit) (hg : s₁.gens = #[])
  (ha : s₁.heap.get? a = some { cls := .type "list", data := .seq vs.toArray }) (hi : IntsAre vs ns) (hl : ns.length ≤ sizeLine) (hr : Room k callerA)
  (F : ∀ base : Heap, K.In base → base.Ns mainGlobals mg → FnOk P w K mg base CX k fa fd [x] sp) (hbind : ∀ (s : Shared) (u : Value), BindsTo s fd ⟨[u], []⟩ [(x, u)])
  (hsp : ∀ H : Hp, Only H → SqL K H a (ns.map V.int) → sp [.ref a] H (fun v _ => v = .bl true) fun _ _ _ => False)
  (hCX : ∀ H e s', CX [] H s₁ (fun _ _ _ => False) e s' → False) :
  codeAny (model P w) callerA (.call (.ref fa) ⟨[.ref a], []⟩) (fun r s' => r = .ok (.ret (.bool true)) ∧ OldK s₁.heap s'.heap ∧ s'.os = s₁.os ∧ AllBare s'.gens) s₁ := by
 have rv := vals_ints hi
 have lenV := hi.length
 -- from an abstract heap in which nothing but the script may be tracked
 have core : ∀ H : Hp, Only H → SqL K H a (ns.map V.int) → HOk P w H s₁.heap → (∀ b, H b ≠ none → b = a) → (H a ≠ none → K.lookup a = none) →
   codeAny (model P w) callerA (.call (.ref fa) ⟨[.ref a], []⟩) (fun r s' => r = .ok (.ret (.bool true)) ∧ OldK s₁.heap s'.heap ∧ s'.os = s₁.os ∧ AllBare s'.gens) s₁ := by
  intro H hO hS hok hA hK; have base_of : ∀ {b : Addr} {o : Obj}, s₁.heap.get? b = some o → H b = none → (hidT s₁.heap H).get? b = some o := fun e n => hidT_get e n
  have noA : ∀ {b : Addr} {o : Obj} {es : Array DictEntry} {ep : Nat}, s₁.heap.get? b = some o → o.data = .dict es ep → H b = none := fun {b o es ep} e d => by
   cases q : H b with
   | none => rfl
   | some u =>
    have e' : b = a := hA b (by rw [q]; simp)
    subst e'; rw [ha] at e; cases e; have d' : Data.seq vs.toArray _ = Data.dict es ep := d
    cases d'
  have nsK : ∀ {b : Addr} {m : Str → Option Value}, s₁.heap.Ns b m → (hidT s₁.heap H).Ns b m := fun {b m} ⟨o, es, ep, e, d, r⟩ => ⟨o, es, ep, base_of e (noA e d), d, r⟩
  have hKb : K.In (hidT s₁.heap H) := fun b o e => base_of (KX b o e) (by
   cases q : H b with
   | none => rfl
   | some u =>
    have e' : b = a := hA b (by rw [q]; simp)
    subst e'; rw [hK (by rw [q]; simp)] at e; cases e)
  have hM : Mod K mg (hidT s₁.heap H) := ⟨hKb, nsK hns, ⟨mb, nsK hb, hbb⟩, let ⟨mc, h1, h2⟩ := hlim; ⟨mc, nsK h1, h2⟩⟩
  have e0 : Env0 P w K mg (hidT s₁.heap H) callerA [] s₁ H := ⟨rfl, hM, fun b o e => of_hidT e, Nat.le_of_eq (hidT_size _ _), trivial, fun b hb => absurd (show b ∈ ([] : List Addr) from hb) (by simp), hok, .of_eq hg⟩
  refine codeAny_mono ((F _ hKb (nsK hns)).run callerA [] s₁ H ⟨[.ref a], []⟩ [.ref a] [.ref a] _ _ hr e0 (hbind s₁ (.ref a)) (.cons rfl .nil) (hsp H hO hS)) fun r s' h => ?_
  cases r with
  | error e => exact (hCX H e s' h).elim
  | ok fl =>
   cases fl with
   | next => exact False.elim h
   | brk => exact False.elim h
   | cont => exact False.elim h
   | ret u =>
    obtain ⟨v, H', os, bare, un, hok', r', q⟩ := h; have q' : v = .bl true := q
    subst q'; obtain rfl : u = Value.bool true := r'; refine ⟨rfl, OldK.of_keep fun b o e => ?_, os, bare⟩
    cases q : H b with
    | none => exact un.keep b o e q (by intro z; exact absurd (show b ∈ ([] : List Addr) from z) (by simp)) (by simp)
    | some u =>
     rcases hO b with z | ⟨ob, xs, z⟩
     ·rw [q] at z; cases z
     ·have z2 := un.frzs b ob _ z
      obtain ⟨e1, _⟩ := hok b _ z; obtain ⟨e2, _⟩ := hok' b _ z2; rw [e] at e1; cases e1; exact e2
 cases hk : K.lookup a with
 | some o =>
  -- the script is one of the module's own objects
  have e := KX a o hk
  rw [ha] at e
  cases e
  refine core (fun _ => none) (fun _ => .inl rfl) (.inr ⟨_, vs.toArray, _, hk, rfl, rfl, rfl, by rw [List.size_toArray, lenV]; exact hl, by simpa using rv⟩) (fun b u z => by have z' : (none : Option HO) = some u := z; cases z') (fun b z => absurd rfl z) fun z => absurd rfl z
 | none =>
  refine core (fun b => if b = a then some (.frz { cls := .type "list", data := .seq vs.toArray } (.lst (ns.map V.int))) else none) (fun b => ?_) (.inl (.inr ⟨{ cls := .type "list", data := .seq vs.toArray }, if_pos rfl⟩)) (fun b u z => ?_) (fun b z => ?_) fun _ => hk
  ·by_cases hb : b = a
   ·exact .inr ⟨_, _, if_pos hb⟩
   ·exact .inl (if_neg hb)
  ·by_cases hb : b = a
   ·have z' := (if_pos hb).symm.trans z
    cases z'
    subst hb; exact ⟨ha, by rw [List.length_map]; exact hl, vs, _, rv, ha⟩
   ·have z' := (if_neg hb).symm.trans z
    cases z'
  ·by_cases hb : b = a
   ·exact hb
   ·exact absurd (if_neg hb) z
end L2
namespace L2
open PySem PySem.Spec PyProof.Rows
theorem walk_of {l : PySem.W.OpenLaw} {n k : Nat} {q : Program} {loose : List Str} {XP : (Str → Option Value) → Heap → Prop} {YP : World → Heap → Prop} {d : DefRec} {K : Params → PySem.W.Frag} {CX : World → CXT} {sp : World → Sp} {x : Str}
  (hn : l.most = some n) (hn2 : n ≤ sizeLine) (hdf : d.params.defaults = []) (hr : Room k callerA)
  (hY : ∀ (w : World) (h : Heap), YP w h → (K w.params).In h)
  (F : ∀ (w : World) (mg : Str → Option Value) (fa : Addr) (h : Heap), (K w.params).In h → h.Ns mainGlobals mg → mg d.name = some (.ref fa) →
   ∃ fd : FuncData, (∀ (s : Shared) (u : Value), BindsTo s fd ⟨[u], []⟩ [(x, u)]) ∧
    ∀ base : Heap, (K w.params).In base → base.Ns mainGlobals mg → FnOk l.prog w (K w.params) mg base (CX w) k fa fd [x] (sp w))
  (hsp : ∀ (w : World) (H : Hp) (a : Addr) (ns : List Int), ns.length ≤ n → Only H → SqL (K w.params) H a (ns.map V.int) → sp w [.ref a] H (fun v _ => v = .bl true) fun _ _ _ => False)
  (hCX : ∀ (w : World) (H : Hp) (s : Shared) (e : Value) (s' : Shared), CX w [] H s (fun _ _ _ => False) e s' → False) :
  PySem.W.WalkO q loose XP YP l.row.toRowW d [] (fun f vs => PySem.call f vs) := by
 refine Att.attach_call hn hdf fun w s₀ s₁ mg mb fa o pm cd doc a vs ns G Y ho hd hcd hmg hobj hints hlen hg => ?_; have KX := hY w _ Y
 obtain ⟨fd, hb, hF⟩ := F w mg fa _ KX G.T.g hmg; exact law_call KX G.T.g G.T.b G.T.builtins G.T.nolimit hg hobj hints (Nat.le_trans hlen hn2) hr hF hb (fun H hO hS => hsp w H a ns hlen hO hS) fun H e s' => hCX w H s₁ e s'
end L2
namespace L2
open PySem PySem.Spec PyProof.Rows
def defArgs (s : Stmt) : Arguments := match s with
 | .FunctionDef _ a _ _ _ _ _ _ _ _ => a
 | _ => { posonlyargs := [], args := [], vararg := none, kwonlyargs := [], kw_defaults := [], kwarg := none, defaults := [] }
def defBody (s : Stmt) : List Stmt := match s with
 | .FunctionDef _ _ b _ _ _ _ _ _ _ => b
 | _ => []
def defScope (s : Stmt) : Scope := match s with
 | .FunctionDef _ _ _ _ _ _ sc _ _ _ => sc
 | _ => { kind := .function, names := [], isGenerator := false, isCoroutine := false }
abbrev CX0 : CXT := fun _ _ _ _ _ _ => False
abbrev E0 : XK := fun _ _ _ => False
theorem pass0 {X : Cx} : Passes CX0 X E0 := fun _ _ _ _ _ _ _ h => h.elim
structure Fun (K : PySem.W.Frag) (x qual : Str) (st : Stmt) (f : Addr) (fd : FuncData) : Prop where
 ex : ∃ (oc : Value) (od : Option Addr) (kV doc pm : Value) (an : Option Addr) (cdv ct : Value) (osl : Array (Option Value)),
  fd = PySem.W.fnOf x qual (defArgs st) (defBody st) (defScope st) .none kV doc pm an cdv ct ∧ K.lookup f = some ⟨oc, od, .func fd, osl⟩ ∧ PySem.W.codeIn K cdv qual = true
 kp : PySem.W.keepIn K (.ref f) = true
section
variable {P : Program} {w : World} {K : PySem.W.Frag} {mg : Str → Option Value} {base : Heap}
theorem Fun.ok {x qual : Str} {st : Stmt} {f : Addr} {fd : FuncData} {N ps : List Str} {k : Nat} {sp : Sp} (F : Fun K x qual st f fd) (S : FnScope N ps (defScope st)) (len : ∀ vs H Q E, sp vs H Q E → vs.length = ps.length)
  (hbody : ∀ (cdv : Value) (A : Around) (outer : List Env) (s : Shared) (H : Hp) (vs : List V) (Q : VK) (E : XK), Room k (A.deeper (envOfC qual (defScope st) s.heap.objs.size f cdv)) → sp vs H Q E →
   ∃ t, PSs (cxOf CX0 P w K mg base N qual (defScope st) f cdv A outer s H E).nox (defBody st) t ∧ t { nx := fun _ H' => Q .non H', rt := Q } (start N vs) H) : FnOk P w K mg base CX0 (k + 1) f fd ps sp := by
 obtain ⟨oc, od, kV, doc, pm, an, cdv, ct, osl, rfl, lk, hcd⟩ := F.ex; refine fn_of lk hcd S len fun A outer s H vs Q E hr hsp => ?_; obtain ⟨t, h, q⟩ := hbody cdv A outer s H vs Q E hr hsp; exact ⟨t, h.nox, q⟩
theorem Fun.binds {x qual : Str} {st : Stmt} {f : Addr} {fd : FuncData} {ps : List Str} (F : Fun K x qual st f fd)
  (h : ∀ (kV doc pm : Value) (an : Option Addr) (cdv ct : Value) (us : List Value), us.length = ps.length → bindArgs (PySem.W.fnOf x qual (defArgs st) (defBody st) (defScope st) .none kV doc pm an cdv ct) ⟨us, []⟩ = pure (ps.zip us)) : Binds K fd ps [] := by
 obtain ⟨oc, od, kV, doc, pm, an, cdv, ct, osl, rfl, lk, hcd⟩ := F.ex; exact .all (h kV doc pm an cdv ct)
theorem fun_mk {x qual : Str} {st : Stmt} {f : Addr} {oc : Value} {od an : Option Addr} {osl : Array (Option Value)} {kV doc pm cdv ct : Value} (l : K.lookup f = some ⟨oc, od, .func (PySem.W.fnOf x qual (defArgs st) (defBody st) (defScope st) .none kV doc pm an cdv ct), osl⟩)
  (c : PySem.W.codeIn K cdv qual = true) (k : PySem.W.keepIn K (.ref f) = true) : Fun K x qual st f (PySem.W.fnOf x qual (defArgs st) (defBody st) (defScope st) .none kV doc pm an cdv ct) := ⟨⟨oc, od, kV, doc, pm, an, cdv, ct, osl, rfl, l, c⟩, k⟩
end
theorem iteF {A B : Prop} (h : B) : if false = true then A else B := by
 rw [if_neg Bool.false_ne_true]; exact h
theorem iteT {A B : Prop} (h : A) : if true = true then A else B := by
 rw [if_pos rfl]; exact h
def Same (H H' : Hp) : Prop := ∀ b o, H b = some o → H' b = some o
theorem Same.refl (H : Hp) : Same H H := fun _ _ h => h
theorem Same.trans {H H1 H2 : Hp} (a : Same H H1) (b : Same H1 H2) : Same H H2 := fun c o h => b c o (a c o h)
theorem Same.free {H H' : Hp} (e : Same H H') {l : Addr} (h : H' l = Option.none) : H l = Option.none := by
 cases q : H l with
 | none => rfl
 | some o =>
  rw [e l o q] at h
  cases h
theorem Same.seq {K : PySem.W.Frag} {H H' : Hp} {a : Addr} {xs : List V} (e : Same H H') (h : SqL K H a xs) : SqL K H' a xs := by
 rcases h with (h | ⟨o, h⟩) | h
 ·exact .inl (.inl (e _ _ h))
 ·exact .inl (.inr ⟨o, e _ _ h⟩)
 ·exact .inr h
end L2
namespace L2
open PySem PySem.Spec PyProof.Rows
section
variable {κ : Type} [DecidableEq κ]
def valV (kvs : List (κ × V)) (k : κ) : Option V := (kvs.find? fun kv => decide (kv.1 = k)).map (·.2)
def putK (kvs : List (κ × V)) (k : κ) (v : V) : List (κ × V) :=
 if (kvs.any fun kv => decide (kv.1 = k)) = true then kvs.map (fun kv => if kv.1 = k then (kv.1, v) else kv) else kvs ++ [(k, v)]
def dropK (kvs : List (κ × V)) (k : κ) : List (κ × V) := kvs.filter fun kv => decide (kv.1 ≠ k)
theorem valV_pos {p : κ × V} {r : List (κ × V)} {k : κ} (e : p.1 = k) : valV (p :: r) k = some p.2 := by simp [valV, List.find?_cons, e]
theorem valV_neg {p : κ × V} {r : List (κ × V)} {k : κ} (e : ¬ p.1 = k) : valV (p :: r) k = valV r k := by simp [valV, List.find?_cons, e]
theorem valV_any (k : κ) : ∀ kvs : List (κ × V), (kvs.any fun kv => decide (kv.1 = k)) = (valV kvs k).isSome
 | [] => rfl
 | p :: r => by
  rw [List.any_cons]
  by_cases e : p.1 = k
  ·simp only [valV_pos e, decide_eq_true e, Bool.true_or, Option.isSome_some]
  ·rw [valV_neg e, decide_eq_false e, Bool.false_or]; exact valV_any k r
theorem RelO.isSome_eq {o : Option V} {u : Option Value} (r : RelO o u) : o.isSome = u.isSome := by
 cases o with
 | none => cases u with
  | none => rfl
  | some _ => exact (show False from r).elim
 | some _ => cases u with
  | none => exact (show False from r).elim
  | some _ => rfl
theorem RelO.getD {o : Option V} {u : Option Value} {d : V} {d' : Value} (r : RelO o u) (rd : RelV d d') : RelV (o.getD d) (u.getD d') := by
 cases o with
 | none => cases u with
  | none => exact rd
  | some _ => exact (show False from r).elim
 | some _ => cases u with
  | none => exact (show False from r).elim
  | some _ => exact r
theorem KV.val {kvs : List (κ × V)} {vs : List (κ × Value)} (r : KV kvs vs) (k : κ) : RelO (valV kvs k) (valueAt vs k) := by
 unfold KV at r
 induction r with
 | nil => exact True.intro
 | @cons p q ps qs h t ih =>
  obtain ⟨h1, h2⟩ := h
  by_cases e : p.1 = k
  ·have e' : q.1 = k := h1.symm.trans e
   have b : valueAt (q :: qs) k = some q.2 := by simp [valueAt, List.find?_cons, e']
   rw [valV_pos e, b]; exact h2
  ·have e' : ¬ q.1 = k := fun z => e (h1.trans z)
   have b : valueAt (q :: qs) k = valueAt qs k := by simp [valueAt, List.find?_cons, e']
   rw [valV_neg e, b]; exact ih
theorem KV.any {kvs : List (κ × V)} {vs : List (κ × Value)} (r : KV kvs vs) (k : κ) : (kvs.any fun kv => decide (kv.1 = k)) = vs.any fun kv => decide (kv.1 = k) := by
 unfold KV at r
 induction r with
 | nil => rfl
 | cons h t ih => rw [List.any_cons, List.any_cons, ih, h.1]
theorem KV.repl {kvs : List (κ × V)} {vs : List (κ × Value)} (r : KV kvs vs) (k : κ) {y : V} {u : Value} (ry : RelV y u) :
  KV (kvs.map fun kv => if kv.1 = k then (kv.1, y) else kv) (vs.map fun kv => if kv.1 = k then (kv.1, u) else kv) := by
 unfold KV at r ⊢
 induction r with
 | nil => exact .nil
 | @cons p q ps qs h t ih =>
  rw [List.map_cons, List.map_cons]; refine .cons ?_ ih; obtain ⟨h1, h2⟩ := h
  by_cases e : p.1 = k
  ·rw [if_pos e, if_pos (h1.symm.trans e)]; exact ⟨h1, ry⟩
  ·rw [if_neg e, if_neg (fun z => e (h1.trans z))]; exact ⟨h1, h2⟩
theorem KV.put {kvs : List (κ × V)} {vs : List (κ × Value)} (r : KV kvs vs) (k : κ) {y : V} {u : Value} (ry : RelV y u) : KV (putK kvs k y) (stored vs k u) := by
 unfold putK stored; rw [r.any k]
 by_cases e : (vs.any fun kv => decide (kv.1 = k)) = true
 ·rw [if_pos e, if_pos e]; exact r.repl k ry
 ·rw [if_neg e, if_neg e]; exact Paired.snoc r ⟨rfl, ry⟩
theorem KV.drop {kvs : List (κ × V)} {vs : List (κ × Value)} (r : KV kvs vs) (k : κ) : KV (dropK kvs k) (without vs k) := by
 unfold KV at r ⊢; unfold dropK without
 induction r with
 | nil => exact .nil
 | @cons p q ps qs h t ih =>
  obtain ⟨h1, h2⟩ := h; rw [List.filter_cons, List.filter_cons]
  by_cases e : p.1 = k
  ·have a : ¬ decide (p.1 ≠ k) = true := by simp [e]
   have b : ¬ decide (q.1 ≠ k) = true := by simp [h1.symm.trans e]
   rw [if_neg a, if_neg b]; exact ih
  ·have e' : ¬ q.1 = k := fun z => e (h1.trans z)
   have a : decide (p.1 ≠ k) = true := by simp [e]
   have b : decide (q.1 ≠ k) = true := by simp [e']
   rw [if_pos a, if_pos b]; exact .cons ⟨h1, h2⟩ ih
theorem KV.keys {kvs : List (κ × V)} {vs : List (κ × Value)} (r : KV kvs vs) : kvs.map (·.1) = vs.map (·.1) := by
 unfold KV at r
 induction r with
 | nil => rfl
 | cons h t ih => rw [List.map_cons, List.map_cons, ih, h.1]
theorem KV.length {kvs : List (κ × V)} {vs : List (κ × Value)} (r : KV kvs vs) : kvs.length = vs.length := Paired.length r
end
theorem kV_is {P : Program} {w : World} {k : Key} {u : Value} (r : RelV (kV k) u) : (mixKind P w).is k u = true := by
 cases k with
 | inl i => obtain ⟨t, e⟩ := (show ∃ t, u = Value.int i t from r); subst e; exact mixKind_int P w i t
 | inr x => obtain ⟨t, e⟩ := (show ∃ t, u = Value.str x t from r); subst e; exact mixKind_str P w x t
theorem items_are {P : Program} {w : World} : ∀ {ks : List Key} {us : List Value}, Vals (ks.map kV) us → ItemsAre (mixKind P w) ks us
 | [], _, r => by rw [List.map_nil] at r; cases r; exact .nil
 | k :: ks, _, r => by
  rw [List.map_cons] at r
  cases r with
  | cons h t => exact .cons (kV_is h) (items_are t)
abbrev KT (H : Hp) : List (List Key × V) → List (List Key × Addr × Value) → Prop := Paired fun p q => p.1 = q.1 ∧ H q.2.1 = some (.tup (p.1.map kV)) ∧ RelV p.2 q.2.2
theorem KT.val {H : Hp} {kvs : List (List Key × V)} {xs : List (List Key × Addr × Value)} (r : KT H kvs xs) (k : List Key) : RelO (valV kvs k) ((atKey xs k).map (·.2)) := by
 induction r with
 | nil => exact True.intro
 | @cons p q ps qs h t ih =>
  obtain ⟨h1, _, h2⟩ := h
  by_cases e : p.1 = k
  ·have e' : q.1 = k := h1.symm.trans e
   have b : atKey (q :: qs) k = some q.2 := by simp [atKey, List.find?_cons, e']
   rw [valV_pos e, b]; exact h2
  ·have e' : ¬ q.1 = k := fun z => e (h1.trans z)
   have b : atKey (q :: qs) k = atKey qs k := by simp [atKey, List.find?_cons, e']
   rw [valV_neg e, b]; exact ih
theorem KT.repl {H : Hp} {kvs : List (List Key × V)} {xs : List (List Key × Addr × Value)} (r : KT H kvs xs) (k : List Key) {y : V} {u : Value} (ry : RelV y u) :
  KT H (kvs.map fun kv => if kv.1 = k then (kv.1, y) else kv) (xs.map (putAt k u)) := by
 induction r with
 | nil => exact .nil
 | @cons p q ps qs h t ih =>
  rw [List.map_cons, List.map_cons]; refine .cons ?_ ih; obtain ⟨h1, h2, h3⟩ := h; unfold putAt
  by_cases e : p.1 = k
  ·rw [if_pos e, if_pos (h1.symm.trans e)]; exact ⟨h1, h2, ry⟩
  ·rw [if_neg e, if_neg (fun z => e (h1.trans z))]; exact ⟨h1, h2, h3⟩
theorem KT.put {H : Hp} {kvs : List (List Key × V)} {xs : List (List Key × Addr × Value)} (r : KT H kvs xs) (k : List Key) {b : Addr} {y : V} {u : Value} (hb : H b = some (.tup (k.map kV))) (ry : RelV y u) :
  KT H (putK kvs k y) (storedH xs k b u) := by
 have e : (kvs.any fun kv => decide (kv.1 = k)) = (atKey xs k).isSome := by
  rw [valV_any, (r.val k).isSome_eq, Option.isSome_map]
 unfold putK storedH; rw [e]
 by_cases q : (atKey xs k).isSome = true
 ·rw [if_pos q, if_pos q]; exact r.repl k ry
 ·rw [if_neg q, if_neg q]; exact Paired.snoc r ⟨rfl, hb, ry⟩
theorem KT.keeps {H H' : Hp} {kvs : List (List Key × V)} {xs : List (List Key × Addr × Value)} (r : KT H kvs xs) (ht : ∀ b ys, H b = some (.tup ys) → H' b = some (.tup ys)) : KT H' kvs xs :=
 Paired.mapP r fun _ _ z => ⟨z.1, ht _ _ z.2.1, z.2.2⟩
def DGet (H : Hp) (a : Addr) (y : V) (r : Option V) : Prop :=
 (∃ kvs k, Rd H a (.dK kvs) ∧ y = kV k ∧ r = valV kvs k) ∨ ∃ kvs k b, Rd H a (.dT kvs) ∧ y = .ref b ∧ H b = some (.tup (k.map kV)) ∧ r = valV kvs k
def DPut (H : Hp) (a : Addr) (y v : V) (H' : Hp) : Prop :=
 (∃ kvs k, H a = some (.dK kvs) ∧ y = kV k ∧ kvs.length < sizeLine ∧ H' = upd H a (.dK (putK kvs k v))) ∨
 ∃ kvs k b, H a = some (.dT kvs) ∧ y = .ref b ∧ H b = some (.tup (k.map kV)) ∧ kvs.length < sizeLine ∧ H' = upd H a (.dT (putK kvs k v))
theorem DGet.k {H : Hp} {a : Addr} {kvs : List (Key × V)} {k : Key} (e : H a = some (.dK kvs)) : DGet H a (kV k) (valV kvs k) := .inl ⟨kvs, k, .inl e, rfl, rfl⟩
theorem DGet.t {H : Hp} {a b : Addr} {kvs : List (List Key × V)} {k : List Key} (e : H a = some (.dT kvs)) (eb : H b = some (.tup (k.map kV))) : DGet H a (.ref b) (valV kvs k) := .inr ⟨kvs, k, b, .inl e, rfl, eb, rfl⟩
theorem DPut.k {H : Hp} {a : Addr} {kvs : List (Key × V)} {k : Key} {v : V} (e : H a = some (.dK kvs)) (hl : kvs.length < sizeLine) : DPut H a (kV k) v (upd H a (.dK (putK kvs k v))) := .inl ⟨kvs, k, e, rfl, hl, rfl⟩
theorem DPut.t {H : Hp} {a b : Addr} {kvs : List (List Key × V)} {k : List Key} {v : V} (e : H a = some (.dT kvs)) (eb : H b = some (.tup (k.map kV))) (hl : kvs.length < sizeLine) :
  DPut H a (.ref b) v (upd H a (.dT (putK kvs k v))) := .inr ⟨kvs, k, b, e, rfl, eb, hl, rfl⟩
section
variable {X : Cx} {pins : List (Addr × Obj)} {σ : St} {H : Hp} {s : Shared} {a : Addr} {y v : V} {u r : Value} {o : Option V} {A : Around} {E : Value → Shared → Prop}
theorem Inv.big (I : Inv X pins σ H s) : sysModules < s.heap.objs.size := by
 have h : mainGlobals < s.heap.objs.size := (I.mod.glob.keeps I.bk).lt
 exact Nat.lt_trans (by decide) h
end
end L2
namespace DL
open PySem PySem.Spec PyProof.Rows L2
inductive D where
 | dat (p : PyData)
 | cel (a : Addr)
inductive Cel where
 | l (xs : List PyData)
 | d (kvs : List (Key × PyData))
 | t (kvs : List (List Key × PyData))
 | dl (kas : List (Key × Addr))
 | fd (kvs : List (Key × PyData))
 | ft (kvs : List (List Key × PyData))
 | n (kvs : List (List PyData × D))
 | g (kvs : List (Key × D))
 | o (N : Str) (fs : List (Str × D))
 | tc (xs : List D)
@[simp] def isF : Option Cel → Bool
 | some (.fd _) => true
 | some (.ft _) => true
 | some (.tc _) => true
 | _ => false
abbrev Mu := Addr → Option Cel
abbrev St2 := List (Option D)
@[simp] def keyPy : Key → PyData
 | .inl i => .int i
 | .inr z => .str z
def mkU : PyData := .int (2 ^ 1930)
theorem mkU_show : mkU.showable = false := by
 show decide ((((2 : Int) ^ 1930).natAbs).log2 < 1920) = false
 rw [Int.natAbs_pow, show (2 : Int).natAbs = 2 from rfl, Nat.log2_two_pow]
 decide
def Ents (K : PySem.W.Frag) : HO → List (PyData × V) → Prop
 | .dK ws, vs => vs = ws.map fun kv => (keyPy kv.1, kv.2)
 | .dT ws, vs => vs = ws.map fun kv => (.tuple (kv.1.map keyPy), kv.2)
 | .dN K' ws, vs => K' = K ∧ vs = ws.map fun kv => (.tuple kv.1, kv.2)
 | _, _ => False
mutual
def RP (K : PySem.W.Frag) (Z : Addr → Prop) (m : Mu) (H : Hp) : PyData → V → Prop
 | .none, v => v = .non
 | .bool b, v => v = .bl b
 | .int i, v => v = .int i
 | .str x, v => v = .str x
 | .tuple xs, v => ∃ a vs, v = .ref a ∧ SqT K H a vs ∧ RPs K Z m H xs vs
 | .list xs, v => ∃ a vs, v = .ref a ∧ (m a = none ∧ ¬ Z a) ∧ SqL K H a vs ∧ RPs K Z m H xs vs
 | .dict kvs, v => ∃ a o u vs, v = .ref a ∧ H a = some (.frz o u) ∧ Ents K u vs ∧ RPd K Z m H kvs ((mkU, .non) :: vs)
def RPd (K : PySem.W.Frag) (Z : Addr → Prop) (m : Mu) (H : Hp) : List (PyData × PyData) → List (PyData × V) → Prop
 | [], vs => vs = []
 | (k, p) :: xs, vs => ∃ v r, vs = (k, v) :: r ∧ RP K Z m H p v ∧ RPd K Z m H xs r
def RPs (K : PySem.W.Frag) (Z : Addr → Prop) (m : Mu) (H : Hp) : List PyData → List V → Prop
 | [], vs => vs = []
 | x :: xs, vs => ∃ v r, vs = v :: r ∧ RP K Z m H x v ∧ RPs K Z m H xs r
end
def RD (K : PySem.W.Frag) (Z : Addr → Prop) (m : Mu) (H : Hp) : D → V → Prop
 | .dat p, v => RP K Z m H p v
 | .cel a, v => v = .ref a ∧ (m a).isSome = true
def RDs (K : PySem.W.Frag) (Z : Addr → Prop) (m : Mu) (H : Hp) : List D → List V → Prop
 | [], vs => vs = []
 | x :: xs, vs => ∃ v r, vs = v :: r ∧ RD K Z m H x v ∧ RDs K Z m H xs r
def RKV {κ : Type} (K : PySem.W.Frag) (Z : Addr → Prop) (m : Mu) (H : Hp) : List (κ × PyData) → List (κ × V) → Prop
 | [], vs => vs = []
 | (k, p) :: xs, vs => ∃ v r, vs = (k, v) :: r ∧ RP K Z m H p v ∧ RKV K Z m H xs r
def RW (K : PySem.W.Frag) (Z : Addr → Prop) (m : Mu) (H : Hp) : D → V → Prop
 | .dat p, v => RP K Z m H p v
 | .cel a, v => v = .ref a
def RKW {κ : Type} (K : PySem.W.Frag) (Z : Addr → Prop) (m : Mu) (H : Hp) : List (κ × D) → List (κ × V) → Prop
 | [], vs => vs = []
 | (k, p) :: xs, vs => ∃ v r, vs = (k, v) :: r ∧ RW K Z m H p v ∧ RKW K Z m H xs r
def RC (K : PySem.W.Frag) (Z : Addr → Prop) (m : Mu) (H : Hp) : Cel → HO → Prop
 | .l xs, .lst vs => RPs K Z m H xs vs
 | .d kvs, .dK vs => RKV K Z m H kvs vs
 | .t kvs, .dT vs => RKV K Z m H kvs vs
 | .dl kas, .dK vs => vs = kas.map fun x => (x.1, V.ref x.2)
 | .fd kvs, .frz _ (.dK vs) => RKV K Z m H kvs vs
 | .ft kvs, .frz _ (.dT vs) => RKV K Z m H kvs vs
 | .n kvs, .dN K' vs => K' = K ∧ RKW K Z m H kvs vs
 | .g kvs, .dK vs => RKW K Z m H kvs vs
 | .tc xs, .tup vs => RKW K Z m H (xs.map fun x => ((), x)) (vs.map fun v => ((), v))
 | .o N fs, .ins C _ vs => PySem.W.nsIn K mainGlobals N = some (some (.ref C)) ∧ RKW K Z m H fs vs
 | _, _ => False
structure Ok (K : PySem.W.Frag) (Z : Addr → Prop) (m : Mu) (H : Hp) : Prop where
 g : ∀ a c, m a = some c → ∃ o, H a = some o ∧ RC K Z m H c o
 z : ∀ a, Z a → m a = none ∧ H a ≠ none
structure Ext (K : PySem.W.Frag) (Z : Addr → Prop) (m : Mu) (H : Hp) (m' : Mu) (H' : Hp) : Prop where
 t : ∀ a vs, SqT K H a vs → SqT K H' a vs
 l : ∀ a vs, (m a = none ∧ ¬ Z a) → SqL K H a vs → m' a = none ∧ SqL K H' a vs
 z : ∀ a, Z a → H' a = H a
 c : ∀ a, (m a).isSome = true → (m' a).isSome = true
 fz : ∀ a o u, H a = some (.frz o u) → H' a = some (.frz o u)
 fm : ∀ a, isF (m a) = true → m' a = m a
 ll : ∀ a vs, (m a = none ∧ ¬ Z a) → H a = some (.lst vs) → H' a = some (.lst vs)
section
variable {K : PySem.W.Frag} {Z : Addr → Prop} {m m' m2 : Mu} {H H' H2 : Hp}
theorem Ext.refl : Ext K Z m H m H := ⟨fun _ _ h => h, fun _ _ h1 h2 => ⟨h1.1, h2⟩, fun _ _ => rfl, fun _ h => h, fun _ _ _ h => h, fun _ _ => rfl, fun _ _ _ h => h⟩
theorem Ext.trans (a : Ext K Z m H m' H') (b : Ext K Z m' H' m2 H2) : Ext K Z m H m2 H2 :=
 ⟨fun x vs h => b.t x vs (a.t x vs h), fun x vs h1 h2 => let ⟨q1, q2⟩ := a.l x vs h1 h2; b.l x vs ⟨q1, h1.2⟩ q2, fun x h => (b.z x h).trans (a.z x h), fun x h => b.c x (a.c x h), fun x o u h => b.fz x o u (a.fz x o u h), fun x h => by
  have q := a.fm x h
  rw [b.fm x (by rw [q]; exact h), q], fun x vs h1 h2 => b.ll x vs ⟨(a.l x vs h1 (.inl (.inl h2))).1, h1.2⟩ (a.ll x vs h1 h2)⟩
mutual
theorem RP.ext (e : Ext K Z m H m' H') : ∀ (p : PyData) (v : V), RP K Z m H p v → RP K Z m' H' p v
 | .none, v, h => by simpa only [RP] using h
 | .bool _, v, h => by simpa only [RP] using h
 | .int _, v, h => by simpa only [RP] using h
 | .str _, v, h => by simpa only [RP] using h
 | .tuple xs, v, h => by
  simp only [RP] at h ⊢; obtain ⟨a, vs, h1, h2, h3⟩ := h; exact ⟨a, vs, h1, e.t a vs h2, RPs.ext e xs vs h3⟩
 | .list xs, v, h => by
  simp only [RP] at h ⊢; obtain ⟨a, vs, h1, h2, h3, h4⟩ := h; obtain ⟨q1, q2⟩ := e.l a vs h2 h3; exact ⟨a, vs, h1, ⟨q1, h2.2⟩, q2, RPs.ext e xs vs h4⟩
 | .dict kvs, v, h => by
  simp only [RP] at h ⊢; obtain ⟨a, o, u, vs, h1, h2, h3, h4⟩ := h; exact ⟨a, o, u, vs, h1, e.fz a o u h2, h3, RPd.ext e kvs _ h4⟩
theorem RPd.ext (e : Ext K Z m H m' H') : ∀ (xs : List (PyData × PyData)) (vs : List (PyData × V)), RPd K Z m H xs vs → RPd K Z m' H' xs vs
 | [], vs, h => by simpa only [RPd] using h
 | (k, p) :: xs, vs, h => by
  simp only [RPd] at h ⊢; obtain ⟨v, r, h1, h2, h3⟩ := h; exact ⟨v, r, h1, RP.ext e p v h2, RPd.ext e xs r h3⟩
theorem RPs.ext (e : Ext K Z m H m' H') : ∀ (xs : List PyData) (vs : List V), RPs K Z m H xs vs → RPs K Z m' H' xs vs
 | [], vs, h => by simpa only [RPs] using h
 | x :: xs, vs, h => by
  simp only [RPs] at h ⊢; obtain ⟨v, r, h1, h2, h3⟩ := h; exact ⟨v, r, h1, RP.ext e x v h2, RPs.ext e xs r h3⟩
end
theorem RD.ext (e : Ext K Z m H m' H') {d : D} {v : V} (h : RD K Z m H d v) : RD K Z m' H' d v := by
 cases d with
 | dat p => exact RP.ext e p v h
 | cel a => exact ⟨h.1, e.c a h.2⟩
theorem RDs.ext (e : Ext K Z m H m' H') : ∀ {xs : List D} {vs : List V}, RDs K Z m H xs vs → RDs K Z m' H' xs vs
 | [], _, h => h
 | _ :: _, _, ⟨v, r, h1, h2, h3⟩ => ⟨v, r, h1, h2.ext e, RDs.ext e h3⟩
theorem RKV.lift {κ : Type} {Z' : Addr → Prop} (tr : ∀ p v, RP K Z m H p v → RP K Z' m' H' p v) : ∀ {xs : List (κ × PyData)} {vs : List (κ × V)}, RKV K Z m H xs vs → RKV K Z' m' H' xs vs
 | [], _, h => h
 | _ :: _, _, ⟨v, r, h1, h2, h3⟩ => ⟨v, r, h1, tr _ _ h2, RKV.lift tr h3⟩
theorem RKW.lift {κ : Type} {Z' : Addr → Prop} (tr : ∀ p v, RP K Z m H p v → RP K Z' m' H' p v) : ∀ {xs : List (κ × D)} {vs : List (κ × V)}, RKW K Z m H xs vs → RKW K Z' m' H' xs vs
 | [], _, h => h
 | (_, .dat _) :: _, _, ⟨v, r, h1, h2, h3⟩ => ⟨v, r, h1, tr _ _ h2, RKW.lift tr h3⟩
 | (_, .cel _) :: _, _, ⟨v, r, h1, h2, h3⟩ => ⟨v, r, h1, h2, RKW.lift tr h3⟩
theorem RPs.lift {Z' : Addr → Prop} (tr : ∀ p v, RP K Z m H p v → RP K Z' m' H' p v) : ∀ {ps : List PyData} {vs : List V}, RPs K Z m H ps vs → RPs K Z' m' H' ps vs
 | [], _, h => by simpa only [RPs] using h
 | _ :: _, _, h => by
  simp only [RPs] at h ⊢; obtain ⟨v, r, h1, h2, h3⟩ := h; exact ⟨v, r, h1, tr _ _ h2, RPs.lift tr h3⟩
theorem RC.lift {Z' : Addr → Prop} {c : Cel} {o : HO} (tr : ∀ p v, RP K Z m H p v → RP K Z' m' H' p v) (h : RC K Z m H c o) : RC K Z' m' H' c o := by
 cases c <;> cases o <;> first | exact RPs.lift tr h | exact RKV.lift tr h | exact RKW.lift tr h | exact ⟨h.1, RKW.lift tr h.2⟩ | exact h | (rename_i ob u; cases u <;> first | exact RKV.lift tr h | exact h)
theorem RC.ext {c : Cel} {o : HO} (e : Ext K Z m H m' H') (h : RC K Z m H c o) : RC K Z m' H' c o := h.lift fun p v q => RP.ext e p v q
theorem RC.mut {c : Cel} {o : HO} (h : RC K Z m H c o) (nf : isF (some c) = false) : (∀ xs, o ≠ .tup xs) ∧ (∀ a b, o ≠ .frz a b) := by
 cases c with
 | fd _ => cases nf
 | ft _ => cases nf
 | tc _ => cases nf
 | dl _ => cases o <;> first | exact h.elim | exact ⟨fun _ e => (nomatch e), fun _ _ e => (nomatch e)⟩
 | l _ => cases o <;> first | exact h.elim | exact ⟨fun _ e => (nomatch e), fun _ _ e => (nomatch e)⟩
 | d _ => cases o <;> first | exact h.elim | exact ⟨fun _ e => (nomatch e), fun _ _ e => (nomatch e)⟩
 | n _ => cases o <;> first | exact h.elim | exact ⟨fun _ e => (nomatch e), fun _ _ e => (nomatch e)⟩
 | g _ => cases o <;> first | exact h.elim | exact ⟨fun _ e => (nomatch e), fun _ _ e => (nomatch e)⟩
 | o _ _ => cases o <;> first | exact h.elim | exact ⟨fun _ e => (nomatch e), fun _ _ e => (nomatch e)⟩
 | t _ => cases o <;> first | exact h.elim | exact ⟨fun _ e => (nomatch e), fun _ _ e => (nomatch e)⟩
theorem Ok.l {a : Addr} {xs : List PyData} (ok : Ok K Z m H) (h : m a = some (.l xs)) : ∃ vs, H a = some (.lst vs) ∧ RPs K Z m H xs vs := by
 obtain ⟨o, h1, h2⟩ := ok.g a _ h
 cases o <;> first | exact ⟨_, h1, h2⟩ | exact h2.elim
theorem Ok.d {a : Addr} {xs : List (Key × PyData)} (ok : Ok K Z m H) (h : m a = some (.d xs)) : ∃ vs, H a = some (.dK vs) ∧ RKV K Z m H xs vs := by
 obtain ⟨o, h1, h2⟩ := ok.g a _ h
 cases o <;> first | exact ⟨_, h1, h2⟩ | exact h2.elim
theorem Ok.t {a : Addr} {xs : List (List Key × PyData)} (ok : Ok K Z m H) (h : m a = some (.t xs)) : ∃ vs, H a = some (.dT vs) ∧ RKV K Z m H xs vs := by
 obtain ⟨o, h1, h2⟩ := ok.g a _ h
 cases o <;> first | exact ⟨_, h1, h2⟩ | exact h2.elim
theorem RPs.length : ∀ {xs : List PyData} {vs : List V}, RPs K Z m H xs vs → vs.length = xs.length
 | [], _, h => by simp only [RPs] at h; subst h; rfl
 | _ :: xs, _, h => by
  simp only [RPs] at h; obtain ⟨v, r, h1, _, h3⟩ := h; subst h1; rw [List.length_cons, List.length_cons, RPs.length h3]
theorem RDs.length : ∀ {xs : List D} {vs : List V}, RDs K Z m H xs vs → vs.length = xs.length
 | [], _, h => by cases (show _ = [] from h); rfl
 | _ :: xs, _, ⟨v, r, h1, _, h3⟩ => by
  subst h1; rw [List.length_cons, List.length_cons, RDs.length h3]
theorem RPs.get : ∀ {xs : List PyData} {vs : List V} {i : Nat} {p : PyData}, RPs K Z m H xs vs → xs[i]? = some p → ∃ v, vs[i]? = some v ∧ RP K Z m H p v
 | [], _, _, _, _, e => by simp at e
 | x :: xs, _, 0, p, h, e => by
  simp only [RPs] at h; obtain ⟨v, r, h1, h2, _⟩ := h; simp at e; subst h1 e; exact ⟨v, rfl, h2⟩
 | x :: xs, _, i + 1, p, h, e => by
  simp only [RPs] at h; obtain ⟨v, r, h1, _, h3⟩ := h; obtain ⟨u, q1, q2⟩ := RPs.get (i := i) (p := p) h3 (by simpa using e)
  subst h1; exact ⟨u, by simpa using q1, q2⟩
theorem RPs.set : ∀ {xs : List PyData} {vs : List V} {i : Nat} {p : PyData} {v : V}, RPs K Z m H xs vs → RP K Z m H p v → RPs K Z m H (xs.set i p) (vs.set i v)
 | [], _, _, _, _, h, _ => by simp only [RPs] at h; subst h; simp [RPs]
 | x :: xs, _, 0, p, v, h, q => by
  simp only [RPs] at h; obtain ⟨w, r, h1, _, h3⟩ := h; subst h1; simp only [List.set_cons_zero, RPs]; exact ⟨v, r, rfl, q, h3⟩
 | x :: xs, _, i + 1, p, v, h, q => by
  simp only [RPs] at h; obtain ⟨w, r, h1, h2, h3⟩ := h; subst h1; simp only [List.set_cons_succ, RPs]; exact ⟨w, _, rfl, h2, RPs.set h3 q⟩
theorem RPs.append : ∀ {xs ys : List PyData} {vs ws : List V}, RPs K Z m H xs vs → RPs K Z m H ys ws → RPs K Z m H (xs ++ ys) (vs ++ ws)
 | [], _, _, _, h, q => by simp only [RPs] at h; subst h; simpa using q
 | x :: xs, _, _, _, h, q => by
  simp only [RPs] at h; obtain ⟨w, r, h1, h2, h3⟩ := h; subst h1; simp only [List.cons_append, RPs]; exact ⟨w, _, rfl, h2, RPs.append h3 q⟩
theorem RPs.drop : ∀ {xs : List PyData} {vs : List V} (n : Nat), RPs K Z m H xs vs → RPs K Z m H (xs.drop n) (vs.drop n)
 | _, _, 0, h => by simpa using h
 | [], _, n + 1, h => by simp only [RPs] at h; subst h; simp [RPs]
 | x :: xs, _, n + 1, h => by
  simp only [RPs] at h; obtain ⟨w, r, h1, h2, h3⟩ := h; subst h1; simpa using RPs.drop n h3
theorem RPs.take : ∀ {xs : List PyData} {vs : List V} (n : Nat), RPs K Z m H xs vs → RPs K Z m H (xs.take n) (vs.take n)
 | _, _, 0, h => by simp [RPs]
 | [], _, n + 1, h => by simp only [RPs] at h; subst h; simp [RPs]
 | x :: xs, _, n + 1, h => by
  simp only [RPs] at h; obtain ⟨w, r, h1, h2, h3⟩ := h; subst h1; simp only [List.take_succ_cons, RPs]; exact ⟨w, _, rfl, h2, RPs.take n h3⟩
theorem RPs.reverse : ∀ {xs : List PyData} {vs : List V}, RPs K Z m H xs vs → RPs K Z m H xs.reverse vs.reverse
 | [], _, h => by simp only [RPs] at h; subst h; simp [RPs]
 | x :: xs, _, h => by
  simp only [RPs] at h; obtain ⟨w, r, h1, h2, h3⟩ := h; subst h1; rw [List.reverse_cons, List.reverse_cons]; exact (RPs.reverse h3).append (by simp only [RPs]; exact ⟨w, [], rfl, h2, rfl⟩)
@[simp] def pds : List D → Option (List PyData)
 | [] => some []
 | .dat p :: r => (pds r).map (p :: ·)
 | .cel _ :: _ => none
theorem RDs.pds : ∀ {xs : List D} {vs : List V} {ps : List PyData}, RDs K Z m H xs vs → DL.pds xs = some ps → RPs K Z m H ps vs
 | [], vs, ps, h, e => by
  cases (show vs = [] from h)
  cases (show some [] = some ps from e)
  simp [RPs]
 | .dat p :: r, vs, ps, ⟨v, w, h1, h2, h3⟩, e => by
  simp only [DL.pds] at e
  cases q : DL.pds r with
  | none => rw [q] at e; cases e
  | some qs =>
   rw [q] at e
   cases e
   simp only [RPs]; exact ⟨v, w, h1, h2, RDs.pds h3 q⟩
 | .cel a :: r, _, _, _, e => by simp only [DL.pds] at e; cases e
theorem SqT.same {a : Addr} {xs : List V} (e : Same H H') (h : SqT K H a xs) : SqT K H' a xs := by
 rcases h with (h | ⟨o, h⟩) | h
 ·exact .inl (.inl (e _ _ h))
 ·exact .inl (.inr ⟨o, e _ _ h⟩)
 ·exact .inr h
theorem Ext.grow (s : Same H H') (hz : ∀ a, Z a → H a ≠ none) : Ext K Z m H m H' := ⟨fun _ _ h => SqT.same s h, fun _ _ h1 h2 => ⟨h1.1, s.seq h2⟩, fun a h => by
 cases q : H a with
 | none => exact absurd q (hz a h)
 | some o => exact s a o q, fun _ h => h, fun a o u h => s _ _ h, fun _ _ => rfl, fun _ _ _ h => s _ _ h⟩
theorem Ok.grow (s : Same H H') (ok : Ok K Z m H) : Ok K Z m H' := by
 have e : Ext K Z m H m H' := Ext.grow s fun a h => (ok.z a h).2
 refine ⟨fun a c h => ?_, fun a h => ⟨(ok.z a h).1, by rw [e.z a h]; exact (ok.z a h).2⟩⟩
 obtain ⟨o, h1, h2⟩ := ok.g a c h; exact ⟨o, s _ _ h1, h2.ext e⟩
theorem Ok.ext (s : Same H H') (ok : Ok K Z m H) : Ext K Z m H m H' := Ext.grow s fun a h => (ok.z a h).2
theorem same_new {p : Addr} {o : HO} (h : H p = none) : Same H (upd H p o) := fun b u q => by rw [upd_ne (ne_of_none q h)]; exact q
def updM (m : Mu) (a : Addr) (c : Cel) : Mu := fun b => if b = a then some c else m b
theorem updM_same {a : Addr} {c : Cel} : updM m a c a = some c := by unfold updM; rw [if_pos rfl]
theorem updM_ne {a b : Addr} {c : Cel} (h : b ≠ a) : updM m a c b = m b := by unfold updM; rw [if_neg h]
theorem SqL.ne {p a : Addr} {xs : List V} (hp : H p = none) (hk : K.lookup p = none) (h : SqL K H a xs) : a ≠ p := by
 rintro rfl; rcases h with (h | ⟨o, h⟩) | ⟨o, _, _, h, _⟩
 ·rw [hp] at h; cases h
 ·rw [hp] at h; cases h
 ·rw [hk] at h; cases h
theorem Ext.cell {p : Addr} {o : HO} {c : Cel} (ok : Ok K Z m H) (hp : H p = none) (hk : K.lookup p = none) : Ext K Z m H (updM m p c) (upd H p o) := by
 refine ⟨fun _ _ h => SqT.same (same_new hp) h, fun a xs h1 h2 => ?_, fun a h => ?_, fun a h => ?_, fun a o u h => same_new hp _ _ h, fun a h => ?_, fun _ _ _ h => same_new hp _ _ h⟩
 ·have ne := SqL.ne hp hk h2
  exact ⟨by rw [updM_ne ne]; exact h1.1, (same_new hp).seq h2⟩
 ·have ne : a ≠ p := fun e => (ok.z a h).2 (by rw [e]; exact hp)
  exact upd_ne ne
 ·by_cases e : a = p
  ·subst e; rw [updM_same]; rfl
  ·rw [updM_ne e]; exact h
 ·have ne : a ≠ p := by
   rintro rfl
   cases q : m a with
   | none => rw [q] at h; cases h
   | some x =>
    obtain ⟨w, h1, _⟩ := ok.g a x q; rw [hp] at h1
    cases h1
  exact updM_ne ne
theorem Ok.updC {p : Addr} {o : HO} {c : Cel} (ok : Ok K Z m H) (hz : ¬ Z p) (e : Ext K Z m H (updM m p c) (upd H p o)) (r : RC K Z m H c o) : Ok K Z (updM m p c) (upd H p o) := by
 refine ⟨fun a x h => ?_, fun a h => ?_⟩
 ·by_cases q : a = p
  ·subst q; rw [updM_same] at h
   cases h
   exact ⟨o, upd_same, r.ext e⟩
  ·rw [updM_ne q] at h; obtain ⟨w, h1, h2⟩ := ok.g a x h; exact ⟨w, by rw [upd_ne q]; exact h1, h2.ext e⟩
 ·have ne : a ≠ p := fun e => hz (e ▸ h)
  exact ⟨by rw [updM_ne ne]; exact (ok.z a h).1, by rw [upd_ne ne]; exact (ok.z a h).2⟩
theorem Ok.cell {p : Addr} {o : HO} {c : Cel} (ok : Ok K Z m H) (hp : H p = none) (hk : K.lookup p = none) (r : RC K Z m H c o) : Ok K Z (updM m p c) (upd H p o) :=
 ok.updC (fun h => (ok.z p h).2 hp) (Ext.cell ok hp hk) r
theorem Ext.put {a : Addr} {o o0 : HO} {c c0 : Cel} (ok : Ok K Z m H) (hm : m a = some c0) (hH : H a = some o0) (nf : isF (some c0) = false := by rfl) : Ext K Z m H (updM m a c) (upd H a o) := by
 have mu : (∀ xs, o0 ≠ .tup xs) ∧ (∀ a b, o0 ≠ .frz a b) := by
  obtain ⟨w, h1, h2⟩ := ok.g a c0 hm; rw [hH] at h1
  cases h1
  exact h2.mut nf
 refine ⟨fun b xs h => ?_, fun b xs h1 h2 => ?_, fun b h => ?_, fun b h => ?_, fun b w u h => ?_, fun b h => ?_, fun b vs h1 h2 => by rw [upd_ne (by rintro rfl; rw [hm] at h1; cases h1.1)]; exact h2⟩
 ·rcases h with (h | ⟨w, h⟩) | h
  ·have ne : b ≠ a := by rintro rfl; rw [hH] at h; cases h; exact absurd rfl (mu.1 _)
   exact .inl (.inl (by rw [upd_ne ne]; exact h))
  ·have ne : b ≠ a := by rintro rfl; rw [hH] at h; cases h; exact absurd rfl (mu.2 _ _)
   exact .inl (.inr ⟨w, by rw [upd_ne ne]; exact h⟩)
  ·exact .inr h
 ·have ne : b ≠ a := by rintro rfl; rw [hm] at h1; cases h1.1
  refine ⟨by rw [updM_ne ne]; exact h1.1, ?_⟩
  rcases h2 with (h | ⟨w, h⟩) | h
  ·exact .inl (.inl (by rw [upd_ne ne]; exact h))
  ·exact .inl (.inr ⟨w, by rw [upd_ne ne]; exact h⟩)
  ·exact .inr h
 ·have ne : b ≠ a := by rintro rfl; have := (ok.z b h).1; rw [hm] at this; cases this
  exact upd_ne ne
 ·by_cases e : b = a
  ·subst e; rw [updM_same]; rfl
  ·rw [updM_ne e]; exact h
 ·have ne : b ≠ a := by rintro rfl; rw [hH] at h; cases h; exact absurd rfl (mu.2 _ _)
  rw [upd_ne ne]; exact h
 ·have ne : b ≠ a := by rintro rfl; rw [hm, nf] at h; cases h
  exact updM_ne ne
theorem Ok.put {a : Addr} {o o0 : HO} {c c0 : Cel} (ok : Ok K Z m H) (hm : m a = some c0) (hH : H a = some o0) (r : RC K Z m H c o) (nf : isF (some c0) = false := by rfl) : Ok K Z (updM m a c) (upd H a o) :=
 ok.updC (fun h => by have := (ok.z a h).1; rw [hm] at this; cases this) (Ext.put ok hm hH nf) r
def RS (K : PySem.W.Frag) (Z : Addr → Prop) (m : Mu) (H : Hp) (d : St2) (s : L2.St) : Prop := d.length = s.length ∧ ∀ (i : Nat) (x : D), d[i]? = some (some x) → ∃ v, s[i]? = some (some v) ∧ RD K Z m H x v
theorem RS.ext {d : St2} {s : L2.St} (r : RS K Z m H d s) (e : Ext K Z m H m' H') : RS K Z m' H' d s := ⟨r.1, fun i x h => let ⟨v, h1, h2⟩ := r.2 i x h; ⟨v, h1, h2.ext e⟩⟩
theorem RS.set {d : St2} {s : L2.St} {i : Nat} {x : D} {v : V} (r : RS K Z m H d s) (h : RD K Z m H x v) : RS K Z m H (d.set i (some x)) (s.set i (some v)) := by
 refine ⟨by rw [List.length_set, List.length_set]; exact r.1, fun j y q => ?_⟩
 by_cases e : j = i
 ·subst e; rw [List.getElem?_set] at q; simp only [if_true] at q
  split at q
  ·rename_i hl
   cases q
   refine ⟨v, ?_, h⟩; rw [List.getElem?_set]; simp only [if_true]; rw [if_pos (by rw [← r.1]; exact hl)]
  ·cases q
 ·rw [List.getElem?_set_ne (Ne.symm e)] at q; obtain ⟨w, h1, h2⟩ := r.2 j y q; exact ⟨w, by rw [List.getElem?_set_ne (Ne.symm e)]; exact h1, h2⟩
end
abbrev DK := D → Mu → Prop
abbrev DE := St2 → Mu → DK → Prop
abbrev DT := St2 → Mu → (Bool → Mu → Prop) → Prop
abbrev DA := St2 → Mu → (List D → Mu → Prop) → Prop
structure Ends2 where
 nx : St2 → Mu → Prop
 rt : DK
 bk : St2 → Mu → Prop := fun _ _ => False
 ct : St2 → Mu → Prop := fun _ _ => False
abbrev DS := Ends2 → St2 → Mu → Prop
def LE (K : PySem.W.Frag) (f : DE) : TE := fun s H Q => ∃ (Z : Addr → Prop) (d : St2) (m : Mu) (R : DK), Ok K Z m H ∧ RS K Z m H d s ∧ f d m R ∧
 ∀ x m' v H', R x m' → Ext K Z m H m' H' → Ok K Z m' H' → RD K Z m' H' x v → Q v H'
def LT (K : PySem.W.Frag) (f : DT) : TT := fun s H Q => ∃ (Z : Addr → Prop) (d : St2) (m : Mu) (R : Bool → Mu → Prop), Ok K Z m H ∧ RS K Z m H d s ∧ f d m R ∧
 ∀ b m' H', R b m' → Ext K Z m H m' H' → Ok K Z m' H' → Q b H'
def LA (K : PySem.W.Frag) (f : DA) : TA := fun s H Q => ∃ (Z : Addr → Prop) (d : St2) (m : Mu) (R : List D → Mu → Prop), Ok K Z m H ∧ RS K Z m H d s ∧ f d m R ∧
 ∀ xs m' vs H', R xs m' → Ext K Z m H m' H' → Ok K Z m' H' → RDs K Z m' H' xs vs → Q vs H'
def LS (K : PySem.W.Frag) (f : DS) : TS := fun E s H => ∃ (Z : Addr → Prop) (d : St2) (m : Mu) (R : Ends2), Ok K Z m H ∧ RS K Z m H d s ∧ f R d m ∧
 (∀ d' m' s' H', R.nx d' m' → Ext K Z m H m' H' → Ok K Z m' H' → RS K Z m' H' d' s' → E.nx s' H') ∧
 (∀ x m' v H', R.rt x m' → Ext K Z m H m' H' → Ok K Z m' H' → RD K Z m' H' x v → E.rt v H') ∧
 (∀ d' m' s' H', R.bk d' m' → Ext K Z m H m' H' → Ok K Z m' H' → RS K Z m' H' d' s' → E.bk s' H') ∧
 (∀ d' m' s' H', R.ct d' m' → Ext K Z m H m' H' → Ok K Z m' H' → RS K Z m' H' d' s' → E.ct s' H')
theorem PE.imp {X : Cx} {e : Expr} {t t' : TE} (h : PE X e t) (q : ∀ s H Q, t' s H Q → t s H Q) : PE X e t' := fun pins s d H Q I w => h pins s d H Q I (q _ _ _ w)
theorem PT.imp {X : Cx} {e : Expr} {t t' : TT} (h : PT X e t) (q : ∀ s H Q, t' s H Q → t s H Q) : PT X e t' := fun pins s d H Q I w => h pins s d H Q I (q _ _ _ w)
theorem PA.imp {X : Cx} {e : List Expr} {t t' : TA} (h : PA X e t) (q : ∀ s H Q, t' s H Q → t s H Q) : PA X e t' := fun pos pins s d H Q I w => h pos pins s d H Q I (q _ _ _ w)
theorem PS.imp {X : Cx} {e : Stmt} {t t' : TS} (h : PS X e t) (q : ∀ E s H, t' E s H → t E s H) : PS X e t' := fun pins s d H E I w => h pins s d H E I (q _ _ _ w)
theorem PSs.imp {X : Cx} {e : List Stmt} {t t' : TS} (h : PSs X e t) (q : ∀ E s H, t' E s H → t E s H) : PSs X e t' := fun pins s d H E I w => h pins s d H E I (q _ _ _ w)
section
variable {X : Cx} {pos : Pos}
@[simp] def dVar (i : Nat) : DE := fun d m Q => ∃ x, d[i]? = some (some x) ∧ Q x m
theorem le_var (i : Nat) {x : Str} (hN : X.N[i]? = some x := by rfl) (hv : Vis X.env.scope x := by first | exact Or.inl rfl | exact Or.inr (Or.inl rfl) | exact Or.inr (Or.inr rfl)) (hd : (x == ("__debug__" : Str)) = false := by decide)
  (hcd : (x == ("__classdict__" : Str)) = false := by decide) : PE X (.Name x pos) (LE X.K (dVar i)) :=
 PE.imp (pe_var hN hv hd hcd) fun s H Q h => by
  obtain ⟨Z, d, m, R, ok, rs, ⟨x, h1, h2⟩, k⟩ := h; obtain ⟨v, q1, q2⟩ := rs.2 i x h1; exact ⟨v, q1, k x m v H h2 Ext.refl ok q2⟩
@[simp] def dCon (p : PyData) : DE := fun _ m Q => Q (.dat p) m
theorem le_con {e : Expr} {p : PyData} {v : V} (h : PE X e (tC v)) (r : ∀ Z m H, RP X.K Z m H p v) : PE X e (LE X.K (dCon p)) :=
 PE.imp h fun s H Q ⟨Z, d, m, R, ok, rs, h2, k⟩ => k _ m v H h2 Ext.refl ok (r Z m H)
theorem le_int {i : Int} {j : Nat} : PE X (.Constant (.int i) j pos) (LE X.K (dCon (.int i))) := le_con pe_int fun Z m H => by simp only [RP]
theorem le_bl {b : Bool} {j : Nat} : PE X (.Constant (.bool b) j pos) (LE X.K (dCon (.bool b))) := le_con pe_bl fun Z m H => by simp only [RP]
theorem le_non {j : Nat} : PE X (.Constant .none j pos) (LE X.K (dCon .none)) := le_con pe_non fun Z m H => by simp only [RP]
theorem le_str {x : Str} {j : Nat} : PE X (.Constant (.str x) j pos) (LE X.K (dCon (.str x))) := le_con pe_str fun Z m H => by simp only [RP]
end
end DL
namespace DL
open PySem PySem.Spec PyProof.Rows L2
section
variable {X : Cx} {pins : List (Addr × Obj)} {σ : L2.St} {H : Hp} {s : Shared} {Z : Addr → Prop} {m : Mu}
mutual
theorem RP.reads0 (I : Inv X pins σ H s) : ∀ (p : PyData) (v : V) (u : Value), RP X.K Z m H p v → RelV v u → p.hasDict = false → ∃ as, Reads s.heap u p as
 | .none, v, u, h, r, _ => by simp only [RP] at h; subst h; cases r; exact ⟨_, .none⟩
 | .bool b, v, u, h, r, _ => by simp only [RP] at h; subst h; cases r; exact ⟨_, .bool b⟩
 | .int i, v, u, h, r, _ => by simp only [RP] at h; subst h; obtain ⟨t, rfl⟩ := r; exact ⟨_, .int i t⟩
 | .str x, v, u, h, r, _ => by simp only [RP] at h; subst h; obtain ⟨t, rfl⟩ := r; exact ⟨_, .str x t⟩
 | .tuple xs, v, u, h, r, nd => by
  simp only [RP] at h; obtain ⟨a, vs, rfl, h2, h3⟩ := h
  cases r
  obtain ⟨its, rv, ⟨o, e, c, n, d⟩, _⟩ := I.tuple h2; obtain ⟨as, q⟩ := RPs.reads0 I xs vs its h3 rv nd; exact ⟨_, .tuple e c d (by simpa using q)⟩
 | .list xs, v, u, h, r, nd => by
  simp only [RP] at h; obtain ⟨a, vs, rfl, _, h2, h3⟩ := h
  cases r
  obtain ⟨its, rv, ⟨o, n, e, c, _, d⟩, _⟩ := I.list h2; obtain ⟨as, q⟩ := RPs.reads0 I xs vs its h3 rv nd; exact ⟨_, .list e c d (by simpa using q)⟩
 | .dict _, v, u, h, r, nd => nomatch nd
theorem RPs.reads0 (I : Inv X pins σ H s) : ∀ (xs : List PyData) (vs : List V) (us : List Value), RPs X.K Z m H xs vs → Vals vs us → PyData.hasDictAll xs = false → ∃ as, ReadsAll s.heap us xs as
 | [], vs, us, h, r, _ => by simp only [RPs] at h; subst h; cases r; exact ⟨_, .nil⟩
 | x :: xs, vs, us, h, r, nd => by
  simp only [PyData.hasDictAll, Bool.or_eq_false_iff] at nd; simp only [RPs] at h; obtain ⟨v, w, rfl, h1, h2⟩ := h
  cases r with
  | cons r1 r2 =>
   obtain ⟨as, q1⟩ := RP.reads0 I x v _ h1 r1 nd.1; obtain ⟨bs, q2⟩ := RPs.reads0 I xs w _ h2 r2 nd.2; exact ⟨_, .cons q1 q2⟩
end
theorem RP.reads (I : Inv X pins σ H s) (p : PyData) (v : V) (u : Value) (h : RP X.K Z m H p v) (r : RelV v u) (nd : p.hasDict = false := by first | assumption | (refine PyData.hasDict_of_canLay _ ?_; assumption)) : ∃ as, Reads s.heap u p as := RP.reads0 I p v u h r nd
mutual
theorem RP.noDict (K : PySem.W.Frag) : ∀ (p : PyData) (v : V), RP K Z m H p v → p.showable = true → p.hasDict = false
 | .none, _, _, _ => rfl
 | .bool _, _, _, _ => rfl
 | .int _, _, _, _ => rfl
 | .str _, _, _, _ => rfl
 | .tuple xs, v, h, sh => by
  simp only [RP] at h; obtain ⟨_, vs, _, _, h⟩ := h; simp only [PyData.hasDict]; exact RPs.noDict K xs vs h sh
 | .list xs, v, h, sh => by
  simp only [RP] at h; obtain ⟨_, vs, _, _, _, h⟩ := h; simp only [PyData.hasDict]; exact RPs.noDict K xs vs h sh
 | .dict kvs, v, h, sh => by
  simp only [RP] at h; obtain ⟨a, o, u, vs, _, _, _, h⟩ := h
  cases kvs with
  | nil => simp [RPd] at h
  | cons x r =>
   obtain ⟨k, p⟩ := x; simp only [RPd] at h; obtain ⟨v, r', h1, _⟩ := h
   cases h1
   simp only [PyData.showable, PyData.showableKv, mkU_show, Bool.false_and] at sh
   cases sh
theorem RPs.noDict (K : PySem.W.Frag) : ∀ (xs : List PyData) (vs : List V), RPs K Z m H xs vs → PyData.showableAll xs = true → PyData.hasDictAll xs = false
 | [], _, _, _ => rfl
 | x :: xs, vs, h, sh => by
  simp only [PyData.showableAll, Bool.and_eq_true] at sh; simp only [RPs] at h; obtain ⟨v, w, rfl, h1, h2⟩ := h; simp only [PyData.hasDictAll, RP.noDict K x v h1 sh.1, RPs.noDict K xs w h2 sh.2, Bool.or_self]
end
end
abbrev D2 := D → D → Mu → DK → Prop
def OpD (X : Cx) (op : Value → Value → Sem Value) (r : D2) : Prop :=
 ∀ (pins : List (Addr × Obj)) (s : Shared) (σ : L2.St) (H : Hp) (Z : Addr → Prop) (m : Mu) (x y : V) (dx dy : D) (v u : Value) (R : DK) (Q : VK), Inv X pins σ H s → Ok X.K Z m H → RelV x v → RelV y u → RD X.K Z m H dx x → RD X.K Z m H dy y → r dx dy m R →
  (∀ d m' v' H', R d m' → Ext X.K Z m H m' H' → Ok X.K Z m' H' → RD X.K Z m' H' d v' → Q v' H') → wpAny (model X.prog X.w) X.A (op v u) (EP X pins σ Q) X.xe s
@[simp] def dBin (r : D2) (f g : DE) : DE := fun d m Q => f d m fun x m1 => g d m1 fun y m2 => r x y m2 Q
section
variable {X : Cx} {a b c : Expr} {f g : DE} {pos : Pos}
theorem le2 {op : Value → Value → Sem Value} {r : D2} (ho : OpD X op r) (ha : PE X a (LE X.K f)) (hb : PE X b (LE X.K g)) {pins : List (Addr × Obj)} {s : Shared} {σ : L2.St} {H : Hp} {Q : VK} (I : Inv X pins σ H s)
  (h : LE X.K (dBin r f g) σ H Q) :
  wpAny (model X.prog X.w) X.A (eval a X.env) (fun v s₁ => wpAny (model X.prog X.w) X.A (eval b X.env) (fun u s₂ => wpAny (model X.prog X.w) X.A (op v u) (EP X pins σ Q) X.xe s₂) X.xe s₁) X.xe s := by
 obtain ⟨Z, d, m, R, ok, rs, hf, k⟩ := h; refine binT ha hb I (R := fun x y H2 => ∃ m2 dx dy, Ok X.K Z m2 H2 ∧ Ext X.K Z m H m2 H2 ∧ RD X.K Z m2 H2 dx x ∧ RD X.K Z m2 H2 dy y ∧ r dx dy m2 R) ?_ fun v u s2 x y H2 I2 rx ry ⟨m2, dx, dy, ok2, e2, r1, r2, q⟩ => ?_
 ·exact ⟨Z, d, m, _, ok, rs, hf, fun x m1 v H1 q e1 ok1 r1 => ⟨Z, d, m1, _, ok1, rs.ext e1, q, fun y m2 v2 H2 q2 e2 ok2 r2 => ⟨m2, x, y, ok2, e1.trans e2, r1.ext e2, r2, q2⟩⟩⟩
 ·exact ho pins s2 σ H2 Z m2 x y dx dy v u R Q I2 ok2 rx ry r1 r2 q fun d' m' v' H' h1 h2 h3 h4 => k d' m' v' H' h1 (e2.trans h2) h3 h4
theorem le_bin {op : Operator} {r : D2} (ho : OpD X (binaryOp op) r) (ha : PE X a (LE X.K f)) (hb : PE X b (LE X.K g)) : PE X (.BinOp a op b pos) (LE X.K (dBin r f g)) :=
 fun _ _ _ _ _ I h => wpAny_BinOp (le2 ho ha hb I h)
theorem le_cmp {op : CmpOp} {r : D2} (ho : OpD X (compareOp op) r) (ha : PE X a (LE X.K f)) (hb : PE X b (LE X.K g)) (hm : behindInMarks op b = false := by exact nomark _) : PE X (.Compare a [op] [b] pos) (LE X.K (dBin r f g)) :=
 fun _ _ _ _ _ I h => wpAny_Compare1 (le2 ho ha hb I h) hm
@[simp] def dTst (f : DE) : DT := fun d m Q => f d m fun x m1 => ∃ b, x = .dat (.bool b) ∧ Q b m1
theorem LT.le {K : PySem.W.Frag} {σ : L2.St} {H : Hp} {Q : Bool → Hp → Prop} (h : LT K (dTst f) σ H Q) : LE K f σ H (fun x H' => ∃ k, x = .bl k ∧ Q k H') := by
 obtain ⟨Z, d, m, R, ok, rs, hf, k⟩ := h; refine ⟨Z, d, m, _, ok, rs, hf, fun x m' v H' ⟨b, e, q⟩ e1 ok1 rd => ⟨b, ?_, k b m' H' q e1 ok1⟩⟩; subst e; simpa only [RD, RP] using rd
theorem lt_cmp {op : CmpOp} {r : D2} (ho : OpD X (compareOp op) r) (ha : PE X a (LE X.K f)) (hb : PE X b (LE X.K g)) (hm : behindInMarks op b = false := by exact nomark _) : PT X (.Compare a [op] [b] pos) (LT X.K (dTst (dBin r f g))) := by
 intro pins s σ H Q I h; refine wpAny_isTrue_Compare1 (thn (le2 ho ha hb I h.le) fun v s1 h1 => thn h1 fun u s2 h2 => thn h2 fun c s3 ⟨z, H3, I3, r3, k, e, q3⟩ => ?_) hm; subst e
 cases r3
 exact wpAny_truthy_bool ⟨H3, I3, q3⟩
theorem lt_val (h : PE X a (LE X.K f)) (he : ∀ whole, isTrue a X.env whole = (do let v ← whole; standAt a.pos; holding [v] (truthy v)) := by intro _; rfl) : PT X a (LT X.K (dTst f)) :=
 PT.imp (pt_val h he) fun _ _ _ q => q.le
end
section
variable {X : Cx} {a b c : Expr} {rest : List Expr} {f g : DE} {t u : DT} {pos : Pos}
@[simp] def dAndT (t u : DT) : DT := fun d m Q => t d m fun k m1 => if k = true then u d m1 Q else Q false m1
@[simp] def dOrT (t u : DT) : DT := fun d m Q => t d m fun k m1 => if k = true then Q true m1 else u d m1 Q
@[simp] def dNotT (t : DT) : DT := fun d m Q => t d m fun k m1 => Q (!k) m1
theorem PW.imp {e : Expr} {t t' : TT} (h : PW X e t) (q : ∀ s H Q, t' s H Q → t s H Q) : PW X e t' := fun wh pins s d H Q I w => h wh pins s d H Q I (q _ _ _ w)
theorem lw_and1 (ha : PT X a (LT X.K t)) : PW X (.BoolOp .And [a] pos) (LT X.K t) := pw_and1 ha
theorem lw_or1 (ha : PT X a (LT X.K t)) : PW X (.BoolOp .Or [a] pos) (LT X.K t) := pw_or1 ha
theorem lw_and (ha : PT X a (LT X.K t)) (hb : PW X (.BoolOp .And (b :: rest) pos) (LT X.K u)) : PW X (.BoolOp .And (a :: b :: rest) pos) (LT X.K (dAndT t u)) :=
 PW.imp (pw_and ha hb) fun s H Q ⟨Z, d, m, R, ok, rs, h, k⟩ => ⟨Z, d, m, _, ok, rs, h, fun b m1 H1 q e1 ok1 => by
  cases b with
  | true => rw [if_pos rfl] at q ⊢; exact ⟨Z, d, m1, R, ok1, rs.ext e1, q, fun b' m2 H2 q2 e2 ok2 => k b' m2 H2 q2 (e1.trans e2) ok2⟩
  | false => rw [if_neg Bool.false_ne_true] at q ⊢; exact k false m1 H1 q e1 ok1⟩
theorem lw_or (ha : PT X a (LT X.K t)) (hb : PW X (.BoolOp .Or (b :: rest) pos) (LT X.K u)) : PW X (.BoolOp .Or (a :: b :: rest) pos) (LT X.K (dOrT t u)) :=
 PW.imp (pw_or ha hb) fun s H Q ⟨Z, d, m, R, ok, rs, h, k⟩ => ⟨Z, d, m, _, ok, rs, h, fun b m1 H1 q e1 ok1 => by
  cases b with
  | false => rw [if_neg Bool.false_ne_true] at q ⊢; exact ⟨Z, d, m1, R, ok1, rs.ext e1, q, fun b' m2 H2 q2 e2 ok2 => k b' m2 H2 q2 (e1.trans e2) ok2⟩
  | true => rw [if_pos rfl] at q ⊢; exact k true m1 H1 q e1 ok1⟩
theorem lt_not (ha : PT X a (LT X.K t)) : PT X (.UnaryOp .Not a pos) (LT X.K (dNotT t)) :=
 PT.imp (pt_not ha) fun s H Q ⟨Z, d, m, R, ok, rs, h, k⟩ => ⟨Z, d, m, _, ok, rs, h, fun b m1 H1 q e1 ok1 => k (!b) m1 H1 q e1 ok1⟩
@[simp] def dAnd (f g : DE) : DE := fun d m Q => f d m fun x m1 => ∃ b, x = .dat (.bool b) ∧ if b = true then g d m1 Q else Q (.dat (.bool false)) m1
@[simp] def dNot (f : DE) : DE := fun d m Q => f d m fun x m1 => ∃ b, x = .dat (.bool b) ∧ Q (.dat (.bool (!b))) m1
theorem RD.bl {K : PySem.W.Frag} {Z : Addr → Prop} {m : Mu} {H : Hp} {b : Bool} {v : V} (h : RD K Z m H (.dat (.bool b)) v) : v = .bl b := by simpa only [RD, RP] using h
theorem RD.ofBl {K : PySem.W.Frag} {Z : Addr → Prop} {m : Mu} {H : Hp} {b : Bool} : RD K Z m H (.dat (.bool b)) (.bl b) := by simp only [RD, RP]
theorem le_one {op : BoolOp} (h : PE X a (LE X.K f)) : PE X (.BoolOp op [a] pos) (LE X.K f) := pe_one h
theorem le_and (ha : PE X a (LE X.K f)) (hb : PE X (.BoolOp .And (b :: rest) pos) (LE X.K g)) : PE X (.BoolOp .And (a :: b :: rest) pos) (LE X.K (dAnd f g)) :=
 PE.imp (pe_and ha hb) fun s H Q ⟨Z, d, m, R, ok, rs, h, k⟩ => ⟨Z, d, m, _, ok, rs, h, fun x m1 v H1 ⟨b, e, q⟩ e1 ok1 rd => by
  subst e; refine ⟨b, rd.bl, ?_⟩
  cases b with
  | true => rw [if_pos rfl] at q ⊢; exact ⟨Z, d, m1, R, ok1, rs.ext e1, q, fun x2 m2 v2 H2 q2 e2 ok2 r2 => k x2 m2 v2 H2 q2 (e1.trans e2) ok2 r2⟩
  | false => rw [if_neg Bool.false_ne_true] at q ⊢; exact k _ m1 _ H1 q e1 ok1 .ofBl⟩
theorem le_not (ha : PE X a (LE X.K f)) : PE X (.UnaryOp .Not a pos) (LE X.K (dNot f)) :=
 PE.imp (pe_not ha) fun s H Q ⟨Z, d, m, R, ok, rs, h, k⟩ => ⟨Z, d, m, _, ok, rs, h, fun x m1 v H1 ⟨b, e, q⟩ e1 ok1 rd => by
  subst e; exact ⟨b, rd.bl, k _ m1 _ H1 q e1 ok1 .ofBl⟩⟩
@[simp] def dIte (t : DT) (f g : DE) : DE := fun d m Q => t d m fun k m1 => if k = true then f d m1 Q else g d m1 Q
theorem le_ite (hc : PT X c (LT X.K t)) (ha : PE X a (LE X.K f)) (hb : PE X b (LE X.K g)) : PE X (.IfExp c a b pos) (LE X.K (dIte t f g)) :=
 PE.imp (pe_ifExp hc ha hb) fun s H Q ⟨Z, d, m, R, ok, rs, h, k⟩ => ⟨Z, d, m, _, ok, rs, h, fun b m1 H1 q e1 ok1 => by
  cases b with
  | true => rw [if_pos rfl] at q ⊢; exact ⟨Z, d, m1, R, ok1, rs.ext e1, q, fun x2 m2 v2 H2 q2 e2 ok2 r2 => k x2 m2 v2 H2 q2 (e1.trans e2) ok2 r2⟩
  | false => rw [if_neg Bool.false_ne_true] at q ⊢; exact ⟨Z, d, m1, R, ok1, rs.ext e1, q, fun x2 m2 v2 H2 q2 e2 ok2 r2 => k x2 m2 v2 H2 q2 (e1.trans e2) ok2 r2⟩⟩
end
section
variable {X : Cx} {e : Expr} {es : List Expr} {f : DE} {g : DA} {pos : Pos}
@[simp] def dNil : DA := fun _ m Q => Q [] m
@[simp] def dCons (f : DE) (g : DA) : DA := fun d m Q => f d m fun x m1 => g d m1 fun xs m2 => Q (x :: xs) m2
theorem la_nil : PA X [] (LA X.K dNil) := PA.imp pa_nil fun s H Q ⟨Z, d, m, R, ok, rs, h, k⟩ => k [] m [] H h Ext.refl ok rfl
theorem la_cons (ha : PE X e (LE X.K f)) (hr : PA X es (LA X.K g)) (hs : starEach (e :: es) X.env = (false, eval e X.env) :: starEach es X.env := by rfl) : PA X (e :: es) (LA X.K (dCons f g)) :=
 PA.imp (pa_cons ha hr hs) fun s H Q ⟨Z, d, m, R, ok, rs, h, k⟩ => ⟨Z, d, m, _, ok, rs, h, fun x m1 v H1 q e1 ok1 r1 => ⟨Z, d, m1, _, ok1, rs.ext e1, q, fun xs m2 vs H2 q2 e2 ok2 r2 =>
  k (x :: xs) m2 (v :: vs) H2 q2 (e1.trans e2) ok2 ⟨v, vs, rfl, r1.ext e2, r2⟩⟩⟩
@[simp] def dTup (g : DA) : DE := fun d m Q => g d m fun xs m1 => ∃ ps, pds xs = some ps ∧ ps.length ≤ sizeLine ∧ Q (.dat (.tuple ps)) m1
theorem le_tup {j : Nat} (h : PA X es (LA X.K g)) : PE X (.Tuple es j pos) (LE X.K (dTup g)) :=
 PE.imp (pe_tup h) fun s H Q ⟨Z, d, m, R, ok, rs, h, k⟩ => ⟨Z, d, m, _, ok, rs, h, fun xs m1 vs H1 ⟨ps, e, hz, q⟩ e1 ok1 r1 => by
  have rp := r1.pds e
  refine ⟨by rw [rp.length]; exact hz, fun p hp => ?_⟩
  have sm : Same H1 (upd H1 p (.tup vs)) := same_new hp
  refine k _ m1 _ _ q (e1.trans (ok1.ext sm)) (ok1.grow sm) ?_; simp only [RD, RP]; exact ⟨p, vs, rfl, .inl (.inl upd_same), RPs.ext (ok1.ext sm) _ _ rp⟩⟩
@[simp] def dLst (g : DA) : DE := fun d m Q => g d m fun xs m1 => ∃ ps, pds xs = some ps ∧ ps.length ≤ sizeLine ∧ Q (.dat (.list ps)) m1
@[simp] def dLstC (g : DA) : DE := fun d m Q => g d m fun xs m1 => ∃ ps, pds xs = some ps ∧ ps.length ≤ sizeLine ∧ ∀ a, m1 a = none → Q (.cel a) (updM m1 a (.l ps))
theorem pe_lstK {t : TA} (h : PA X es t) : PE X (.List es pos) (fun s H Q => t s H fun xs H1 => xs.length ≤ sizeLine ∧ ∀ p, H1 p = none → X.K.lookup p = none → Q (.ref p) (upd H1 p (.lst xs))) := by
 intro pins s σ H Q I hq; refine wpAny_List_spliced (thn (h pos pins s σ H _ I hq) fun us s1 ⟨xs, H1, I1, r, z, q⟩ => ⟨by rw [← r.length]; exact z, ?_⟩)
 have hf : H1 s1.heap.objs.size = none := I1.hok.fresh (Nat.le_refl _)
 have hk : X.K.lookup s1.heap.objs.size = none := by
  cases e : X.K.lookup s1.heap.objs.size with
  | none => rfl
  | some o => exact absurd (Heap.lt_size (I1.kIn _ o e)) (Nat.lt_irrefl _)
 refine ⟨.ref s1.heap.objs.size, upd H1 s1.heap.objs.size (.lst xs), I1.laid (t' := s1.toks) (fun b u e => Heap.get?_push_of_some _ e) (Nat.le_refl _) ?_, rfl, q _ hf hk⟩; exact ⟨z, us, 0, r, Heap.get?_push_size _ rfl⟩
theorem ok_none {K : PySem.W.Frag} {Z : Addr → Prop} {m : Mu} {H : Hp} {p : Addr} (ok : Ok K Z m H) (hp : H p = none) : m p = none ∧ ¬ Z p := by
 refine ⟨?_, fun h => (ok.z p h).2 hp⟩
 cases e : m p with
 | none => rfl
 | some ds =>
  obtain ⟨vs, h1, _⟩ := ok.g p ds e; rw [hp] at h1
  cases h1
theorem le_lst (h : PA X es (LA X.K g)) : PE X (.List es pos) (LE X.K (dLst g)) :=
 PE.imp (pe_lstK h) fun s H Q ⟨Z, d, m, R, ok, rs, h, k⟩ => ⟨Z, d, m, _, ok, rs, h, fun xs m1 vs H1 ⟨ps, e, hz, q⟩ e1 ok1 r1 => by
  have rp := r1.pds e
  refine ⟨by rw [rp.length]; exact hz, fun p hp hk => ?_⟩
  have sm : Same H1 (upd H1 p (.lst vs)) := same_new hp
  refine k _ m1 _ _ q (e1.trans (ok1.ext sm)) (ok1.grow sm) ?_; simp only [RD, RP]; exact ⟨p, vs, rfl, ok_none ok1 hp, .inl (.inl upd_same), RPs.ext (ok1.ext sm) _ _ rp⟩⟩
theorem le_lstC (h : PA X es (LA X.K g)) : PE X (.List es pos) (LE X.K (dLstC g)) :=
 PE.imp (pe_lstK h) fun s H Q ⟨Z, d, m, R, ok, rs, h, k⟩ => ⟨Z, d, m, _, ok, rs, h, fun xs m1 vs H1 ⟨ps, e, hz, q⟩ e1 ok1 r1 => by
  have rp := r1.pds e
  refine ⟨by rw [rp.length]; exact hz, fun p hp hk => ?_⟩
  refine k _ _ _ _ (q p (ok_none ok1 hp).1) (e1.trans (Ext.cell ok1 hp hk)) (ok1.cell hp hk rp) ⟨rfl, ?_⟩; rw [updM_same]
  rfl⟩
end
end DL
namespace DL
open PySem PySem.Spec PyProof.Rows L2
theorem noFill_tuple_mul : fillsNumberSlot (.type "tuple") "mul" = pure false := PySem.fillsNumberSlot_seq (id := "tuple.__mul__") (r := some (.builtin "tuple.__rmul__")) PySem.F.slot_tuple_mul.lookup (by decide +kernel) PySem.F.slot_tuple_rmul.lookup (by decide +kernel)
theorem repeat_tuple : seqRepeat? (.type "tuple") = pure (some (.builtin "tuple.__mul__")) := by
 unfold seqRepeat?; rw [PySem.seqSlot_of (T := "tuple") (name := "__mul__") (id := "tuple.__mul__") PySem.F.slot_tuple_mul.lookup (by decide +kernel), PySem.seqSlot_of (T := "tuple") (name := "__rmul__") (id := "tuple.__rmul__") PySem.F.slot_tuple_rmul.lookup (by decide +kernel)]
 rfl
theorem rmul_tuple (a : Int) (t : Tok) (l : Addr) (its : Array Value) (n : Nat) (dd : Option Addr) (sl : Array (Option Value)) : Meets (Builtin.«int.__rmul__» ⟨[.int a t, .ref l], []⟩) (fun _ R s => s.heap.get? l = some { cls := .type "tuple", dict := dd, data := .seq its n, slots := sl } ∧ R (.ok (.ret Value.notImplemented)) s) :=
 .of_wp fun prog w A R s hs => by
  obtain ⟨hp, g, d, tk, os⟩ := s; obtain ⟨hl, h⟩ := hs
  wp_walk
  exact ⟨_, rfl, h⟩
theorem fold_rep (vs : List Value) : ∀ (n : Nat) (acc : List Value), (List.replicate n vs.toArray).foldl (· ++ ·) acc.toArray = (acc ++ (List.replicate n vs).flatten).toArray
 | 0, acc => by simp
 | n + 1, acc => by
  rw [List.replicate_succ, List.foldl_cons, List.replicate_succ, List.flatten_cons]; have := fold_rep vs n (acc ++ vs)
  rw [← List.append_assoc, ← this]; simp
theorem len_rep' {α : Type} (xs : List α) : ∀ n : Nat, (List.replicate n xs).flatten.length = xs.length * n
 | 0 => by simp
 | n + 1 => by rw [List.replicate_succ, List.flatten_cons, List.length_append, len_rep' xs n, Nat.mul_succ, Nat.add_comm]
theorem tup_mul_meets (t : Addr) (its : Array Value) (k : Int) (tok : Tok) (h1 : its.size ≠ 0) (h2 : 2 ≤ k) (h3 : k ≤ 100) (h4 : its.size * k.toNat ≤ sizeLine) : Meets (Builtin.«tuple.__mul__» ⟨[.ref t, .int k tok], []⟩)
  (fun _ R s => IsTup s.heap t its ∧ R (.ok (.ret (.ref s.heap.objs.size))) { s with heap := s.heap.push { cls := .type "tuple", data := .seq ((List.replicate k.toNat its).foldl (· ++ ·) #[]) } }) :=
 .of_wp fun prog w A R s hs => by
  obtain ⟨ht, h⟩ := hs; show wpAny _ _ (asIndex (.int k tok) >>= _) _ _ _
  refine wpAny_bind (wpAny_pure ?_); show wpAny _ _ (if (decide (k < -(2 ^ 63)) || decide (k ≥ 2 ^ 63)) = true then _ else _) _ _ _
  rw [if_neg (by simp; omega)]
  show wpAny _ _ (Builtin.Tuple.tupleItemsOf (.ref t) >>= _) _ _ _
  refine wpAny_bind (tupleItemsOf_ ht ?_); have e1 : its.isEmpty = false := by
   rw [Array.isEmpty_eq_false_iff]; rintro rfl; exact h1 rfl
  have e2 : (k == 1) = false := by
   rw [beq_eq_false_iff_ne]; omega
  show wpAny _ _ (if (its.isEmpty || k == 1) = true then _ else _) _ _ _
  rw [e1, e2, if_neg (by simp)]
  show wpAny _ _ (if (decide (k ≤ 0) || false) = true then _ else _) _ _ _
  rw [if_neg (by simp; omega)]
  have hk : ((its.size : Nat) : Int) * k = ((its.size * k.toNat : Nat) : Int) := by
   push_cast
   rw [Int.toNat_of_nonneg (by omega)]
  have hs := line63
  show wpAny _ _ (if ((its.size : Nat) : Int) * k > (2 ^ 63 - 1) / 8 then _ else _) _ _ _
  rw [if_neg ?c1]
  case c1 =>
   rw [hk]; have : (sizeLine : Nat) ≤ (2 ^ 63 - 1) / 8 := by decide
   omega
  show wpAny _ _ (if (decide (((its.size : Nat) : Int) * k > (sizeLine : Int))) = true then _ else _) _ _ _
  rw [if_neg ?c2]
  case c2 =>
   rw [hk]; intro q; have q' := of_decide_eq_true q
   omega
  show wpAny _ _ (Builtin.Tuple.tupleExact ((List.replicate k.toNat its).foldl (· ++ ·) #[]) >>= _) _ _ _
  refine wpAny_bind (m := Builtin.Tuple.tupleExact _) (wpAny_newObj_type (wpAny_pure ⟨_, rfl, h⟩) ?_); show ((List.replicate k.toNat its).foldl (· ++ ·) #[]).size ≤ sizeLine
  have e := fold_rep its.toList k.toNat []
  rw [List.nil_append] at e; have e' : (List.replicate k.toNat its).foldl (· ++ ·) #[] = (List.replicate k.toNat its.toList).flatten.toArray := e
  rw [e', List.size_toArray, len_rep', Array.length_toList]; exact h4
theorem Vals.rep {xs : List V} {us : List Value} (h : Vals xs us) : ∀ n : Nat, Vals (List.replicate n xs).flatten (List.replicate n us).flatten
 | 0 => .nil
 | n + 1 => by
  rw [List.replicate_succ, List.replicate_succ, List.flatten_cons, List.flatten_cons]; exact h.append (Vals.rep h n)
theorem RPs.rep {K : PySem.W.Frag} {Z : Addr → Prop} {m : Mu} {H : Hp} {xs : List PyData} {vs : List V} (h : RPs K Z m H xs vs) : ∀ n : Nat, RPs K Z m H (List.replicate n xs).flatten (List.replicate n vs).flatten
 | 0 => by simp [RPs]
 | n + 1 => by
  rw [List.replicate_succ, List.replicate_succ, List.flatten_cons, List.flatten_cons]; exact h.append (RPs.rep h n)
section
variable {X : Cx}
theorem rep_tup {pins : List (Addr × Obj)} {s : Shared} {σ : L2.St} {H : Hp} {Q : VK} {a : Addr} {xs : List V} {k : Int} {t : Tok} (I : Inv X pins σ H s) (ha : SqT X.K H a xs) (h1 : xs ≠ []) (h2 : 2 ≤ k) (h3 : k ≤ 100) (h4 : xs.length * k.toNat ≤ sizeLine)
  (q : ∀ p, H p = none → Q (.ref p) (upd H p (.tup (List.replicate k.toNat xs).flatten))) : wpAny (model X.prog X.w) X.A (binaryOp .Mult (.ref a) (.int k t)) (EP X pins σ Q) X.xe s := by
 obtain ⟨its, r, p, hz⟩ := I.tuple ha; have hl := r.length
 obtain ⟨⟨cls, dd, data, sl⟩, ho, hc, n, hd⟩ := id p; simp only at hc hd; subst hc hd; refine wpAny_binaryOp_repeat_ref (T := "tuple") (U := "int") (by decide) ⟨_, ho, rfl⟩ (fun s' => typeIs_int s' k t) noFill_tuple_mul PySem.F.fills_int_mul PySem.F.slot_int_rmul repeat_tuple PySem.F.slot_int_index.lookup
  (call_meets PySem.F.slot_int_rmul (typeIs_int s k t) PySem.F.entry_int_rmul (PySem.F.args_int_rmul_2 _ _) (rmul_tuple k t a its.toArray n dd sl) ⟨ho, rfl, ⟨_, ho, rfl⟩, call_meets PySem.F.slot_tuple_mul ⟨_, ho, rfl⟩ PySem.F.entry_tuple_mul (PySem.F.args_tuple_mul_2 _ _) (tup_mul_meets a its.toArray k t ?_ h2 h3 ?_) ⟨p, ?_⟩⟩)
 ·rw [List.size_toArray, ← hl]; intro e; exact h1 (List.length_eq_zero_iff.mp e)
 ·rw [List.size_toArray, ← hl]; exact h4
 ·have e := fold_rep its k.toNat []
  rw [List.nil_append] at e; rw [e]; exact ⟨.ref s.heap.objs.size, _, I.laid (t' := s.toks) (o := .tup (List.replicate k.toNat xs).flatten) (fun b ob q => Heap.get?_push_of_some _ q) (Nat.le_refl _) ⟨⟨by rw [len_rep']; exact h4, NoD.new _ _ _⟩, _, Vals.rep r k.toNat, IsTup.new _ _⟩, rfl, q _ (I.hok.fresh (Nat.le_refl _))⟩
end
end DL
namespace DL
open PySem PySem.Spec PyProof.Rows L2
@[simp] def aAdd : D2
 | .dat (.int i), .dat (.int j), m, Q => Q (.dat (.int (i + j))) m
 | .dat (.str a), .dat (.str b), m, Q => a.length + b.length ≤ sizeLine ∧ Q (.dat (.str (a ++ b))) m
 | .dat (.tuple a), .dat (.tuple b), m, Q => a.length + b.length ≤ sizeLine ∧ Q (.dat (.tuple (a ++ b))) m
 | .dat (.list a), .dat (.list b), m, Q => a.length + b.length ≤ sizeLine ∧ Q (.dat (.list (a ++ b))) m
 | .cel c, .dat (.list b), m, Q => ∃ a, m c = some (.l a) ∧ a.length + b.length ≤ sizeLine ∧ Q (.dat (.list (a ++ b))) m
 | _, _, _, _ => False
@[simp] def aSub : D2
 | .dat (.int i), .dat (.int j), m, Q => Q (.dat (.int (i - j))) m
 | _, _, _, _ => False
@[simp] def aMul : D2
 | .dat (.int i), .dat (.int j), m, Q => IntMulOk i j ∧ Q (.dat (.int (i * j))) m
 | .dat (.tuple a), .dat (.int k), m, Q => a ≠ [] ∧ 2 ≤ k ∧ k ≤ 100 ∧ a.length * k.toNat ≤ sizeLine ∧ Q (.dat (.tuple (List.replicate k.toNat a).flatten)) m
 | _, _, _, _ => False
@[simp] def aDiv : D2
 | .dat (.int i), .dat (.int j), m, Q => j ≠ 0 ∧ j.natAbs.log2 < 9000 ∧ Q (.dat (.int (i.fdiv j))) m
 | _, _, _, _ => False
@[simp] def aMod : D2
 | .dat (.int i), .dat (.int j), m, Q => j ≠ 0 ∧ Q (.dat (.int (i.fmod j))) m
 | _, _, _, _ => False
@[simp] def aPow : D2
 | .dat (.int i), .dat (.int j), m, Q => (0 ≤ j ∧ j ≤ 1000000 ∧ i.natAbs < 2 ^ 64) ∧ Q (.dat (.int (i ^ j.toNat))) m
 | _, _, _, _ => False
@[simp] def aLt : D2
 | .dat (.int i), .dat (.int j), m, Q => Q (.dat (.bool (decide (i < j)))) m
 | _, _, _, _ => False
@[simp] def aLe : D2
 | .dat (.int i), .dat (.int j), m, Q => Q (.dat (.bool (decide (i ≤ j)))) m
 | _, _, _, _ => False
@[simp] def aGt : D2
 | .dat (.int i), .dat (.int j), m, Q => Q (.dat (.bool (decide (j < i)))) m
 | _, _, _, _ => False
@[simp] def aGe : D2
 | .dat (.int i), .dat (.int j), m, Q => Q (.dat (.bool (decide (j ≤ i)))) m
 | _, _, _, _ => False
@[simp] def aEq : D2
 | .dat (.str a), .dat (.str b), m, Q => Q (.dat (.bool (decide (a = b)))) m
 | .dat p, .dat q, m, Q => p.canLay0 = true ∧ q.canLay0 = true ∧ p.depth ≤ 100 ∧ Q (.dat (.bool (PyData.eqv p q))) m
 | _, _, _, _ => False
@[simp] def aNe : D2
 | .dat (.str a), .dat (.str b), m, Q => Q (.dat (.bool (!decide (a = b)))) m
 | .dat p, .dat q, m, Q => p.canLay0 = true ∧ q.canLay0 = true ∧ p.depth ≤ 100 ∧ Q (.dat (.bool (!PyData.eqv p q))) m
 | _, _, _, _ => False
section
variable {X : Cx}
theorem RD.int {K : PySem.W.Frag} {Z : Addr → Prop} {m : Mu} {H : Hp} {i : Int} {v : V} (h : RD K Z m H (.dat (.int i)) v) : v = .int i := by simpa only [RD, RP] using h
theorem RD.ofInt {K : PySem.W.Frag} {Z : Addr → Prop} {m : Mu} {H : Hp} {i : Int} : RD K Z m H (.dat (.int i)) (.int i) := by simp only [RD, RP]
theorem RD.str {K : PySem.W.Frag} {Z : Addr → Prop} {m : Mu} {H : Hp} {i : Str} {v : V} (h : RD K Z m H (.dat (.str i)) v) : v = .str i := by simpa only [RD, RP] using h
theorem RD.ofStr {K : PySem.W.Frag} {Z : Addr → Prop} {m : Mu} {H : Hp} {i : Str} : RD K Z m H (.dat (.str i)) (.str i) := by simp only [RD, RP]
theorem od_sub : OpD X (binaryOp .Sub) aSub := by
 intro pins s σ H Z m x y dx dy v u R Q I ok rx ry r1 r2 h k; unfold aSub at h
 split at h
 ·cases r1.int; cases r2.int
  exact op_sub pins s σ H _ _ v u Q I rx ry ⟨_, _, rfl, rfl, k _ m _ H h Ext.refl ok .ofInt⟩
 ·exact h.elim
theorem od_mul : OpD X (binaryOp .Mult) aMul := by
 intro pins s σ H Z m x y dx dy v u R Q I ok rx ry r1 r2 h k; unfold aMul at h
 split at h
 ·cases r1.int; cases r2.int
  obtain ⟨t, rfl⟩ := rx; obtain ⟨t', rfl⟩ := ry; exact mul_int ⟨.int _, H, I.tok _, ⟨_, rfl⟩, k _ m _ H h.2 Ext.refl ok .ofInt⟩ h.1
 ·rename_i a j; obtain ⟨h1, h2, h3, h4, h5⟩ := h
  cases r2.int
  simp only [RD, RP] at r1; obtain ⟨p, vs, rfl, g1, g2⟩ := r1
  cases rx
  obtain ⟨t', rfl⟩ := ry; have hl := g2.length
  refine rep_tup I g1 (fun e => h1 ?_) h2 h3 (by rw [hl]; exact h4) fun t ht => ?_
  ·subst e
   cases a with
   | nil => rfl
   | cons _ _ => simp at hl
  ·have sm : Same H (upd H t (.tup (List.replicate j.toNat vs).flatten)) := same_new ht
   refine k _ m _ _ h5 (ok.ext sm) (ok.grow sm) ?_; simp only [RD, RP]; exact ⟨t, _, rfl, .inl (.inl upd_same), RPs.ext (ok.ext sm) _ _ (g2.rep _)⟩
 ·exact h.elim
theorem od_div : OpD X (binaryOp .FloorDiv) aDiv := by
 intro pins s σ H Z m x y dx dy v u R Q I ok rx ry r1 r2 h k; unfold aDiv at h
 split at h
 ·cases r1.int; cases r2.int
  obtain ⟨t, rfl⟩ := rx; obtain ⟨t', rfl⟩ := ry; exact floordiv_int h.1 ⟨.int _, H, I.tok _, ⟨_, rfl⟩, k _ m _ H h.2.2 Ext.refl ok .ofInt⟩ (.inl (PyProof.noPylong_of_log2 h.2.1))
 ·exact h.elim
theorem od_mod : OpD X (binaryOp .Mod) aMod := by
 intro pins s σ H Z m x y dx dy v u R Q I ok rx ry r1 r2 h k; unfold aMod at h
 split at h
 ·cases r1.int; cases r2.int
  exact op_modN pins s σ H _ _ v u Q I rx ry ⟨_, _, rfl, rfl, h.1, k _ m _ H h.2 Ext.refl ok .ofInt⟩
 ·exact h.elim
theorem od_pow : OpD X (binaryOp .Pow) aPow := by
 intro pins s σ H Z m x y dx dy v u R Q I ok rx ry r1 r2 h k; unfold aPow at h
 split at h
 ·cases r1.int; cases r2.int
  exact op_pow pins s σ H _ _ v u Q I rx ry ⟨_, _, rfl, rfl, h.1, k _ m _ H h.2 Ext.refl ok .ofInt⟩
 ·exact h.elim
theorem od_lt : OpD X (compareOp .Lt) aLt := by
 intro pins s σ H Z m x y dx dy v u R Q I ok rx ry r1 r2 h k; unfold aLt at h
 split at h
 ·cases r1.int; cases r2.int
  exact op_lt pins s σ H _ _ v u Q I rx ry ⟨_, _, rfl, rfl, k _ m _ H h Ext.refl ok .ofBl⟩
 ·exact h.elim
theorem od_le : OpD X (compareOp .LtE) aLe := by
 intro pins s σ H Z m x y dx dy v u R Q I ok rx ry r1 r2 h k; unfold aLe at h
 split at h
 ·cases r1.int; cases r2.int
  exact op_le pins s σ H _ _ v u Q I rx ry ⟨_, _, rfl, rfl, k _ m _ H h Ext.refl ok .ofBl⟩
 ·exact h.elim
theorem od_gt : OpD X (compareOp .Gt) aGt := by
 intro pins s σ H Z m x y dx dy v u R Q I ok rx ry r1 r2 h k; unfold aGt at h
 split at h
 ·cases r1.int; cases r2.int
  exact op_gt pins s σ H _ _ v u Q I rx ry ⟨_, _, rfl, rfl, k _ m _ H h Ext.refl ok .ofBl⟩
 ·exact h.elim
theorem od_ge : OpD X (compareOp .GtE) aGe := by
 intro pins s σ H Z m x y dx dy v u R Q I ok rx ry r1 r2 h k; unfold aGe at h
 split at h
 ·cases r1.int; cases r2.int
  exact op_ge pins s σ H _ _ v u Q I rx ry ⟨_, _, rfl, rfl, k _ m _ H h Ext.refl ok .ofBl⟩
 ·exact h.elim
theorem od_eq (hu : X.A.units + 100 < cLine) : OpD X (compareOp .Eq) aEq := by
 intro pins s σ H Z m x y dx dy v u R Q I ok rx ry r1 r2 h k; unfold aEq at h
 split at h
 ·cases r1.str; cases r2.str
  refine op_eq pins s σ H _ _ v u Q I rx ry ⟨rfl, ?_⟩; have e : ∀ a b : Str, decide (V.str a = V.str b) = decide (a = b) := fun a b => by
   rw [Bool.eq_iff_iff]; simp
  rw [e]; exact k _ m _ H h Ext.refl ok .ofBl
 ·rename_i p q hne; obtain ⟨h1, h2, h3, h4⟩ := h; obtain ⟨as, ra⟩ := RP.reads I p x v r1 rx; obtain ⟨bs, rb⟩ := RP.reads I q y u r2 ry; exact SeqAt.compareEq_reads ra rb h1 h2 (by omega) ⟨.bl _, H, I, rfl, k _ m _ H h4 Ext.refl ok .ofBl⟩
 ·exact h.elim
theorem od_ne (hu : X.A.units + 100 < cLine) : OpD X (compareOp .NotEq) aNe := by
 intro pins s σ H Z m x y dx dy v u R Q I ok rx ry r1 r2 h k; unfold aNe at h
 split at h
 ·cases r1.str; cases r2.str
  refine op_ne pins s σ H _ _ v u Q I rx ry ⟨rfl, ?_⟩; have e : ∀ a b : Str, decide (V.str a = V.str b) = decide (a = b) := fun a b => by
   rw [Bool.eq_iff_iff]; simp
  rw [e]; exact k _ m _ H h Ext.refl ok .ofBl
 ·rename_i p q hne; obtain ⟨h1, h2, h3, h4⟩ := h; obtain ⟨as, ra⟩ := RP.reads I p x v r1 rx; obtain ⟨bs, rb⟩ := RP.reads I q y u r2 ry; exact SeqAt.compareNe_reads ra rb h1 h2 (by omega) ⟨.bl _, H, I, rfl, k _ m _ H h4 Ext.refl ok .ofBl⟩
 ·exact h.elim
theorem cat_tup0 {pins : List (Addr × Obj)} {s : Shared} {σ : L2.St} {H : Hp} {Q : VK} {a b : Addr} {ys : List V} (I : Inv X pins σ H s) (ha : SqT X.K H a []) (hb : SqT X.K H b ys) (q : Q (.ref b) H) :
  wpAny (model X.prog X.w) X.A (binaryOp .Add (.ref a) (.ref b)) (EP X pins σ Q) X.xe s := by
 obtain ⟨its, r1, p1, _⟩ := I.tuple ha; obtain ⟨its2, r2, p2, _⟩ := I.tuple hb
 cases r1
 obtain ⟨⟨cls, dd, data, sl⟩, ho, hc, n, hd⟩ := id p1; obtain ⟨⟨cls2, dd2, data2, sl2⟩, ho2, hc2, n2, hd2⟩ := id p2; simp only at hc hd hc2 hd2; subst hc hd hc2 hd2; exact concat_meets ⟨_, ho, rfl⟩ ⟨_, ho2, rfl⟩ noFill_tuple_add seq_tuple_add PySem.F.slot_tuple_add PySem.F.entry_tuple_add (PySem.F.args_tuple_add_2 _ _)
   (tuple_addW0 a b _ _ n n2 dd dd2 sl sl2 (by simp)) ⟨ho, ho2, ⟨.ref b, H, I, rfl, q⟩⟩
theorem op_catS : OpR X (binaryOp .Add) (fun x y H Q => ∃ a b xs ys, x = .ref a ∧ y = .ref b ∧ SqL X.K H a xs ∧ SqL X.K H b ys ∧ xs.length + ys.length ≤ sizeLine ∧ ∀ p, H p = none → Q (.ref p) (upd H p (.lst (xs ++ ys)))) := by
 intro pins s σ H x y v u Q I rx ry h; obtain ⟨a, b, xs, ys, rfl, rfl, ha, hb, hz, q⟩ := h
 cases rx
 cases ry
 obtain ⟨its, r1, p1, _⟩ := I.list ha; obtain ⟨its2, r2, p2, _⟩ := I.list hb; obtain ⟨⟨cls, dd, data, sl⟩, ho, hc, n, hd⟩ := id p1.isList; obtain ⟨⟨cls2, dd2, data2, sl2⟩, ho2, hc2, n2, hd2⟩ := id p2.isList; simp only at hc hd hc2 hd2; subst hc hd hc2 hd2; have l1 := r1.length
 have l2 := r2.length
 have e : its.toArray ++ its2.toArray = (its ++ its2).toArray := by simp
 refine concat_meets ⟨_, ho, rfl⟩ ⟨_, ho2, rfl⟩ noFill_list_add seq_list_add PySem.F.slot_list_add PySem.F.entry_list_add (PySem.F.args_list_add_2 _ _)
   (list_addW a b its.toArray its2.toArray n n2 dd dd2 sl sl2 (by rw [List.size_toArray, List.size_toArray]; omega)) ⟨ho, ho2, ?_⟩
 rw [e]; exact ⟨.ref s.heap.objs.size, _, I.laid (t' := s.toks) (o := .lst (xs ++ ys)) (fun b ob q => Heap.get?_push_of_some _ q) (Nat.le_refl _) ⟨by rw [List.length_append]; omega, _, 0, r1.append r2, Heap.get?_push_size _ rfl⟩, rfl, q _ (I.hok.fresh (Nat.le_refl _))⟩
theorem od_add : OpD X (binaryOp .Add) aAdd := by
 intro pins s σ H Z m x y dx dy v u R Q I ok rx ry r1 r2 h k; unfold aAdd at h
 split at h
 ·cases r1.int; cases r2.int
  exact op_add pins s σ H _ _ v u Q I rx ry ⟨_, _, rfl, rfl, k _ m _ H h Ext.refl ok .ofInt⟩
 ·cases r1.str; cases r2.str
  exact op_add_str pins s σ H _ _ v u Q I rx ry ⟨_, _, rfl, rfl, h.1, k _ m _ H h.2 Ext.refl ok .ofStr⟩
 ·rename_i a b; simp only [RD, RP] at r1 r2; obtain ⟨p, vs, rfl, h1, h2⟩ := r1; obtain ⟨q, ws, rfl, g1, g2⟩ := r2; have l1 := h2.length
  have l2 := g2.length
  by_cases e1 : a = []
  ·subst e1; simp only [RPs] at h2; subst h2
   cases rx; cases ry
   refine cat_tup0 I h1 g1 (k _ m _ H h.2 Ext.refl ok ?_); simp only [RD, RP]; exact ⟨q, ws, rfl, g1, by simpa using g2⟩
  ·refine op_catT pins s σ H _ _ v u Q I rx ry ⟨p, q, vs, ws, rfl, rfl, h1, g1, ?_, by omega, fun e2 => ?_, fun e2 t ht => ?_⟩
   ·rintro rfl
    cases a with
    | nil => exact e1 rfl
    | cons _ _ => simp at l1
   ·subst e2; have e3 : b = [] := by cases b with | nil => rfl | cons _ _ => simp at l2
    subst e3; refine k _ m _ H h.2 Ext.refl ok ?_; simp only [RD, RP]; exact ⟨p, vs, rfl, h1, by simpa using h2⟩
   ·have sm : Same H (upd H t (.tup (vs ++ ws))) := same_new ht
    refine k _ m _ _ h.2 (ok.ext sm) (ok.grow sm) ?_; simp only [RD, RP]; exact ⟨t, _, rfl, .inl (.inl upd_same), RPs.ext (ok.ext sm) _ _ (h2.append g2)⟩
 ·rename_i a b; simp only [RD, RP] at r1 r2; obtain ⟨p, vs, rfl, h0, h1, h2⟩ := r1; obtain ⟨q, ws, rfl, g0, g1, g2⟩ := r2; have l1 := h2.length
  have l2 := g2.length
  refine op_catS pins s σ H _ _ v u Q I rx ry ⟨p, q, vs, ws, rfl, rfl, h1, g1, by omega, fun t ht => ?_⟩
  have sm : Same H (upd H t (.lst (vs ++ ws))) := same_new ht
  refine k _ m _ _ h.2 (ok.ext sm) (ok.grow sm) ?_; simp only [RD, RP]; exact ⟨t, _, rfl, ok_none ok ht, .inl (.inl upd_same), RPs.ext (ok.ext sm) _ _ (h2.append g2)⟩
 ·rename_i c b; obtain ⟨aa, hm, hz, hq⟩ := h; obtain ⟨rfl, _⟩ := r1; obtain ⟨vs, g0, g3⟩ := ok.l hm; simp only [RD, RP] at r2; obtain ⟨q, ws, rfl, _, g1, g2⟩ := r2; have l1 := g3.length
  have l2 := g2.length
  refine op_catS pins s σ H _ _ v u Q I rx ry ⟨c, q, vs, ws, rfl, rfl, .inl (.inl g0), g1, by omega, fun t ht => ?_⟩
  have sm : Same H (upd H t (.lst (vs ++ ws))) := same_new ht
  refine k _ m _ _ hq (ok.ext sm) (ok.grow sm) ?_; simp only [RD, RP]; exact ⟨t, _, rfl, ok_none ok ht, .inl (.inl upd_same), RPs.ext (ok.ext sm) _ _ (g3.append g2)⟩
 ·exact h.elim
end
end DL
namespace DL
open PySem PySem.Spec PyProof.Rows L2
section
variable {X : Cx} {a b c e : Expr} {es : List Expr} {f g : DE} {ga : DA} {pos p2 p : Pos}
@[simp] def dNeg (f : DE) : DE := fun d m Q => f d m fun x m1 => ∃ i, x = .dat (.int i) ∧ Q (.dat (.int (-i))) m1
theorem le_neg (ha : PE X a (LE X.K f)) : PE X (.UnaryOp .USub a pos) (LE X.K (dNeg f)) :=
 PE.imp (pe_un un_neg ha) fun s H Q h => by
  obtain ⟨Z, d, m, R, ok, rs, h, k⟩ := h; refine ⟨Z, d, m, _, ok, rs, h, fun x m1 v H1 ⟨i, e, q⟩ e1 ok1 rd => ?_⟩; subst e; exact ⟨i, rd.int, k _ m1 _ H1 q e1 ok1 .ofInt⟩
@[simp] def aIx : D2
 | .dat (.tuple xs), .dat (.int i), m, Q => ∃ p, atI xs i = some p ∧ Q (.dat p) m
 | .dat (.list xs), .dat (.int i), m, Q => ∃ p, atI xs i = some p ∧ Q (.dat p) m
 | .cel a, .dat (.int i), m, Q => ∃ xs p, m a = some (.l xs) ∧ atI xs i = some p ∧ Q (.dat p) m
 | .dat (.str z), .dat (.int i), m, Q => ∃ c, z.length ≤ sizeLine ∧ atI z.cps.toList i = some c ∧ Q (.dat (.str ⟨#[c]⟩)) m
 | _, _, _, _ => False
theorem RPs.at {K : PySem.W.Frag} {Z : Addr → Prop} {m : Mu} {H : Hp} {xs : List PyData} {vs : List V} {i : Int} {p : PyData} (h : RPs K Z m H xs vs) (e : atI xs i = some p) : ∃ v, atI vs i = some v ∧ RP K Z m H p v := by
 unfold atI at e ⊢; rw [h.length]
 cases q : ixN xs.length i with
 | none => rw [q] at e; cases e
 | some j =>
  rw [q] at e; exact h.get (i := j) e
theorem le_ix (ha : PE X a (LE X.K f)) (hb : PE X b (LE X.K g)) (hs : PlainIx b := by exact fun _ _ => rfl) : PE X (.Subscript a b pos) (LE X.K (dBin aIx f g)) :=
 PE.imp (pe_ix ix_seq ha hb hs) fun s H Q h => by
  obtain ⟨Z, d, m, R, ok, rs, h, k⟩ := h; refine ⟨Z, d, m, _, ok, rs, h, fun x m1 v H1 q e1 ok1 rx => ⟨Z, d, m1, _, ok1, rs.ext e1, q, fun y m2 w H2 q2 e2 ok2 ry => ?_⟩⟩; have rx2 := rx.ext e2
  have e12 := e1.trans e2
  unfold aIx at q2
  split at q2
  ·obtain ⟨p, ep, q⟩ := q2
   cases ry.int
   simp only [RD, RP] at rx2; obtain ⟨a, vs, rfl, h1, h2⟩ := rx2; obtain ⟨z, ez, rz⟩ := h2.at ep; exact .inr (.inl ⟨a, vs, _, z, rfl, rfl, h1, ez, k _ m2 z H2 q e12 ok2 rz⟩)
  ·obtain ⟨p, ep, q⟩ := q2
   cases ry.int
   simp only [RD, RP] at rx2; obtain ⟨a, vs, rfl, _, h1, h2⟩ := rx2; obtain ⟨z, ez, rz⟩ := h2.at ep; exact .inl ⟨a, vs, _, z, rfl, rfl, h1, ez, k _ m2 z H2 q e12 ok2 rz⟩
  ·obtain ⟨xs, p, hm, ep, q⟩ := q2
   cases ry.int
   obtain ⟨rfl, _⟩ := rx2; obtain ⟨vs, h1, h2⟩ := ok2.l hm; obtain ⟨z, ez, rz⟩ := h2.at ep; exact .inl ⟨_, vs, _, z, rfl, rfl, .inl (.inl h1), ez, k _ m2 z H2 q e12 ok2 rz⟩
  ·obtain ⟨c, hz, ec, q⟩ := q2
   cases ry.int
   cases rx2.str
   exact .inr (.inr ⟨_, _, c, rfl, rfl, hz, ec, k _ m2 _ H2 q e12 ok2 .ofStr⟩)
  ·exact q2.elim
abbrev DO := St2 → Mu → (Option Int → Mu → Prop) → Prop
def LO (K : PySem.W.Frag) (f : DO) : TO := fun s H Q => ∃ (Z : Addr → Prop) (d : St2) (m : Mu) (R : Option Int → Mu → Prop), Ok K Z m H ∧ RS K Z m H d s ∧ f d m R ∧
 ∀ x m' H', R x m' → Ext K Z m H m' H' → Ok K Z m' H' → Q x H'
@[simp] def dNoP : DO := fun _ m Q => Q none m
@[simp] def dPart (f : DE) : DO := fun d m Q => f d m fun x m1 => ∃ i, x = .dat (.int i) ∧ Q (some i) m1
theorem PO.imp {e : Option Expr} {t t' : TO} (h : PO X e t) (q : ∀ s H Q, t' s H Q → t s H Q) : PO X e t' := fun pins s d H Q I w => h pins s d H Q I (q _ _ _ w)
theorem lo_none : PO X none (LO X.K dNoP) := PO.imp po_none fun s H Q h => by
 obtain ⟨Z, d, m, R, ok, rs, h, k⟩ := h; exact k none m H h Ext.refl ok
theorem lo_some (ha : PE X a (LE X.K f)) : PO X (some a) (LO X.K (dPart f)) := PO.imp (po_some ha) fun s H Q h => by
 obtain ⟨Z, d, m, R, ok, rs, h, k⟩ := h; refine ⟨Z, d, m, _, ok, rs, h, fun x m1 v H1 ⟨i, e, q⟩ e1 ok1 rd => ?_⟩; subst e; exact ⟨i, rd.int, k _ m1 H1 q e1 ok1⟩
def cutP {α : Type} (xs : List α) (lo hi : Option Int) : List α := (xs.drop (HT.sIx xs.length 0 lo)).take (HT.sIx xs.length xs.length hi - HT.sIx xs.length 0 lo)
theorem RPs.cut {K : PySem.W.Frag} {Z : Addr → Prop} {m : Mu} {H : Hp} {xs : List PyData} {vs : List V} {lo hi : Option Int} (h : RPs K Z m H xs vs) : RPs K Z m H (cutP xs lo hi) (cutV vs lo hi) := by
 unfold cutP cutV; rw [h.length]; exact (h.drop _).take _
theorem cut_whole {α : Type} (xs : List α) {lo hi : Option Int} (h : HT.sIx xs.length 0 lo = 0 ∧ HT.sIx xs.length xs.length hi = xs.length) : cutP xs lo hi = xs := by
 unfold cutP; rw [h.1, h.2]; simp
def rSlW (K : PySem.W.Frag) : V → Option Int → Option Int → Hp → VK → Prop := fun x lo hi H Q => ∃ a xs, x = .ref a ∧ SqT K H a xs ∧
 (HT.sIx xs.length 0 lo = 0 ∧ HT.sIx xs.length xs.length hi = xs.length) ∧ Q (.ref a) H
theorem getItem_tuple_whole {prog : Program} {w : World} {A : Around} {E : Value → Shared → Prop} {s : Shared} {t sl : Addr} {items : Array Value} {vl vu : Value} {lo hi : Option Int} {Q : Value → Shared → Prop} (ht : IsTup s.heap t items) (hs : s.heap.IsSliceOf sl vl vu .none) (pl : IsPart vl lo) (pu : IsPart vu hi)
  (hw : HT.sIx items.size 0 lo = 0 ∧ HT.sIx items.size items.size hi = items.size)
  (h : Q (.ref t) s) : wpAny (model prog w) A (getItem (.ref t) (.ref sl)) Q E s := by
 obtain ⟨os, hos, hcs, hds⟩ := id hs; have hTs : s.TypeIs (.ref sl) "slice" := ⟨os, hos, hcs⟩
 unfold getItem
 try with_reducible refine wpAny_holding ?_
 first | refine wpAny_bind (wpAny_pure ?_) | skip
 refine wpAny_bind (wpAny_sequenceKey ht.typeIs (by decide) ?_)
 refine wpAny_bind (wpAny_callSpecial?_slot (name := Str.ofString "__getitem__") ht.typeIs PyProof.Rows.slot_tuple_getitem
  (wpAny_call_entry PyProof.Rows.slot_tuple_getitem ht.typeIs entry_tuple_getitem ?_ (args_tuple_getitem _ _)))
 show wpAny _ _ (Builtin.Tuple.tupleItemsOf (.ref t) >>= _) _ _ s
 refine wpAny_bind (tupleItemsOf_ ht ?_); refine wpAny_bind (wpAny_typeOf hTs ?_); rw [if_pos (by decide)]
 refine wpAny_bind (HT.sliceApplied_gen hs pl pu ?_); have hyes : (((HT.sIx items.size 0 lo : Nat) : Int) == 0 && (1 : Int) == 1 && (HT.sIx items.size items.size hi - HT.sIx items.size 0 lo) == items.size) = true := by
  rw [hw.1, hw.2]; simp
 show wpAny _ _ (if (((HT.sIx items.size 0 lo : Nat) : Int) == 0 && (1 : Int) == 1 && (HT.sIx items.size items.size hi - HT.sIx items.size 0 lo) == items.size) = true then _ else _) _ _ s
 rw [if_pos hyes]; refine wpAny_bind ?_; unfold Builtin.Tuple.tupleIsExact; refine wpAny_bind (wpAny_typeOf ht.typeIs (wpAny_pure ?_)); rw [if_pos (by decide)]
 first
  | exact wpAny_bind (wpAny_rule (wpAny_pure ⟨_, rfl, wpAny_pure h⟩))
  | exact wpAny_bind (wpAny_rule (wpAny_bind (wpAny_pure (wpAny_pure ⟨_, rfl, wpAny_pure h⟩))))
theorem sl_whole : SlR X (rSlW X.K) := by
 intro pins s σ H x v vl vu lo hi sl Q I rx hs pl pu h; obtain ⟨a, xs, rfl, hx, hw, q⟩ := h
 cases rx
 obtain ⟨its, r, ht, hz⟩ := I.tuple hx; have hlen : its.toArray.size = xs.length := by rw [List.size_toArray]; exact r.length.symm
 refine ⟨"tuple", _, PyProof.Rows.slot_tuple_getitem.lookup, ht.typeIs, ?_⟩; exact getItem_tuple_whole ht hs pl pu (by rw [hlen]; exact hw) ⟨.ref a, H, I, rfl, q⟩
abbrev DC := List D → Mu → DK → Prop
def CallD (X : Cx) (fn : Value) (r : DC) : Prop :=
 ∀ (pins : List (Addr × Obj)) (s : Shared) (σ : L2.St) (H : Hp) (Z : Addr → Prop) (m : Mu) (xs : List V) (ds : List D) (us : List Value) (R : DK) (Q : VK), Inv X pins σ H s → Ok X.K Z m H → Vals xs us → RDs X.K Z m H ds xs → r ds m R →
  (∀ d m' v' H', R d m' → Ext X.K Z m H m' H' → Ok X.K Z m' H' → RD X.K Z m' H' d v' → Q v' H') → wpAny (model X.prog X.w) X.A (call fn us) (EP X pins σ Q) X.xe s
theorem CallD.cr {fn : Value} {r : DC} (h : CallD X fn r) : CallR X fn (fun vs H Q => ∃ Z m ds R, Ok X.K Z m H ∧ RDs X.K Z m H ds vs ∧ r ds m R ∧ ∀ d m' v' H', R d m' → Ext X.K Z m H m' H' → Ok X.K Z m' H' → RD X.K Z m' H' d v' → Q v' H') := by
 intro pins s σ H xs us Q I r1 ⟨Z, m, ds, R, ok, rd, q, k⟩; exact h pins s σ H Z m xs ds us R Q I ok r1 rd q k
@[simp] def dCallB (r : DC) (g : DA) : DE := fun d m Q => g d m fun xs m1 => r xs m1 Q
theorem LE.call {r : DC} {H : Hp} {σ : L2.St} {Q : VK} (h : LE X.K (dCallB r ga) σ H Q) :
  LA X.K ga σ H fun vs H1 => ∃ Z m ds R, Ok X.K Z m H1 ∧ RDs X.K Z m H1 ds vs ∧ r ds m R ∧ ∀ d m' v' H', R d m' → Ext X.K Z m H1 m' H' → Ok X.K Z m' H' → RD X.K Z m' H' d v' → Q v' H' := by
 obtain ⟨Z, d, m, R, ok, rs, h, k⟩ := h; exact ⟨Z, d, m, _, ok, rs, h, fun xs m1 vs H1 q e1 ok1 r1 => ⟨Z, m1, xs, R, ok1, r1, q, fun d' m' v' H' h1 h2 h3 h4 => k d' m' v' H' h1 (e1.trans h2) h3 h4⟩⟩
theorem le_callB {x : Str} {id : String} {r : DC} (hc : CallD X (.builtin id) r) (hg : Gl X x) (hm : X.mg x = none) (hv : bootBuiltins x = some (.builtin id)) (ha : PA X (e :: es) (LA X.K ga)) (hn : x ≠ "__name__" := by decide) (hdb : (x == ("__debug__" : Str)) = false := by decide)
  (he : starEach (e :: es) X.env = (false, eval e X.env) :: starEach es X.env := by rfl) (hpl : (backTo pos (starEach es X.env)).any (·.1) = false := by rfl) : PE X (.Call (.Name x p) (e :: es) [] pos) (LE X.K (dCallB r ga)) :=
 PE.imp (pe_callB hc.cr hg hm hv ha hn hdb he hpl) fun s H Q h => h.call
theorem le_callTy {x : Str} {T : String} {r : DC} (hc : CallD X (.type T) r) (hg : Gl X x) (hm : X.mg x = none) (hv : bootBuiltins x = some (.type T)) (ha : PA X (e :: es) (LA X.K ga)) (hn : x ≠ "__name__" := by decide) (hdb : (x == ("__debug__" : Str)) = false := by decide)
  (he : starEach (e :: es) X.env = (false, eval e X.env) :: starEach es X.env := by rfl) (hpl : (backTo pos (starEach es X.env)).any (·.1) = false := by rfl) : PE X (.Call (.Name x p) (e :: es) [] pos) (LE X.K (dCallB r ga)) :=
 PE.imp (pe_callTy hc.cr hg hm hv ha hn hdb he hpl) fun s H Q h => h.call
theorem RDs.one {K : PySem.W.Frag} {Z : Addr → Prop} {m : Mu} {H : Hp} {x : D} {vs : List V} (h : RDs K Z m H [x] vs) : ∃ v, vs = [v] ∧ RD K Z m H x v := by
 obtain ⟨v, r, h1, h2, h3⟩ := h
 cases (show r = [] from h3)
 exact ⟨v, h1, h2⟩
theorem RDs.two {K : PySem.W.Frag} {Z : Addr → Prop} {m : Mu} {H : Hp} {x y : D} {vs : List V} (h : RDs K Z m H [x, y] vs) : ∃ v w, vs = [v, w] ∧ RD K Z m H x v ∧ RD K Z m H y w := by
 obtain ⟨v, r, h1, h2, h3⟩ := h; obtain ⟨w, rfl, h4⟩ := RDs.one h3; exact ⟨v, w, h1, h2, h4⟩
@[simp] def bLen : DC
 | [.dat (.tuple xs)], m, Q => Q (.dat (.int xs.length)) m
 | [.dat (.list xs)], m, Q => Q (.dat (.int xs.length)) m
 | [.dat (.str z)], m, Q => z.length ≤ sizeLine ∧ Q (.dat (.int z.length)) m
 | [.cel a], m, Q => ∃ xs, m a = some (.l xs) ∧ Q (.dat (.int xs.length)) m
 | _, _, _ => False
theorem cd_len : CallD X (.builtin "len") bLen := by
 intro pins s σ H Z m xs ds us R Q I ok rv rd h k; unfold bLen at h
 split at h
 ·obtain ⟨v, rfl, r1⟩ := rd.one; simp only [RD, RP] at r1; obtain ⟨a, vs, rfl, h1, h2⟩ := r1; refine call_len_seq pins s σ H _ us Q I rv ⟨a, vs, rfl, .inr h1, ?_⟩; rw [h2.length]; exact k _ m _ H h Ext.refl ok .ofInt
 ·obtain ⟨v, rfl, r1⟩ := rd.one; simp only [RD, RP] at r1; obtain ⟨a, vs, rfl, _, h1, h2⟩ := r1; refine call_len_seq pins s σ H _ us Q I rv ⟨a, vs, rfl, .inl h1, ?_⟩; rw [h2.length]; exact k _ m _ H h Ext.refl ok .ofInt
 ·obtain ⟨v, rfl, r1⟩ := rd.one
  cases r1.str
  exact call_len_str pins s σ H _ us Q I rv ⟨_, rfl, h.1, k _ m _ H h.2 Ext.refl ok .ofInt⟩
 ·obtain ⟨v, rfl, r1⟩ := rd.one; obtain ⟨rfl, _⟩ := r1; obtain ⟨ys, hm, q⟩ := h; obtain ⟨vs, h1, h2⟩ := ok.l hm; refine call_len_seq pins s σ H _ us Q I rv ⟨_, vs, rfl, .inl (.inl (.inl h1)), ?_⟩; rw [h2.length]; exact k _ m _ H q Ext.refl ok .ofInt
 ·exact h.elim
@[simp] def bAbs : DC
 | [.dat (.int i)], m, Q => Q (.dat (.int (if i < 0 then -i else i))) m
 | _, _, _ => False
theorem cd_abs : CallD X (.builtin "abs") bAbs := by
 intro pins s σ H Z m xs ds us R Q I ok rv rd h k; unfold bAbs at h
 split at h
 ·obtain ⟨v, rfl, r1⟩ := rd.one
  cases r1.int
  exact call_abs pins s σ H _ us Q I rv ⟨_, rfl, k _ m _ H h Ext.refl ok .ofInt⟩
 ·exact h.elim
@[simp] def bInt : DC
 | [.dat (.int i)], m, Q => Q (.dat (.int i)) m
 | [.dat (.bool b)], m, Q => Q (.dat (.int (if b then 1 else 0))) m
 | _, _, _ => False
theorem cd_int : CallD X (.type "int") bInt := by
 intro pins s σ H Z m xs ds us R Q I ok rv rd h k; unfold bInt at h
 split at h
 ·obtain ⟨v, rfl, r1⟩ := rd.one
  cases r1.int
  exact call_int1 pins s σ H _ us Q I rv (.inl ⟨_, rfl, k _ m _ H h Ext.refl ok .ofInt⟩)
 ·obtain ⟨v, rfl, r1⟩ := rd.one
  cases r1.bl
  exact call_int1 pins s σ H _ us Q I rv (.inr ⟨_, rfl, k _ m _ H h Ext.refl ok .ofInt⟩)
 ·exact h.elim
@[simp] def bStr : DC
 | [.dat (.int i)], m, Q => i.natAbs.log2 < 1920 ∧ Q (.dat (.str (toString i))) m
 | _, _, _ => False
theorem cd_str : CallD X (.type "str") bStr := by
 intro pins s σ H Z m xs ds us R Q I ok rv rd h k; unfold bStr at h
 split at h
 ·obtain ⟨v, rfl, r1⟩ := rd.one
  cases r1.int
  exact call_str_int pins s σ H _ us Q I rv ⟨_, rfl, h.1, k _ m _ H h.2 Ext.refl ok .ofStr⟩
 ·exact h.elim
@[simp] def bList : DC
 | [.dat (.tuple xs)], m, Q => Q (.dat (.list xs)) m
 | [.dat (.list xs)], m, Q => Q (.dat (.list xs)) m
 | _, _, _ => False
theorem cd_list : CallD X (.type "list") bList := by
 intro pins s σ H Z m xs ds us R Q I ok rv rd h k; unfold bList at h
 split at h
 ·obtain ⟨v, rfl, r1⟩ := rd.one; simp only [RD, RP] at r1; obtain ⟨a, vs, rfl, h1, h2⟩ := r1; refine call_list_of pins s σ H _ us Q I rv ⟨a, vs, rfl, .inr h1, fun l hl => ?_⟩; have sm : Same H (upd H l (.lst vs)) := same_new hl
  refine k _ m _ _ h (ok.ext sm) (ok.grow sm) ?_; simp only [RD, RP]; exact ⟨l, vs, rfl, ok_none ok hl, .inl (.inl upd_same), RPs.ext (ok.ext sm) _ _ h2⟩
 ·obtain ⟨v, rfl, r1⟩ := rd.one; simp only [RD, RP] at r1; obtain ⟨a, vs, rfl, _, h1, h2⟩ := r1; refine call_list_of pins s σ H _ us Q I rv ⟨a, vs, rfl, .inl h1, fun l hl => ?_⟩; have sm : Same H (upd H l (.lst vs)) := same_new hl
  refine k _ m _ _ h (ok.ext sm) (ok.grow sm) ?_; simp only [RD, RP]; exact ⟨l, vs, rfl, ok_none ok hl, .inl (.inl upd_same), RPs.ext (ok.ext sm) _ _ h2⟩
 ·exact h.elim
@[simp] def bRepr : DC
 | [.dat p], m, Q => p.showable = true ∧ p.shown.length ≤ sizeLine ∧ p.depth ≤ 100 ∧ Q (.dat (.str p.shown)) m
 | _, _, _ => False
theorem cd_repr (hu : X.A.units + 200 < cLine) (hg : X.A.guards = some []) : CallD X (.builtin "repr") bRepr := by
 intro pins s σ H Z m xs ds us R Q I ok rv rd h k; unfold bRepr at h
 split at h
 ·rename_i p; obtain ⟨v, rfl, r1⟩ := rd.one; obtain ⟨u, rfl, ru⟩ := vals1 rv; obtain ⟨h1, h2, h3, h4⟩ := h; have fin : ∀ (tk tk' : Nat), EP X pins σ Q (.str p.shown tk) { s with toks := tk' } := fun tk tk' => ⟨.str p.shown, H, I.tok _, ⟨_, rfl⟩, k _ m _ H h4 Ext.refl ok .ofStr⟩
  have nd := RP.noDict X.K p v r1 h1
  obtain ⟨as, rd⟩ := RP.reads I p v u r1 ru
  cases rd with
  | none => exact PySem.P.repr_of_none (fin _ _)
  | bool b => exact PySem.P.repr_of_bool (by simpa only [PyData.shown] using fin _ _)
  | int i t => exact PySem.P.repr_of_int (by simpa [PyData.showable] using h1) (by simpa only [PyData.shown] using fin _ _)
  | str x t => exact PySem.P.repr_of_str (by simpa only [PyData.shown] using fin _ _) (by simpa only [PyData.shown] using h2)
  | list q1 q2 q3 q4 =>
   refine repr_of_reads' (.list q1 q2 q3 q4) h1 (PyData.noDict_hsm nd) hg (by omega) (fun _ _ e => e) (fun h' u tk kp => ⟨.str _, H, I.kept kp, ⟨_, rfl⟩, k _ m _ H h4 Ext.refl ok .ofStr⟩) h2
  | tuple q1 q2 q3 q4 =>
   refine repr_of_reads' (.tuple q1 q2 q3 q4) h1 (PyData.noDict_hsm nd) hg (by omega) (fun _ _ e => e) (fun h' u tk kp => ⟨.str _, H, I.kept kp, ⟨_, rfl⟩, k _ m _ H h4 Ext.refl ok .ofStr⟩) h2
  | dict q1 q2 q3 q4 q5 => simp only [PyData.hasDict] at nd; cases nd
 ·exact h.elim
end
end DL
namespace DL
open PySem PySem.Spec PyProof.Rows L2
section
variable {X : Cx} {st : Stmt} {rest body orelse : List Stmt} {t u b : DS} {e c tg iter : Expr} {f : DE} {tc : DT} {pos : Pos}
@[simp] def dNext : DS := fun E d m => E.nx d m
@[simp] def dSeq (t u : DS) : DS := fun E d m => t { E with nx := u E } d m
theorem lss_nil : PSs X [] (LS X.K dNext) := PSs.imp pss_nil fun E s H h => by
 obtain ⟨Z, d, m, R, ok, rs, h, k, _⟩ := h; exact k d m s H h Ext.refl ok rs
theorem lss_cons (h1 : PS X st (LS X.K t)) (h2 : PSs X rest (LS X.K u)) : PSs X (st :: rest) (LS X.K (dSeq t u)) := PSs.imp (pss_cons h1 h2) fun E s H h => by
 obtain ⟨Z, d, m, R, ok, rs, h, kn, kr, kb, kc⟩ := h; refine ⟨Z, d, m, _, ok, rs, h, fun d' m' s' H' q e1 ok1 rs1 => ⟨Z, d', m', R, ok1, rs1, q, ?_, ?_, ?_, ?_⟩, kr, kb, kc⟩
 ·exact fun d2 m2 s2 H2 q2 e2 ok2 rs2 => kn d2 m2 s2 H2 q2 (e1.trans e2) ok2 rs2
 ·exact fun x m2 v H2 q2 e2 ok2 r2 => kr x m2 v H2 q2 (e1.trans e2) ok2 r2
 ·exact fun d2 m2 s2 H2 q2 e2 ok2 rs2 => kb d2 m2 s2 H2 q2 (e1.trans e2) ok2 rs2
 ·exact fun d2 m2 s2 H2 q2 e2 ok2 rs2 => kc d2 m2 s2 H2 q2 (e1.trans e2) ok2 rs2
@[simp] def dExpr (f : DE) : DS := fun E d m => f d m fun _ m1 => E.nx d m1
theorem ls_expr (he : PE X e (LE X.K f)) (hs : swapsWith e none pos.line X.env = pure false := by rfl) : PS X (.Expr e pos) (LS X.K (dExpr f)) := PS.imp (ps_expr he hs) fun E s H h => by
 obtain ⟨Z, d, m, R, ok, rs, h, k, _⟩ := h; exact ⟨Z, d, m, _, ok, rs, h, fun x m1 v H1 q e1 ok1 r1 => k d m1 s H1 q e1 ok1 (rs.ext e1)⟩
@[simp] def dRet (f : DE) : DS := fun E d m => f d m E.rt
theorem ls_ret (he : PE X e (LE X.K f)) : PS X (.Return (some e) pos) (LS X.K (dRet f)) := PS.imp (ps_ret he) fun E s H h => by
 obtain ⟨Z, d, m, R, ok, rs, h, _, kr, _⟩ := h; exact ⟨Z, d, m, _, ok, rs, h, fun x m1 v H1 q e1 ok1 r1 => kr x m1 v H1 q e1 ok1 r1⟩
@[simp] def dIf (c : DT) (t u : DS) : DS := fun E d m => c d m fun k m1 => if k = true then t E d m1 else u E d m1
theorem ls_if (hc : PT X c (LT X.K tc)) (h1 : PSs X body (LS X.K t)) (h2 : PSs X orelse (LS X.K u)) : PS X (.If c body orelse pos) (LS X.K (dIf tc t u)) := PS.imp (ps_if hc h1 h2) fun E s H h => by
 obtain ⟨Z, d, m, R, ok, rs, h, kn, kr, kb, kc⟩ := h; refine ⟨Z, d, m, _, ok, rs, h, fun k m1 H1 q e1 ok1 => ?_⟩; have mk : ∀ {z : DS}, z R d m1 → LS X.K z E s H1 := fun q => ⟨Z, d, m1, R, ok1, rs.ext e1, q,
  fun d2 m2 s2 H2 q2 e2 ok2 rs2 => kn d2 m2 s2 H2 q2 (e1.trans e2) ok2 rs2, fun x m2 v H2 q2 e2 ok2 r2 => kr x m2 v H2 q2 (e1.trans e2) ok2 r2,
  fun d2 m2 s2 H2 q2 e2 ok2 rs2 => kb d2 m2 s2 H2 q2 (e1.trans e2) ok2 rs2, fun d2 m2 s2 H2 q2 e2 ok2 rs2 => kc d2 m2 s2 H2 q2 (e1.trans e2) ok2 rs2⟩
 cases k with
 | true => exact iteT (mk (by simpa using q))
 | false => exact iteF (mk (by simpa using q))
@[simp] def dSet (i : Nat) (f : DE) : DS := fun E d m => f d m fun x m1 => E.nx (d.set i (some x)) m1
theorem ls_set (i : Nat) {x : Str} {pos' : Pos} (hN : X.N.Nodup) (he : PE X e (LE X.K f)) (hi : X.N[i]? = some x := by rfl) (hx : Loc X.env.scope x := by first | exact Or.inl rfl | exact Or.inr rfl)
  (hs : swapsWith e (some (.Name x pos')) pos.line X.env = pure false := by rfl) (hf : X.fn x = true ∨ X.env.scope.names.lookup x = some .local := by first | exact .inl rfl | exact .inr rfl) :
  PS X (.Assign [.Name x pos'] e pos) (LS X.K (dSet i f)) := PS.imp (ps_set hN hi hx he hs hf) fun E s H h => by
 obtain ⟨Z, d, m, R, ok, rs, h, k, _⟩ := h; exact ⟨Z, d, m, _, ok, rs, h, fun x m1 v H1 q e1 ok1 r1 => k _ m1 _ H1 q e1 ok1 ((rs.ext e1).set r1)⟩
abbrev DG := D → St2 → Mu → (St2 → Mu → Prop) → Prop
abbrev DGs := List PyData → St2 → Mu → (St2 → Mu → Prop) → Prop
def LG (K : PySem.W.Frag) (g : DG) : TG := fun v s H Q => ∃ Z x d m R, Ok K Z m H ∧ RS K Z m H d s ∧ RD K Z m H x v ∧ g x d m R ∧ ∀ d' m' s' H', R d' m' → Ext K Z m H m' H' → Ok K Z m' H' → RS K Z m' H' d' s' → Q s' H'
def LGs (K : PySem.W.Frag) (g : DGs) : TGs := fun vs s H Q => ∃ Z ps d m R, Ok K Z m H ∧ RS K Z m H d s ∧ RPs K Z m H ps vs ∧ g ps d m R ∧ ∀ d' m' s' H', R d' m' → Ext K Z m H m' H' → Ok K Z m' H' → RS K Z m' H' d' s' → Q s' H'
theorem PG.imp {t t' : TG} (h : PG X e t) (q : ∀ v s H Q, t' v s H Q → t v s H Q) : PG X e t' := fun pins s d H v u Q I r w => h pins s d H v u Q I r (q _ _ _ _ w)
theorem PGs.imp {es : List Expr} {t t' : TGs} (h : PGs X es t) (q : ∀ v s H Q, t' v s H Q → t v s H Q) : PGs X es t' := fun pins s d H v u Q I r w => h pins s d H v u Q I r (q _ _ _ _ w)
@[simp] def gN (i : Nat) : DG := fun x d m Q => Q (d.set i (some x)) m
theorem lg_name (i : Nat) {x : Str} (hN : X.N.Nodup) (hi : X.N[i]? = some x := by rfl) (hx : Loc X.env.scope x := by first | exact Or.inl rfl | exact Or.inr rfl)
  (hf : X.fn x = true ∨ X.env.scope.names.lookup x = some .local := by first | exact .inl rfl | exact .inr rfl) : PG X (.Name x pos) (LG X.K (gN i)) := PG.imp (pg_name hN hi hx hf) fun v s H Q h => by
 obtain ⟨Z, x, d, m, R, ok, rs, rd, h, k⟩ := h; exact k _ m _ H h Ext.refl ok (rs.set rd)
@[simp] def gN0 : DGs := fun ps d m Q => ps = [] ∧ Q d m
@[simp] def gNs (g : DG) (r : DGs) : DGs
 | p :: qs, d, m, Q => g (.dat p) d m fun d' m' => r qs d' m' Q
 | [], _, _, _ => False
theorem lgs_nil : PGs X [] (LGs X.K gN0) := PGs.imp pgs_nil fun vs s H Q h => by
 obtain ⟨Z, ps, d, m, R, ok, rs, rp, ⟨rfl, h⟩, k⟩ := h; simp only [RPs] at rp; exact ⟨rp, k d m s H h Ext.refl ok rs⟩
theorem lgs_cons {es : List Expr} {g : DG} {r : DGs} (h1 : PG X e (LG X.K g)) (h2 : PGs X es (LGs X.K r)) (hs : (assignEach (e :: es) X.env).map (·.2) = assign e X.env :: (assignEach es X.env).map (·.2) := by rfl) :
  PGs X (e :: es) (LGs X.K (gNs g r)) := PGs.imp (pgs_cons h1 h2 hs) fun vs s H Q h => by
 obtain ⟨Z, ps, d, m, R, ok, rs, rp, h, k⟩ := h
 match ps, rp, h with
 | [], _, h => exact h.elim
 | p :: qs, rp, h =>
 simp only [RPs] at rp; obtain ⟨v, w, rfl, r1, r2⟩ := rp; exact ⟨v, w, rfl, Z, .dat p, d, m, _, ok, rs, r1, h, fun d' m' s' H' q e1 ok1 rs1 => ⟨Z, qs, d', m', R, ok1, rs1, RPs.ext e1 _ _ r2, q, fun d2 m2 s2 H2 q2 e2 ok2 rs2 => k d2 m2 s2 H2 q2 (e1.trans e2) ok2 rs2⟩⟩
@[simp] def gT (n : Nat) (g : DGs) : DG := fun x d m Q => ∃ ps, x = .dat (.tuple ps) ∧ ps.length = n ∧ g ps d m Q
theorem lg_tup {es : List Expr} {j n : Nat} {g : DGs} (hc : X.calm = true) (h : PGs X es (LGs X.K g)) (hn : (assignEach es X.env).length = n := by rfl) (hst : (assignEach es X.env).findIdx? (·.1) = none := by rfl) :
  PG X (.Tuple es j pos) (LG X.K (gT n g)) := PG.imp (pg_tup hc h hn hst) fun v s H Q h => by
 obtain ⟨Z, x, d, m, R, ok, rs, rd, ⟨ps, rfl, hl, h⟩, k⟩ := h; simp only [RD, RP] at rd; obtain ⟨a, vs, rfl, h1, h2⟩ := rd; exact ⟨a, vs, rfl, h1, by rw [h2.length]; exact hl, Z, ps, d, m, R, ok, rs, h2, h, k⟩
@[simp] def dAsg (f : DE) (g : DG) : DS := fun E d m => f d m fun x m1 => g x d m1 E.nx
theorem ls_asg {g : DG} (he : PE X e (LE X.K f)) (hg : PG X tg (LG X.K g)) (hs : swapsWithSole [tg] e pos.line X.env = pure false := by rfl) (hw : swappedStores [tg] e X.env = pure none := by rfl)
  (h1 : (assignEach [tg] X.env).map (·.2) = [assign tg X.env] := by rfl) : PS X (.Assign [tg] e pos) (LS X.K (dAsg f g)) := PS.imp (ps_asg he hg hs hw h1) fun E s H h => by
 obtain ⟨Z, d, m, R, ok, rs, h, k, _⟩ := h; exact ⟨Z, d, m, _, ok, rs, h, fun x m1 v H1 q e1 ok1 r1 => ⟨Z, x, d, m1, _, ok1, rs.ext e1, r1, q, fun d2 m2 s2 H2 q2 e2 ok2 rs2 => k d2 m2 s2 H2 q2 (e1.trans e2) ok2 rs2⟩⟩
@[simp] def dPar (i j : Nat) (g : DA) : DS := fun E d m => g d m fun xs m1 => ∃ x y, xs = [x, y] ∧ E.nx ((d.set i (some x)).set j (some y)) m1
theorem ls_par (i j : Nat) {x y : Str} {a b : Expr} {g : DA} {px py pt : Pos} {kt k2 pt2} (hc : X.calm = true) (hN : X.N.Nodup) (ha : PA X [a, b] (LA X.K g)) (hi : X.N[i]? = some x := by rfl) (hj : X.N[j]? = some y := by rfl) (hij : i ≠ j := by decide)
  (hx : X.env.scope.names.lookup x = some .local := by rfl) (hy : X.env.scope.names.lookup y = some .local := by rfl)
  (hw : swappedStores [.Tuple [.Name x px, .Name y py] kt pt] (.Tuple [a, b] k2 pt2) X.env = pure (some [x, y]) := by rfl)
  (hs : swapsWithSole [.Tuple [.Name x px, .Name y py] kt pt] (.Tuple [a, b] k2 pt2) pos.line X.env = pure false := by rfl) :
  PS X (.Assign [.Tuple [.Name x px, .Name y py] kt pt] (.Tuple [a, b] k2 pt2) pos) (LS X.K (dPar i j g)) := PS.imp (ps_par hc hN hi hj hij hx hy ha hw hs) fun E s H h => by
 obtain ⟨Z, d, m, R, ok, rs, h, k, _⟩ := h; refine ⟨Z, d, m, _, ok, rs, h, fun xs m1 vs H1 ⟨x, y, e, q⟩ e1 ok1 r1 => ?_⟩; subst e; obtain ⟨v, w, rfl, r1, r2⟩ := r1.two; exact ⟨v, w, rfl, k _ m1 _ H1 q e1 ok1 (((rs.ext e1).set r1).set r2)⟩
@[simp] def dPut (fo fi f : DE) : DS := fun E d m => f d m fun x m1 => fo d m1 fun o m2 => fi d m2 fun i m3 =>
 ∃ a k xs j p, o = .cel a ∧ i = .dat (.int k) ∧ x = .dat p ∧ m3 a = some (.l xs) ∧ ixN xs.length k = some j ∧ E.nx d (updM m3 a (.l (xs.set j p)))
theorem ls_put {o i : Expr} {fo fi : DE} {tpos : Pos} (he : PE X e (LE X.K f)) (ho : PE X o (LE X.K fo)) (hi : PE X i (LE X.K fi))
  (ha : ∀ v, assign (.Subscript o i tpos) X.env v = (do
   let ov ← holding [v] (eval o X.env)
   let iv ← holding [v, ov] (eval i X.env)
   standAt tpos
   holding [v, ov, iv] (setItem ov iv v)
   release [v, ov, iv] []) := by intro _; rfl)
  (hs : swapsWithSole [.Subscript o i tpos] e pos.line X.env = pure false := by rfl) (hw : swappedStores [.Subscript o i tpos] e X.env = pure none := by rfl)
  (h1 : (assignEach [.Subscript o i tpos] X.env).map (·.2) = [assign (.Subscript o i tpos) X.env] := by rfl) : PS X (.Assign [.Subscript o i tpos] e pos) (LS X.K (dPut fo fi f)) :=
 PS.imp (ps_asg he (pg_sub ho hi set_list ha) hs hw h1) fun E s H h => by
 obtain ⟨Z, d, m, R, ok, rs, h, k, _⟩ := h; refine ⟨Z, d, m, _, ok, rs, h, fun x m1 v H1 q e1 ok1 r1 => ⟨Z, d, m1, _, ok1, rs.ext e1, q, fun o m2 w H2 q2 e2 ok2 r2 => ⟨Z, d, m2, _, ok2, (rs.ext e1).ext e2, q2, fun i m3 z H3 q3 e3 ok3 r3 => ?_⟩⟩⟩; obtain ⟨a, k', xs, j, p, rfl, rfl, rfl, hm, hj, q⟩ := q3
 cases r3.int
 obtain ⟨rfl, _⟩ := r2.ext e3; obtain ⟨vs, g1, g2⟩ := ok3.l hm; have r1' := r1.ext (e2.trans e3)
 refine ⟨a, vs, k', j, rfl, rfl, g1, by rw [g2.length]; exact hj, ?_⟩
 have e4 : Ext X.K Z m3 H3 (updM m3 a (.l (xs.set j p))) (upd H3 a (.lst (vs.set j v))) := Ext.put ok3 hm g1
 exact k d _ s _ q (e1.trans (e2.trans (e3.trans e4))) (ok3.put hm g1 (g2.set r1')) ((rs.ext e1).ext (e2.trans (e3.trans e4)))
def dWhile (c : DT) (b : DS) : DS := fun E d m => ∃ W : Nat → St2 → Mu → Prop, (∃ n, W n d m) ∧ ∀ n d m, W n d m →
 c d m fun k m1 => if k = true then ∃ N : St2 → Mu → Prop, (∀ d' m', N d' m' → ∃ n', n' < n ∧ W n' d' m') ∧ b { E with nx := N, ct := N, bk := E.nx } d m1 else E.nx d m1
theorem ls_while (hp : PassesOwn (model X.prog X.w) X.A X.env X.xe) (hc : PT X c (LT X.K tc)) (hb : PSs X body (LS X.K b)) : PS X (.While c body [] pos) (LS X.K (dWhile tc b)) := PS.imp (ps_while hp hc hb) fun E s H h => by
 obtain ⟨Z, d, m, R, ok, rs, ⟨W, ⟨n0, w0⟩, turn⟩, kn, kr, kb, kc⟩ := h; refine ⟨fun n s' H' => ∃ d' m', Ext X.K Z m H m' H' ∧ Ok X.K Z m' H' ∧ RS X.K Z m' H' d' s' ∧ W n d' m', ⟨n0, d, m, Ext.refl, ok, rs, w0⟩, ?_⟩; rintro n s1 H1 ⟨d1, m1, e1, ok1, rs1, w1⟩; refine ⟨Z, d1, m1, _, ok1, rs1, turn n d1 m1 w1, fun k m2 H2 q e2 ok2 => ?_⟩
 cases k with
 | false =>
  rw [if_neg Bool.false_ne_true] at q ⊢; exact kn d1 m2 s1 H2 q (e1.trans e2) ok2 (rs1.ext e2)
 | true =>
  rw [if_pos rfl] at q ⊢; obtain ⟨N, hN, q⟩ := q; refine ⟨fun s' H' => ∃ d' m', Ext X.K Z m H m' H' ∧ Ok X.K Z m' H' ∧ RS X.K Z m' H' d' s' ∧ N d' m', fun s' H' ⟨d', m', g1, g2, g3, g4⟩ => ?_, ?_⟩
  ·obtain ⟨n', hn, w⟩ := hN d' m' g4; exact ⟨n', hn, d', m', g1, g2, g3, w⟩
  ·have e12 := e1.trans e2
   exact ⟨Z, d1, m2, _, ok2, rs1.ext e2, q, fun d3 m3 s3 H3 q3 e3 ok3 rs3 => ⟨d3, m3, e12.trans e3, ok3, rs3, q3⟩, fun x m3 v H3 q3 e3 ok3 r3 => kr x m3 v H3 q3 (e12.trans e3) ok3 r3,
    fun d3 m3 s3 H3 q3 e3 ok3 rs3 => kn d3 m3 s3 H3 q3 (e12.trans e3) ok3 rs3, fun d3 m3 s3 H3 q3 e3 ok3 rs3 => ⟨d3, m3, e12.trans e3, ok3, rs3, q3⟩⟩
abbrev DI := St2 → Mu → (List D → Mu → Prop) → Prop
def Yld (K : PySem.W.Frag) (Z : Addr → Prop) (m : Mu) (H : Hp) (x : D) (v : V) (H2 H3 : Hp) : Prop :=
 (H3 = H2 ∧ RD K Z m H x v) ∨ ∃ p ps vs, x = .dat (.tuple ps) ∧ v = .ref p ∧ H2 p = none ∧ H3 = upd H2 p (.tup vs) ∧ RPs K Z m H ps vs
theorem Yld.same {K : PySem.W.Frag} {Z : Addr → Prop} {m : Mu} {H H2 H3 : Hp} {x : D} {v : V} (h : Yld K Z m H x v H2 H3) : Same H2 H3 := by
 rcases h with ⟨rfl, _⟩ | ⟨p, ps, vs, _, _, hp, rfl, _⟩
 ·exact fun _ _ q => q
 ·exact same_new hp
theorem Yld.rd {K : PySem.W.Frag} {Z Z' : Addr → Prop} {m m' : Mu} {H H2 H3 : Hp} {x : D} {v : V} (tr : ∀ d v, RD K Z m H d v → RD K Z' m' H2 d v) (ok : Ok K Z' m' H2) (h : Yld K Z m H x v H2 H3) : RD K Z' m' H3 x v := by
 rcases h with ⟨rfl, h⟩ | ⟨p, ps, vs, rfl, rfl, hp, rfl, h⟩
 ·exact tr _ _ h
 ·have h2 := RPs.lift (fun p v q => tr (.dat p) v q) h
  simp only [RD, RP]; exact ⟨p, vs, rfl, .inl (.inl upd_same), RPs.ext (ok.ext (same_new hp)) _ _ h2⟩
structure ExtY (K : PySem.W.Frag) (Z : Addr → Prop) (m : Mu) (H : Hp) (m' : Mu) (H' : Hp) : Prop where
 t : ∀ a vs, SqT K H a vs → SqT K H' a vs
 l : ∀ a vs, (m a = none ∧ ¬ Z a) → SqL K H a vs → m' a = none ∧ SqL K H' a vs
 fz : ∀ a o u, H a = some (.frz o u) → H' a = some (.frz o u)
theorem Ext.y {K : PySem.W.Frag} {Z : Addr → Prop} {m m' : Mu} {H H' : Hp} (e : Ext K Z m H m' H') : ExtY K Z m H m' H' := ⟨e.t, e.l, e.fz⟩
def Yields (K : PySem.W.Frag) (Z : Addr → Prop) (m : Mu) (H : Hp) (xs : List D) (J : It) : Prop := ∀ m2 H2, ExtY K Z m H m2 H2 →
 (∀ (i : Nat) (x : D), xs[i]? = some x → J.go i H2 ∧ ∀ v H3, J.yld i H2 v H3 → Yld K Z m H x v H2 H3) ∧ J.stop xs.length H2
def LI (K : PySem.W.Frag) (fi : DI) : TI := fun s H R => ∃ (Z : Addr → Prop) (d : St2) (m : Mu) (ZZ : List D → Mu → Prop), Ok K Z m H ∧ RS K Z m H d s ∧ fi d m ZZ ∧
 ∀ xs m' H' J, ZZ xs m' → Ext K Z m H m' H' → Ok K Z m' H' → Yields K Z m' H' xs J → R J H'
@[simp] def dSeqI (f : DE) : DI := fun d m Q => f d m fun x m1 => (∃ ps, x = .dat (.list ps) ∧ Q (ps.map .dat) m1) ∨ (∃ ps, x = .dat (.tuple ps) ∧ Q (ps.map .dat) m1)
theorem PI.imp {t t' : TI} (h : PI X tg e t) (q : ∀ s H R, t' s H R → t s H R) : PI X tg e t' := fun pins s d H R I w => h pins s d H R I (q _ _ _ w)
theorem get_map {ps : List PyData} {i : Nat} {x : D} (h : (ps.map D.dat)[i]? = some x) : ∃ p, ps[i]? = some p ∧ x = .dat p := by
 rw [List.getElem?_map] at h
 cases e : ps[i]? with
 | none => rw [e] at h; cases h
 | some p => rw [e] at h; cases h; exact ⟨p, rfl, rfl⟩
theorem yields_list {K : PySem.W.Frag} {Z : Addr → Prop} {m : Mu} {H : Hp} {a : Addr} {vs : List V} {ps : List PyData} (h0 : m a = none ∧ ¬ Z a) (h1 : SqL K H a vs) (h2 : RPs K Z m H ps vs) : Yields K Z m H (ps.map .dat) (Itl K a) := by
 intro m2 H2 e; obtain ⟨q0, q1⟩ := e.l a vs h0 h1; have q2 := h2
 refine ⟨fun i x hx => ?_, ⟨vs, q1, by rw [q2.length, List.length_map]; exact Nat.le_refl _⟩⟩
 obtain ⟨p, hp, rfl⟩ := get_map hx; obtain ⟨v, hv, rv⟩ := h2.get hp; refine ⟨⟨vs, v, q1, hv⟩, fun v' H3 y => .inl ⟨y.1, ?_⟩⟩; have := y.2 vs q1
 rw [hv] at this
 cases this
 exact rv
theorem yields_tup {K : PySem.W.Frag} {Z : Addr → Prop} {m : Mu} {H : Hp} {a : Addr} {vs : List V} {ps : List PyData} (h1 : SqT K H a vs) (h2 : RPs K Z m H ps vs) : Yields K Z m H (ps.map .dat) (Itt K a) := by
 intro m2 H2 e; have q1 := e.t a vs h1
 have q2 := h2
 refine ⟨fun i x hx => ?_, ⟨vs, q1, by rw [q2.length, List.length_map]; exact Nat.le_refl _⟩⟩
 obtain ⟨p, hp, rfl⟩ := get_map hx; obtain ⟨v, hv, rv⟩ := h2.get hp; refine ⟨⟨vs, v, q1, hv⟩, fun v' H3 y => .inl ⟨y.1, ?_⟩⟩; have := y.2 vs q1
 rw [hv] at this
 cases this
 exact rv
theorem pi_seq {l : Expr} {tl : TE} (hl : PE X l tl) : PI X tg l (fun s H R => tl s H fun x H1 => (∃ a, x = .ref a ∧ (∃ xs, SqL X.K H1 a xs) ∧ R (Itl X.K a) H1) ∨ (∃ a, x = .ref a ∧ (∃ xs, SqT X.K H1 a xs) ∧ R (Itt X.K a) H1)) := by
 intro pins s σ H R I h; refine thn (hl pins s σ H _ I h) fun v s1 ⟨x, H1, I1, r1, q1⟩ => ?_; rcases q1 with ⟨a, e, ⟨xs, hq⟩, q⟩ | ⟨a, e, ⟨xs, hq⟩, q⟩
 ·subst e
  cases r1
  obtain ⟨its, rv, p, hz⟩ := I1.list hq; refine wpAny_pyIter_list p.isList ?_; refine ⟨s1.heap.objs.size, [s1.heap.objs.size], _, _, H1, rfl, I1.kept (t' := s1.toks) fun b o e => Heap.get?_push_of_some _ e, turn_list a _, ⟨_, Heap.get?_push_size _ rfl, rfl, rfl⟩, fun b hb => ?_, q⟩; have e : b = s1.heap.objs.size := by simpa using hb
  subst e; exact I1.fpOk (Nat.le_refl _) (I1.hok.fresh (Nat.le_refl _))
 ·subst e
  cases r1
  obtain ⟨its, rv, p, hz⟩ := I1.tuple hq; refine wpAny_pyIter_tuple (show s1.heap.IsTuple a its.toArray from p) ?_
  refine ⟨s1.heap.objs.size, [s1.heap.objs.size], _, _, H1, rfl, I1.kept (t' := s1.toks) fun b o e => Heap.get?_push_of_some _ e, turn_tuple a _, ⟨_, Heap.get?_push_size _ rfl, rfl, rfl⟩, fun b hb => ?_, q⟩; have e : b = s1.heap.objs.size := by simpa using hb
  subst e; exact I1.fpOk (Nat.le_refl _) (I1.hok.fresh (Nat.le_refl _))
theorem li_seq (ha : PE X e (LE X.K f)) : PI X tg e (LI X.K (dSeqI f)) := PI.imp (pi_seq ha) fun s H R h => by
 obtain ⟨Z, d, m, ZZ, ok, rs, h, k⟩ := h; refine ⟨Z, d, m, _, ok, rs, h, fun x m1 v H1 q e1 ok1 rd => ?_⟩; rcases q with ⟨ps, rfl, q⟩ | ⟨ps, rfl, q⟩
 ·simp only [RD, RP] at rd; obtain ⟨a, vs, rfl, h0, h1, h2⟩ := rd; exact .inl ⟨a, rfl, ⟨vs, h1⟩, k _ m1 H1 _ q e1 ok1 (yields_list h0 h1 h2)⟩
 ·simp only [RD, RP] at rd; obtain ⟨a, vs, rfl, h1, h2⟩ := rd; exact .inr ⟨a, rfl, ⟨vs, h1⟩, k _ m1 H1 _ q e1 ok1 (yields_tup h1 h2)⟩
def intsD (lo : Int) (n : Nat) : List D := (List.range n).map fun i => .dat (.int (lo + (i : Nat)))
@[simp] def dRngI (f : DE) : DI := fun d m Q => f d m fun x m1 => ∃ j : Int, x = .dat (.int j) ∧ -(2 ^ 62) ≤ j ∧ j < 2 ^ 62 ∧ Q (intsD 0 j.toNat) m1
theorem li_range {p : Pos} (hg : Gl X "range") (hm : X.mg "range" = none) (ha : PE X e (LE X.K f)) (hs : starEach [e] X.env = [(false, eval e X.env)] := by rfl) : PI X tg (.Call (.Name "range" p) [e] [] pos) (LI X.K (dRngI f)) :=
 PI.imp (pi_range1 hg hm (pa_cons ha pa_nil (by rw [hs]; rfl)) hs) fun s H R h => by
  obtain ⟨Z, d, m, ZZ, ok, rs, h, k⟩ := h; refine ⟨Z, d, m, _, ok, rs, h, fun x m1 v H1 ⟨j, e, h1, h2, q⟩ e1 ok1 rd => ?_⟩; subst e
  cases rd.int
  show ∃ j' : Int, [V.int j] = [V.int j'] ∧ _
  refine ⟨j, rfl, h1, h2, k _ m1 H1 _ q e1 ok1 fun m2 H2 e2 => ⟨fun i x hx => ?_, ?_⟩⟩
  ·unfold intsD at hx; rw [List.getElem?_map] at hx
   cases ei : (List.range j.toNat)[i]? with
   | none => rw [ei] at hx; cases hx
   | some i' =>
    rw [ei] at hx
    cases hx
    have hl := (List.getElem?_eq_some_iff.mp ei).1
    have hi : i' = i := by
     obtain ⟨_, z⟩ := List.getElem?_eq_some_iff.mp ei; rw [List.getElem_range] at z; exact z.symm
    subst hi; rw [List.length_range] at hl; refine ⟨hl, fun v' H3 y => .inl ⟨y.1, ?_⟩⟩; rw [y.2]; exact .ofInt
  ·show j.toNat ≤ (intsD 0 j.toNat).length
   unfold intsD; rw [List.length_map, List.length_range]; exact Nat.le_refl _
def loopL (g : DG) (b : DS) (E : Ends2) : List D → St2 → Mu → Prop
 | [], d, m => E.nx d m
 | x :: xs, d, m => g x d m fun d' m' => b { E with nx := loopL g b E xs, ct := loopL g b E xs, bk := E.nx } d' m'
@[simp] def dFor (fi : DI) (g : DG) (b : DS) : DS := fun E d m => fi d m fun xs m1 => loopL g b E xs d m1
theorem ls_for {fi : DI} {g : DG} (hp : PassesOwn (model X.prog X.w) X.A X.env X.xe) (hc : X.calm = true) (hi : PI X tg iter (LI X.K fi)) (hg : PG X tg (LG X.K g)) (hb : PSs X body (LS X.K b))
  (hs : ∀ x, foldedSetIterable iter X.env x = pure x := by intro _; rfl) : PS X (.For tg iter body [] pos) (LS X.K (dFor fi g b)) := PS.imp (ps_for hp hc hi hg hb hs) fun E s H h => by
 obtain ⟨Z, d, m, R, ok, rs, h, kn, kr, kb, kc⟩ := h; refine ⟨Z, d, m, _, ok, rs, h, fun xs m1 H1 J q e1 ok1 yl => ?_⟩; refine ⟨fun i n s' H' => ∃ d' m', n = xs.length - i ∧ i ≤ xs.length ∧ Ext X.K Z m1 H1 m' H' ∧ Ok X.K Z m' H' ∧ RS X.K Z m' H' d' s' ∧ loopL g b R (xs.drop i) d' m', ⟨xs.length, d, m1, by simp, Nat.zero_le _, Ext.refl, ok1, rs.ext e1, by simpa using q⟩, ?_⟩
 rintro i n s2 H2 ⟨d2, m2, rfl, hi, e2, ok2, rs2, w⟩; obtain ⟨y1, y2⟩ := yl m2 H2 e2.y
 by_cases hl : i < xs.length
 ·rw [List.drop_eq_getElem_cons hl] at w; obtain ⟨go, yd⟩ := y1 i xs[i] (List.getElem?_eq_getElem hl); refine .inr ⟨go, fun s' H' => ∃ d' m', Ext X.K Z m1 H1 m' H' ∧ Ok X.K Z m' H' ∧ RS X.K Z m' H' d' s' ∧ loopL g b R (xs.drop (i + 1)) d' m', fun s' H' ⟨d', m', g1, g2, g3, g4⟩ => ⟨xs.length - (i + 1), by omega, d', m', rfl, hl, g1, g2, g3, g4⟩, fun v H3 y => ?_⟩
  have yy := yd v H3 y
  have e2' := e2.trans (ok2.ext yy.same)
  refine ⟨Z, xs[i], d2, m2, _, ok2.grow yy.same, rs2.ext (ok2.ext yy.same), yy.rd (fun d v h => h.ext e2) ok2, w, fun d3 m3 s3 H3 q3 e3 ok3 rs3 => ?_⟩; have e23 := e2'.trans e3
  have e13 := e1.trans e23
  exact ⟨Z, d3, m3, _, ok3, rs3, q3, fun d4 m4 s4 H4 q4 e4 ok4 rs4 => ⟨d4, m4, e23.trans e4, ok4, rs4, q4⟩, fun x m4 v H4 q4 e4 ok4 r4 => kr x m4 v H4 q4 (e13.trans e4) ok4 r4,
   fun d4 m4 s4 H4 q4 e4 ok4 rs4 => kn d4 m4 s4 H4 q4 (e13.trans e4) ok4 rs4, fun d4 m4 s4 H4 q4 e4 ok4 rs4 => ⟨d4, m4, e23.trans e4, ok4, rs4, q4⟩⟩
 ·have e : i = xs.length := by omega
  subst e; rw [List.drop_length] at w; exact .inl ⟨y2, kn d2 m2 s2 H2 w (e1.trans e2) ok2 rs2⟩
end
end DL
namespace DL
open PySem PySem.Spec PyProof.Rows L2
section
variable {X : Cx} {a e : Expr} {es : List Expr} {f : DE} {ga : DA} {pos p p1 p2 p3 p4 : Pos}
@[simp] def tyName : PyData → String
 | .none => "NoneType"
 | .bool _ => "bool"
 | .int _ => "int"
 | .str _ => "str"
 | .list _ => "list"
 | .tuple _ => "tuple"
 | .dict _ => "dict"
@[simp] def isK (q : PyData) (c : String) : Bool := tyName q == c || (tyName q == "bool" && c == "int")
theorem kit_data (K : PySem.W.Frag) (q : PyData) (c : String) (hc : c = "int" ∨ c = "bool" ∨ c = "str" ∨ c = "tuple" ∨ c = "list") : PySem.W.kitOne K (.type (tyName q)) (.type c) = some (isK q c) := by
 rcases hc with rfl | rfl | rfl | rfl | rfl <;> cases q <;> rfl
theorem ents_obj {pins : List (Addr × Obj)} {σ : L2.St} {H : Hp} {s : Shared} {a : Addr} {o : Obj} {u : HO} {vs : List (PyData × V)} (I : Inv X pins σ H s) (h : H a = some (.frz o u)) (e : Ents X.K u vs) : s.heap.get? a = some o ∧ o.cls = .type "dict" := by
 obtain ⟨g1, g2⟩ := (show ObjOk X.prog X.w H s.heap a (.frz o u) from I.hok a _ h)
 refine ⟨g1, ?_⟩
 cases u with
 | dK ws =>
  obtain ⟨_, _, xs, _, o', es, ep, q1, q2, _⟩ := g2; rw [g1] at q1; cases q1; exact q2.1
 | dT ws =>
  obtain ⟨_, _, xs, _, o', es, ep, q1, q2, _⟩ := g2; rw [g1] at q1; cases q1; exact q2.1
 | dN K' ws =>
  obtain ⟨_, _, xs, _, o', es, ep, q1, q2, _⟩ := g2; rw [g1] at q1; cases q1; exact q2.1
 | _ => exact e.elim
theorem isi_data {pins : List (Addr × Obj)} {σ : L2.St} {H : Hp} {s : Shared} {Z : Addr → Prop} {m : Mu} {A : Around} {E : Value → Shared → Prop} {Q : Value → Shared → Prop} {q : PyData} {v : V} {u c : Value} {b : Bool} (I : Inv X pins σ H s) (rp : RP X.K Z m H q v) (rv : RelV v u)
  (e : PySem.W.kitOne X.K (.type (tyName q)) c = some b) (h : ∀ tk, Q (.bool b) { s with toks := tk }) : wpAny (model X.prog X.w) A (call (.builtin "isinstance") [u, c]) Q E s := by
 cases q with
 | none => simp only [RP] at rp; subst rp; cases rv; exact PySem.W.kia_one PySem.W.kitx_none I.kIn True.intro e (fun z => nomatch z) h
 | bool y => simp only [RP] at rp; subst rp; cases rv; exact PySem.W.kia_one PySem.W.kitx_bool I.kIn True.intro e (fun z => nomatch z) h
 | int i => simp only [RP] at rp; subst rp; obtain ⟨t, rfl⟩ := rv; exact PySem.W.kia_one PySem.W.kitx_int I.kIn True.intro e (fun z => nomatch z) h
 | str y => simp only [RP] at rp; subst rp; obtain ⟨t, rfl⟩ := rv; exact PySem.W.kia_one PySem.W.kitx_str I.kIn True.intro e (fun z => nomatch z) h
 | tuple xs =>
  simp only [RP] at rp; obtain ⟨a', vs, rfl, h1, _⟩ := rp
  cases rv
  obtain ⟨its, _, ⟨o, g1, g2, _⟩, _⟩ := I.tuple h1; exact PySem.W.kia_one PySem.W.kitx_tuple I.kIn ⟨o, g1, g2⟩ e (fun z => nomatch z) h
 | list xs =>
  simp only [RP] at rp; obtain ⟨a', vs, rfl, _, h1, _⟩ := rp
  cases rv
  obtain ⟨its, _, ⟨o, n, g1, g2, _⟩, _⟩ := I.list h1; exact PySem.W.kia_one PySem.W.kitx_list I.kIn ⟨o, g1, g2⟩ e (fun z => nomatch z) h
 | dict kv =>
  simp only [RP] at rp; obtain ⟨a', ob, u', vs, rfl, h1, h2, _⟩ := rp
  cases rv
  obtain ⟨g1, g2⟩ := ents_obj I h1 h2; exact PySem.W.kia_one PySem.W.kitx_dict I.kIn ⟨ob, g1, g2⟩ e (fun z => nomatch z) h
theorem boot_isi : bootBuiltins "isinstance" = some (.builtin "isinstance") := by decide +kernel
@[simp] def dIsi (f : DE) (c : String) : DE := fun d m Q => f d m fun x m1 => ∃ q, x = .dat q ∧ Q (.dat (.bool (isK q c))) m1
theorem le_isi {T : Str} {c : String} (hg : Gl X "isinstance") (hm : X.mg "isinstance" = none) (hgT : Gl X T) (hmT : X.mg T = none) (hv : bootBuiltins T = some (.type c)) (hc : c = "int" ∨ c = "bool" ∨ c = "str" ∨ c = "tuple" ∨ c = "list")
  (ha : PE X a (LE X.K f)) (hn : T ≠ "__name__" := by decide) (hd : (T == ("__debug__" : Str)) = false := by decide)
  (he : starEach [a, .Name T p2] X.env = (false, eval a X.env) :: starEach [.Name T p2] X.env := by rfl) :
  PE X (.Call (.Name "isinstance" p1) [a, .Name T p2] [] pos) (LE X.K (dIsi f c)) := by
 have cr : CallR X (.builtin "isinstance") (fun vs H Q => ∃ Z m q v, RP X.K Z m H q v ∧ vs = [v, .ty c] ∧ Q (.bl (isK q c)) H) := by
  intro pins s σ H xs us Q I rv ⟨Z, m, q, v, rp, e, h⟩; subst e; obtain ⟨u, w, rfl, r1, r2⟩ := vals2 rv
  cases r2
  exact isi_data I rp r1 (kit_data X.K q c hc) fun tk => ⟨.bl _, H, I.tok _, rfl, h⟩
 refine PE.imp (pe_callB cr hg hm boot_isi (pa_cons ha (pa_cons (pe_bltn (v := .ty c) hgT hmT hv rfl hn hd) pa_nil) he) (he := he) (hpl := rfl)) fun s H Q h => ?_; obtain ⟨Z, d, m, R, ok, rs, h, k⟩ := h; refine ⟨Z, d, m, _, ok, rs, h, fun x m1 v H1 ⟨q, e, h1⟩ e1 ok1 rd => ?_⟩; subst e; exact ⟨Z, m1, q, v, rd, rfl, k _ m1 _ H1 h1 e1 ok1 .ofBl⟩
def LSp (K : PySem.W.Frag) (n : Nat) (sp : DC) : Sp := fun vs H Q _ => ∃ Z ds m R, Ok K Z m H ∧ RDs K Z m H ds vs ∧ ds.length = n ∧ sp ds m R ∧ ∀ d m' v' H', R d m' → Ext K Z m H m' H' → Ok K Z m' H' → RD K Z m' H' d v' → Q v' H'
theorem LSp.len {K : PySem.W.Frag} {n : Nat} {sp : DC} {vs : List V} {H : Hp} {Q : VK} {E : XK} (h : LSp K n sp vs H Q E) : vs.length = n := by
 obtain ⟨Z, ds, m, R, _, rd, hl, _⟩ := h; rw [rd.length]; exact hl
@[simp] def dCall (n : Nat) (sp : DC) (g : DA) : DE := fun d m Q => g d m fun xs m1 => xs.length = n ∧ sp xs m1 Q
theorem le_call {k n : Nat} {fa : Addr} {fd : FuncData} {ps : List Str} {sp : DC} {x : Str} (F : FnOk X.prog X.w X.K X.mg X.base CX0 k fa fd ps (LSp X.K n sp)) (hr : Room k X.A) (hm : X.mg x = some (.ref fa)) (hk : PySem.W.keepIn X.K (.ref fa) = true)
  (hb : Binds X.K fd ps []) (hx : X.xe = fun _ _ => False) (ha : PA X (e :: es) (LA X.K ga)) (hg : Gl X x := by rfl) (hdb : (x == ("__debug__" : Str)) = false := by decide)
  (he : starEach (e :: es) X.env = (false, eval e X.env) :: starEach es X.env := by rfl) (hpl : (backTo pos (starEach es X.env)).any (·.1) = false := by rfl) : PE X (.Call (.Name x p) (e :: es) [] pos) (LE X.K (dCall n sp ga)) :=
 PE.imp (pe_call F hr hg hm hk hb .nil (pass0 (X := X)) ha hdb he hpl) fun s H Q h => by
  obtain ⟨Z, d, m, R, ok, rs, h, k⟩ := h; refine ⟨Z, d, m, _, ok, rs, h, fun xs m1 vs H1 ⟨hl, q⟩ e1 ok1 rd => ⟨Z, xs, m1, R, ok1, by simpa using rd, hl, q, fun d' m' v' H' h1 h2 h3 h4 => k d' m' v' H' h1 (e1.trans h2) h3 h4⟩⟩
@[simp] def start2 (N : List Str) (ds : List D) : St2 := ds.map some ++ List.replicate (N.length - ds.length) none
theorem RDs.get {K : PySem.W.Frag} {Z : Addr → Prop} {m : Mu} {H : Hp} : ∀ {xs : List D} {vs : List V} {i : Nat} {x : D}, RDs K Z m H xs vs → xs[i]? = some x → ∃ v, vs[i]? = some v ∧ RD K Z m H x v
 | [], _, _, _, _, e => by simp at e
 | _ :: _, _, 0, x, ⟨v, r, h1, h2, _⟩, e => by
  simp at e; subst h1 e; exact ⟨v, rfl, h2⟩
 | _ :: xs, _, i + 1, x, ⟨v, r, h1, _, h3⟩, e => by
  obtain ⟨u, q1, q2⟩ := RDs.get (i := i) (x := x) h3 (by simpa using e)
  subst h1; exact ⟨u, by simpa using q1, q2⟩
theorem rs_start {K : PySem.W.Frag} {Z : Addr → Prop} {m : Mu} {H : Hp} {N : List Str} {ds : List D} {vs : List V} (h : RDs K Z m H ds vs) : RS K Z m H (start2 N ds) (start N vs) := by
 have hl := h.length
 refine ⟨?_, fun i x hx => ?_⟩
 ·unfold start2 L2.start; rw [List.length_append, List.length_append, List.length_map, List.length_map, List.length_replicate, List.length_replicate, hl]
 ·unfold start2 at hx
  by_cases hi : i < ds.length
  ·rw [List.getElem?_append_left (by simpa using hi), List.getElem?_map] at hx
   cases e : ds[i]? with
   | none => rw [e] at hx; cases hx
   | some y =>
    rw [e] at hx
    cases hx
    obtain ⟨v, q1, q2⟩ := h.get e; refine ⟨v, ?_, q2⟩; unfold L2.start; rw [List.getElem?_append_left (by rw [List.length_map, hl]; exact hi), List.getElem?_map, q1]
    rfl
  ·rw [List.getElem?_append_right (by simpa using hi), List.getElem?_replicate] at hx
   split at hx <;> cases hx
end
section
variable {P : Program} {w : World} {K : PySem.W.Frag} {mg : Str → Option Value} {base : Heap}
theorem fn_body {x qual : Str} {st : Stmt} {fa : Addr} {fd : FuncData} {N ps : List Str} {k : Nat} {sp : DC} {body : DS} (F : Fun K x qual st fa fd) (S : FnScope N ps (defScope st))
  (hb : ∀ (cdv : Value) (A : Around) (outer : List Env) (s : Shared) (H : Hp) (E : XK), Room k (A.deeper (envOfC qual (defScope st) s.heap.objs.size fa cdv)) →
   PSs (cxOf CX0 P w K mg base N qual (defScope st) fa cdv A outer s H E).nox (defBody st) (LS K body))
  (hv : ∀ ds m R, ds.length = ps.length → sp ds m R → body { nx := fun _ m => R (.dat .none) m, rt := R } (start2 N ds) m) : FnOk P w K mg base CX0 (k + 1) fa fd ps (LSp K ps.length sp) := by
 refine F.ok S (fun vs H Q E h => h.len) (fun cdv A outer s H vs Q E hr h => ?_); obtain ⟨Z, ds, m, R, ok, rd, hl, h, kk⟩ := h; refine ⟨_, hb cdv A outer s H E hr, Z, start2 N ds, m, _, ok, rs_start rd, hv ds m R hl h, ?_, ?_, ?_, ?_⟩
 ·intro d' m' s' H' q e1 ok1 _; exact kk _ m' _ H' q e1 ok1 (by simp only [RD, RP])
 ·exact fun x m' v H' q e1 ok1 r1 => kk x m' v H' q e1 ok1 r1
 ·exact fun _ _ _ _ q _ _ _ => q.elim
 ·exact fun _ _ _ _ q _ _ _ => q.elim
end
end DL
namespace L2
open PySem
theorem Room.u100 {k : Nat} {A : Around} (r : Room k A) : A.units + 100 < cLine := by have := r.un; omega
theorem Room.u200 {k : Nat} {A : Around} (r : Room k A) : A.units + 200 < cLine := by have := r.un; omega
end L2
namespace DL
open PySem PySem.Spec PyProof.Rows L2
theorem boot_len_ : bootBuiltins "len" = some (.builtin "len") := by decide +kernel
theorem boot_abs_ : bootBuiltins "abs" = some (.builtin "abs") := by decide +kernel
theorem boot_repr_ : bootBuiltins "repr" = some (.builtin "repr") := by decide +kernel
theorem boot_int_ : bootBuiltins "int" = some (.type "int") := by decide +kernel
theorem boot_bool_ : bootBuiltins "bool" = some (.type "bool") := by decide +kernel
theorem boot_str_ : bootBuiltins "str" = some (.type "str") := by decide +kernel
theorem boot_list_ : bootBuiltins "list" = some (.type "list") := by decide +kernel
theorem boot_tuple_ : bootBuiltins "tuple" = some (.type "tuple") := by decide +kernel
end DL
namespace DL
open PySem PySem.Spec PyProof.Rows L2
theorem rps_ints {K : PySem.W.Frag} {Z : Addr → Prop} {m : Mu} {H : Hp} : ∀ ns : List Int, RPs K Z m H (ns.map PyData.int) (ns.map V.int)
 | [] => by simp [RPs]
 | n :: ns => by
  simp only [List.map_cons, RPs]; exact ⟨_, _, rfl, by simp only [RP], rps_ints ns⟩
theorem lsp_law {K : PySem.W.Frag} {sp : DC} {H : Hp} {a : Addr} {ns : List Int} {E : XK} (hS : SqL K H a (ns.map V.int)) (h : sp [.dat (.list (ns.map .int))] (fun _ => none) (fun d _ => d = .dat (.bool true))) : LSp K 1 sp [.ref a] H (fun v _ => v = .bl true) E := by
 have ok : Ok K (fun _ => False) (fun _ => none) H := ⟨fun b ds e => (by cases e), fun _ z => False.elim z⟩
 refine ⟨fun _ => False, [.dat (.list (ns.map .int))], fun _ => none, fun d _ => d = .dat (.bool true), ok, ⟨.ref a, [], rfl, ?_, rfl⟩, rfl, h, ?_⟩
 ·simp only [RD, RP]; exact ⟨a, _, rfl, by first | exact ⟨rfl, fun z => z⟩ | simp, hS, rps_ints ns⟩
 ·rintro d m' v' H' rfl _ _ r; simpa only [RD, RP] using r
end DL
namespace DL
open PySem PySem.Spec PyProof.Rows L2
theorem closure_go (env : Env) : ∀ (names : List (Str × NameKind)) (cs : List (Str × Addr)), (∀ x, (x, NameKind.free) ∈ names → ∃ c, env.cells.lookup x = some c) → (∀ p ∈ cs, env.cells.lookup p.1 = some p.2) →
  ∃ cl : List (Str × Addr), (forIn names cs (fun (x : Str × NameKind) (r : List (Str × Addr)) => (if (x.2 == .free) = true then (do let c ← cellOf env x.1; pure (ForInStep.yield ((x.1, c) :: r))) else pure (ForInStep.yield r) : Sem (ForInStep (List (Str × Addr)))))) = pure cl ∧
   (∀ p ∈ cl, env.cells.lookup p.1 = some p.2) ∧ (∀ p ∈ cs, p ∈ cl) ∧ ∀ x, (x, NameKind.free) ∈ names → ∃ c, (x, c) ∈ cl
 | [], cs, _, h => ⟨cs, rfl, h, fun _ z => z, fun x z => nomatch z⟩
 | (n, k) :: r, cs, hf, h => by
  by_cases hk : k = .free
  ·subst hk; obtain ⟨c, hc⟩ := hf n List.mem_cons_self; obtain ⟨cl, e, h1, h2, h3⟩ := closure_go env r ((n, c) :: cs) (fun x hx => hf x (List.mem_cons_of_mem _ hx)) (fun p hp => by
    rcases List.mem_cons.mp hp with rfl | hp
    ·exact hc
    ·exact h p hp)
   refine ⟨cl, ?_, h1, fun p hp => h2 p (List.mem_cons_of_mem _ hp), fun x hx => ?_⟩
   ·rw [List.forIn_cons]; have e2 : cellOf env n = pure c := by unfold cellOf; rw [hc]
    simp only [beq_self_eq_true, if_true, e2, pure_bind]; exact e
   ·rcases List.mem_cons.mp hx with z | hx
    ·cases z
     exact ⟨c, h2 _ List.mem_cons_self⟩
    ·exact h3 x hx
  ·obtain ⟨cl, e, h1, h2, h3⟩ := closure_go env r cs (fun x hx => hf x (List.mem_cons_of_mem _ hx)) h; refine ⟨cl, ?_, h1, h2, fun x hx => ?_⟩
   ·rw [List.forIn_cons]; have e2 : (k == NameKind.free) = false := by simpa using hk
    simp only [e2, Bool.false_eq_true, if_false, pure_bind]; exact e
   ·rcases List.mem_cons.mp hx with z | hx
    ·cases z
     exact absurd rfl hk
    ·exact h3 x hx
theorem closure_of {scope : Scope} {env : Env} (hf : ∀ x, (x, NameKind.free) ∈ scope.names → ∃ c, env.cells.lookup x = some c) :
  ∃ cl : List (Str × Addr), closureFor scope env = pure cl ∧ (∀ p ∈ cl, env.cells.lookup p.1 = some p.2) ∧ ∀ x, (x, NameKind.free) ∈ scope.names → ∃ c, (x, c) ∈ cl := by
 obtain ⟨cl, e, h1, _, h3⟩ := closure_go env scope.names [] hf (fun _ z => nomatch z); refine ⟨cl, ?_, h1, h3⟩; unfold closureFor
 first
  | exact e
  | (show (do let cs ← forIn scope.names ([] : List (Str × Addr)) _; pure cs : Sem _) = _; rw [e]; rfl)
  | (simp only []; rw [e]; rfl)
section
variable {prog : Program} {w : World} {A : Around} {R : Result → Shared → Prop} {s : Shared}
theorem comp_loop {elt target iter : Expr} {ifs : List Expr} {scope : Scope} {pos : Pos} {it acc : Value} {env : Env} (I : Nat → Shared → Prop)
  (turn : ∀ n s, I n s → wpAny (model prog w) A (pyNext it) (fun r s₁ => match r with
   | none => R (.ok .next) s₁
   | some v => wpAny (model prog w) A (letOwnedTupleGo target it v) (fun _ s₀ => wpAny (model prog w) A (assign target env v) (fun _ s₂ =>
     wpAny (model prog w) A (forIn ifs true fun c r => if r = true then do let ok ← isTrue c env (eval c env); pure (ForInStep.yield ok) else pure (ForInStep.yield r)) (fun ok s₃ =>
      if ok = true then wpAny (model prog w) A (eval elt env) (fun x s₄ =>
       wpAny (model prog w) A (call (.builtin "list.append") [acc, x]) (fun _ s₅ => ∃ m, m < n ∧ I m s₅) (fun _ _ => False) s₄) (fun _ _ => False) s₃
      else ∃ m, m < n ∧ I m s₃) (fun _ _ => False) s₂) (fun _ _ => False) s₀) (fun _ _ => False) s₁) (fun _ _ => False) s)
  (n : Nat) (h : I n s) :
  codeAny (model prog w) A (.compLoop (.ListComp elt [⟨target, iter, ifs, 0⟩] scope pos) 0 it acc env) R s := by
 have ff : ∀ {E : Value → Shared → Prop} (x : Value) (s : Shared), False → E x s := fun _ _ z => z.elim
 refine codeAny_loop rfl I (fun n s hI => ?_) n h; show wpAny _ A ((compTurn (.ListComp elt [⟨target, iter, ifs, 0⟩] scope pos) 0 it acc env).onRaise (fun x => do noteFrame x env; theTreesLotGoes x)) _ _ s
 refine wpAny_noted ?_; rw [compTurn_list]; refine wpAny_bind (wpAny_standAt (wpAny_bind (wpAny_mono (turn n s hI) (fun r s₁ h₁ => ?_) ff)))
 cases r with
 | none => exact wpAny_pure h₁
 | some v =>
  refine wpAny_bind (wpAny_mono h₁ (fun _ s₀ h₀ => ?_) ff); refine wpAny_bind (wpAny_mono h₀ (fun _ s₂ h₂ => wpAny_bind (wpAny_mono h₂ (fun ok s₃ h₃ => ?_) ff)) ff)
  cases ok with
  | true =>
   simp only [if_true] at h₃ ⊢; refine wpAny_bind (wpAny_bind (wpAny_mono h₃ (fun x s₄ h₄ => wpAny_bind (wpAny_mono h₄ (fun _ s₅ h₅ => wpAny_pure (wpAny_pure ⟨rfl, h₅⟩)) ff)) ff))
  | false =>
   simp only [Bool.false_eq_true, if_false] at h₃ ⊢; exact wpAny_pure ⟨rfl, h₃⟩
end
end DL
namespace DL
open PySem PySem.Spec PyProof.Rows L2
def cyOf (X : Cx) (scope : Scope) (cl : List (Str × Addr)) (C : Addr) (NC : List Str) (s2 : Shared) (H2 : Hp) (pins : List (Addr × Obj)) (fp : List Addr) : Cx where
 prog := X.prog
 w := X.w
 K := X.K
 mg := X.mg
 base := X.base
 A := X.A
 N := NC
 s₀ := s2
 H₀ := H2
 env := compEnvC scope cl C X.env
 outer := X.stack
 stack := X.stack
 ex := fp
 fn := fun _ => false
 calm := X.calm
 pn := X.pn ++ pins
 xe := fun _ _ => False
theorem mem_of_lookup' {cl : List (Str × Addr)} {x : Str} {c : Addr} (h : cl.lookup x = some c) : (x, c) ∈ cl := PySem.mem_of_lookup h
theorem lookup_of_mem' {cl : List (Str × Addr)} {x : Str} : ∀ {c : Addr}, (x, c) ∈ cl → ∃ c', cl.lookup x = some c' := by
 induction cl with
 | nil => intro c h; cases h
 | cons p r ih =>
  intro c h; rw [List.lookup_cons]
  cases hx : x == p.1 with
  | true => exact ⟨_, rfl⟩
  | false =>
   rcases List.mem_cons.mp h with e | h
   ·subst e; simp at hx
   ·exact ih h
theorem relabel_free {env : Env} : ∀ {names : List (Str × NameKind)} {x : Str}, (∀ y ∈ names, y.2 ≠ .cell) →
  ((names.map fun (n, k) => if (k == NameKind.free && env.scope.kind == .function && env.kindOf n == some .cell) then (n, NameKind.cell) else (n, k)).lookup x = some .cell ∨
    (names.map fun (n, k) => if (k == NameKind.free && env.scope.kind == .function && env.kindOf n == some .cell) then (n, NameKind.cell) else (n, k)).lookup x = some .free) → (x, NameKind.free) ∈ names
 | [], x, _, h => by simp at h
 | (n, k) :: r, x, hc, h => by
  have ih := @relabel_free env r x (fun y hy => hc y (List.mem_cons_of_mem _ hy))
  by_cases hk : (k == NameKind.free && env.scope.kind == .function && env.kindOf n == some .cell) = true
  ·have kf : k = .free := by
    rw [Bool.and_eq_true, Bool.and_eq_true] at hk; exact eq_of_beq hk.1.1
   subst kf; simp only [List.map_cons, hk, if_true, List.lookup_cons] at h
   cases hx : x == n with
   | true =>
    have : x = n := eq_of_beq hx
    subst this; exact List.mem_cons_self
   | false =>
    simp only [hx] at h; exact List.mem_cons_of_mem _ (ih h)
  ·have hk' : (k == NameKind.free && env.scope.kind == .function && env.kindOf n == some .cell) = false := by simpa using hk
   simp only [List.map_cons, hk', Bool.false_eq_true, if_false, List.lookup_cons] at h
   cases hx : x == n with
   | true =>
    have : x = n := eq_of_beq hx
    subst this; simp only [hx] at h; have hne := hc (x, k) List.mem_cons_self
    rcases h with h | h
    ·exact absurd (Option.some.inj h) hne
    ·have : k = .free := Option.some.inj h
     subst this; exact List.mem_cons_self
   | false =>
    simp only [hx] at h; exact List.mem_cons_of_mem _ (ih h)
section
variable {X : Cx} {pins : List (Addr × Obj)} {σ : L2.St} {H2 : Hp} {s2 : Shared} {scope : Scope} {cl : List (Str × Addr)} {NC : List Str} {fp : List Addr} {C : Addr}
theorem cy_ok (I2 : Inv X pins σ H2 s2) (hf : ∀ b ∈ fp, FpOk X pins H2 b) (hob : ∀ b ∈ fp, ∃ o, s2.heap.get? b = some o ∧ ∀ v, o.data ≠ .cell v) (hkind : scope.kind = .function) (hcell : ∀ y ∈ scope.names, y.2 ≠ .cell)
  (hcl1 : ∀ p ∈ cl, X.env.cells.lookup p.1 = some p.2) (hcl2 : ∀ x, (x, NameKind.free) ∈ scope.names → ∃ c, (x, c) ∈ cl) (hC : s2.heap.objs.size ≤ C) : (cyOf X scope cl C NC s2 H2 pins fp).Ok := by
 have lk : ∀ x c, cl.lookup x = some c → X.env.cells.lookup x = some c := fun x c h => hcl1 (x, c) (mem_of_lookup' h)
 refine ⟨I2.ok.mod, hkind, I2.ok.glob, I2.ok.blt, hC, fun x y c h1 h2 => I2.ok.inj x y c (lk x c h1) (lk y c h2), fun x hx => ?_, fun x c h => absurd (show false = true from h) Bool.false_ne_true, I2.ok.hd, I2.ok.frames, .inl rfl, fun b hb => ⟨?_, fun x c h => ?_⟩, fun b o e => I2.bs b o e,
  Nat.le_trans I2.ok.bsz I2.sz, fun b o e hb => ?_, fun b hb hs => ?_, I2.stack, I2.stkFree⟩
 ·obtain ⟨c, hc⟩ := hcl2 x (relabel_free (env := X.env) hcell hx); exact lookup_of_mem' hc
 ·obtain ⟨o, ho, _⟩ := hob b hb; exact Nat.ne_of_lt (Nat.lt_of_lt_of_le (Heap.lt_size ho) hC)
 ·exact (hf b hb).2.2.2.2.1 x c (lk x c h)
 ·rcases (hf b hb).2.2.2.1 with z | z
  ·exact I2.ok.noex b o e z
  ·exact absurd (Nat.lt_of_lt_of_le (Heap.lt_size e) (Nat.le_trans I2.ok.bsz z)) (Nat.lt_irrefl _)
 ·rcases List.mem_cons.mp (I2.stkSub b hs) with z | z
  ·exact (hf b hb).2.1 z
  ·exact (hf b hb).2.2.1 z
theorem cy_startG {o0 : HO} {σ' : L2.St} {h₁ : Heap} {tk : Nat} {mm : Str → Option Value} (I2 : Inv X pins σ H2 s2) (hf : ∀ b ∈ fp, FpOk X pins H2 b) (hob : ∀ b ∈ fp, ∃ o, s2.heap.get? b = some o ∧ ∀ v, o.data ≠ .cell v) (hkind : scope.kind = .function) (hcell : ∀ y ∈ scope.names, y.2 ≠ .cell)
  (hcl1 : ∀ p ∈ cl, X.env.cells.lookup p.1 = some p.2) (hcl2 : ∀ x, (x, NameKind.free) ∈ scope.names → ∃ c, (x, c) ∈ cl)
  (hlen : σ'.length = NC.length) (hσ : ∀ (i : Nat) (x : Str) (v : V), NC[i]? = some x → σ'[i]? = some (some v) → Vis (relabel scope X.env) x → ((relabel scope X.env).names.lookup x = some .cell ∨ (relabel scope X.env).names.lookup x = some .free) ∧ (X.env.kindOf x = some .cell ∨ X.env.kindOf x = some .free) ∧ ∃ j : Nat, X.N[j]? = some x ∧ σ[j]? = some (some v))
  (hC : C = s2.heap.objs.size + 1) (hns : h₁.Ns C mm) (hk : ∀ b u, s2.heap.get? b = some u → h₁.get? b = some u)
  (hO : ObjOk X.prog X.w (upd H2 s2.heap.objs.size o0) h₁ s2.heap.objs.size o0) :
  Inv (cyOf X scope cl C NC s2 H2 pins fp) [] σ' (upd H2 s2.heap.objs.size o0) { s2 with heap := h₁, toks := tk } := by
 have lk : ∀ x c, cl.lookup x = some c → X.env.cells.lookup x = some c := fun x c h => hcl1 (x, c) (mem_of_lookup' h)
 have hn : H2 s2.heap.objs.size = none := I2.hok.fresh (Nat.le_refl _)
 have le1 : s2.heap.objs.size ≤ C := by rw [hC]; exact Nat.le_succ _
 have ne1 : C ≠ s2.heap.objs.size := by rw [hC]; exact Nat.succ_ne_self _
 have hCn : H2 C = none := I2.hok.fresh le1
 have neD : ∀ b o, s2.heap.get? b = some o → b ≠ s2.heap.objs.size := fun b o e => Nat.ne_of_lt (Heap.lt_size e)
 refine ⟨cy_ok I2 hf hob hkind hcell hcl1 hcl2 le1, rfl, I2.bare, Un.laid hk (Nat.le_refl _) hn, ⟨mm, hns, fun i x v h1 h2 h3 => ?_⟩, fun x c h => ?_, ?_, fun x c h => ?_, fun p hp => ?_, ?_, hlen⟩
 ·obtain ⟨hy, hx, j, hj, hv⟩ := hσ i x v h1 h2 h3; obtain ⟨m, hnX, hl⟩ := I2.loc; have vis : Vis X.env.scope x := by rcases hx with z | z; exact .inr (.inl z); exact .inr (.inr z)
  obtain ⟨u, r, l⟩ := hl j x v hj hv vis; refine ⟨u, r, .inr ⟨hy, ?_⟩⟩; obtain ⟨c', hc'⟩ := hcl2 x (relabel_free (env := X.env) hcell hy); obtain ⟨c, hc⟩ := lookup_of_mem' hc'; refine ⟨c, hc, ?_⟩; rcases l with ⟨z, _⟩ | ⟨_, c2, e2, o, ho, hd⟩
  ·rcases hx with q | q
   ·rw [z] at q; cases q
   ·rw [z] at q; cases q
  ·have := lk x c hc
   rw [e2] at this
   cases this
   exact ⟨o, hk _ o ho, hd⟩
 ·obtain ⟨v, o, ho, hd⟩ := I2.cell x c (lk x c h); exact ⟨v, o, hk _ o ho, hd⟩
 ·show upd H2 s2.heap.objs.size o0 C = none
  rw [upd_ne ne1]; exact hCn
 ·obtain ⟨v, o, ho, hd⟩ := I2.cell x c (lk x c h); rw [upd_ne (neD c o ho)]; exact I2.freeC x c (lk x c h)
 ·have hp' : p ∈ X.pn ++ pins := by
   rcases List.mem_append.mp hp with z | z
   ·exact z
   ·cases z
  obtain ⟨e, n, ne, nf, d⟩ := I2.pin p hp'; refine ⟨hk _ _ e, by rw [upd_ne (neD _ _ e)]; exact n, ?_, fun z => ?_, d⟩
  ·show p.1 ≠ C
   exact Nat.ne_of_lt (Nat.lt_of_lt_of_le (Heap.lt_size e) le1)
  ·rcases List.mem_cons.mp (I2.stkSub p.1 z) with q | q
   ·exact ne q
   ·exact nf q
 ·exact I2.hok.laid hk (Nat.le_refl _) hO
theorem cy_start {σ' : L2.St} {h₁ : Heap} {tk : Nat} {mm : Str → Option Value} (I2 : Inv X pins σ H2 s2) (hf : ∀ b ∈ fp, FpOk X pins H2 b) (hob : ∀ b ∈ fp, ∃ o, s2.heap.get? b = some o ∧ ∀ v, o.data ≠ .cell v) (hkind : scope.kind = .function) (hcell : ∀ y ∈ scope.names, y.2 ≠ .cell)
  (hcl1 : ∀ p ∈ cl, X.env.cells.lookup p.1 = some p.2) (hcl2 : ∀ x, (x, NameKind.free) ∈ scope.names → ∃ c, (x, c) ∈ cl)
  (hlen : σ'.length = NC.length) (hσ : ∀ (i : Nat) (x : Str) (v : V), NC[i]? = some x → σ'[i]? = some (some v) → Vis (relabel scope X.env) x → ((relabel scope X.env).names.lookup x = some .cell ∨ (relabel scope X.env).names.lookup x = some .free) ∧ (X.env.kindOf x = some .cell ∨ X.env.kindOf x = some .free) ∧ ∃ j : Nat, X.N[j]? = some x ∧ σ[j]? = some (some v))
  (hC : C = s2.heap.objs.size + 1) (hns : h₁.Ns C mm) (hk : ∀ b u, s2.heap.get? b = some u → h₁.get? b = some u)
  (hD : h₁.get? s2.heap.objs.size = some { cls := .type "list", data := .seq ([] : List Value).toArray }) :
  Inv (cyOf X scope cl C NC s2 H2 pins fp) [] σ' (upd H2 s2.heap.objs.size (.lst [])) { s2 with heap := h₁, toks := tk } :=
 cy_startG I2 hf hob hkind hcell hcl1 hcl2 hlen hσ hC hns hk ⟨Nat.zero_le _, [], 0, .nil, hD⟩
theorem cy_end {py : List (Addr × Obj)} {σ'' : L2.St} {H' : Hp} {s' : Shared} {h' : Heap} (I2 : Inv X pins σ H2 s2) (hf : ∀ b ∈ fp, FpOk X pins H2 b) (Iy : Inv (cyOf X scope cl C NC s2 H2 pins fp) py σ'' H' s') (hC : s2.heap.objs.size ≤ C) (hs : Heap.SameBut C s'.heap h') :
  Inv X pins σ H' { s' with heap := h' } := by
 have u : Un (frs X.stack) fp H2 H' s2.heap s'.heap := Iy.base
 have neC : ∀ b o, s2.heap.get? b = some o → b ≠ C := fun b o e => Nat.ne_of_lt (Nat.lt_of_lt_of_le (Heap.lt_size e) hC)
 have fC : H' C = none := Iy.free
 refine I2.call' (s' := { s' with heap := h' }) (ch := fp) Iy.os ⟨fun b o e n hb hx => (hs.2 b (neC b o e)).trans (u.keep b o e n hb hx), fun b o e n hb hx => ?_, u.free, fun b o e hx => ?_, u.tups, u.frzs, u.tbls⟩ (fun b o e => ?_) Iy.bare fun b hb => ?_
 ·obtain ⟨sl, q⟩ := u.slot b o e n hb hx; exact ⟨sl, (hs.2 b (neC b o e)).trans q⟩
 ·obtain ⟨o', q⟩ := u.there b o e hx; exact ⟨o', (hs.2 b (neC b o e)).trans q⟩
 ·refine (Iy.hok b o e).stay (fun c v hc q => (hs.2 c ?_).trans q) (fun _ q => q) (fun _ _ q => q) fun _ _ _ q => q; rintro rfl; rcases hc with rfl | hc
  ·rw [fC] at e; cases e
  ·rw [fC] at hc; cases hc
 ·obtain ⟨_, f1, _, f3, f4, f5⟩ := hf b hb; exact ⟨f3, f1, f4, f5⟩
end
end DL
namespace DL
open PySem PySem.Spec PyProof.Rows L2
section
variable {K : PySem.W.Frag} {Z Y : Addr → Prop} {m m' : Mu} {H H' : Hp}
mutual
theorem RP.tr0 (ht : ∀ a vs, SqT K H a vs → SqT K H' a vs) (hl : ∀ a vs, (m a = none ∧ ¬ Z a) → SqL K H a vs → (m' a = none ∧ ¬ Y a) ∧ SqL K H' a vs) (hf : ∀ a o u, H a = some (.frz o u) → H' a = some (.frz o u)) : ∀ (p : PyData) (v : V), RP K Z m H p v → RP K Y m' H' p v
 | .none, v, h => by simpa only [RP] using h
 | .bool _, v, h => by simpa only [RP] using h
 | .int _, v, h => by simpa only [RP] using h
 | .str _, v, h => by simpa only [RP] using h
 | .tuple xs, v, h => by
  simp only [RP] at h ⊢; obtain ⟨a, vs, h1, h2, h3⟩ := h; exact ⟨a, vs, h1, ht a vs h2, RPs.tr0 ht hl hf xs vs h3⟩
 | .list xs, v, h => by
  simp only [RP] at h ⊢; obtain ⟨a, vs, h1, h2, h3, h4⟩ := h; obtain ⟨q1, q2⟩ := hl a vs h2 h3; exact ⟨a, vs, h1, q1, q2, RPs.tr0 ht hl hf xs vs h4⟩
 | .dict kvs, v, h => by
  simp only [RP] at h ⊢; obtain ⟨a, o, u, vs, h1, h2, h3, h4⟩ := h; exact ⟨a, o, u, vs, h1, hf a o u h2, h3, RPd.tr0 ht hl hf kvs _ h4⟩
theorem RPd.tr0 (ht : ∀ a vs, SqT K H a vs → SqT K H' a vs) (hl : ∀ a vs, (m a = none ∧ ¬ Z a) → SqL K H a vs → (m' a = none ∧ ¬ Y a) ∧ SqL K H' a vs) (hf : ∀ a o u, H a = some (.frz o u) → H' a = some (.frz o u)) : ∀ (xs : List (PyData × PyData)) (vs : List (PyData × V)), RPd K Z m H xs vs → RPd K Y m' H' xs vs
 | [], vs, h => by simpa only [RPd] using h
 | (k, p) :: xs, vs, h => by
  simp only [RPd] at h ⊢; obtain ⟨v, r, h1, h2, h3⟩ := h; exact ⟨v, r, h1, RP.tr0 ht hl hf p v h2, RPd.tr0 ht hl hf xs r h3⟩
theorem RPs.tr0 (ht : ∀ a vs, SqT K H a vs → SqT K H' a vs) (hl : ∀ a vs, (m a = none ∧ ¬ Z a) → SqL K H a vs → (m' a = none ∧ ¬ Y a) ∧ SqL K H' a vs) (hf : ∀ a o u, H a = some (.frz o u) → H' a = some (.frz o u)) : ∀ (xs : List PyData) (vs : List V), RPs K Z m H xs vs → RPs K Y m' H' xs vs
 | [], vs, h => by simpa only [RPs] using h
 | x :: xs, vs, h => by
  simp only [RPs] at h ⊢; obtain ⟨v, r, h1, h2, h3⟩ := h; exact ⟨v, r, h1, RP.tr0 ht hl hf x v h2, RPs.tr0 ht hl hf xs r h3⟩
end
theorem RP.tr (ht : ∀ a vs, SqT K H a vs → SqT K H' a vs) (hl : ∀ a vs, (m a = none ∧ ¬ Z a) → SqL K H a vs → (m' a = none ∧ ¬ Y a) ∧ SqL K H' a vs) (p : PyData) (v : V) (h : RP K Z m H p v) (hf : ∀ a o u, H a = some (.frz o u) → H' a = some (.frz o u) := by first | exact fun _ _ _ q => q | exact Ext.fz ‹_› | (intro a o u q; first | (rw [upd_ne (by rintro rfl; simp_all)]; exact q) | (unfold upd; split <;> simp_all))) : RP K Y m' H' p v := RP.tr0 ht hl hf p v h
theorem RPs.tr (ht : ∀ a vs, SqT K H a vs → SqT K H' a vs) (hl : ∀ a vs, (m a = none ∧ ¬ Z a) → SqL K H a vs → (m' a = none ∧ ¬ Y a) ∧ SqL K H' a vs) (p : List PyData) (v : List V) (h : RPs K Z m H p v) (hf : ∀ a o u, H a = some (.frz o u) → H' a = some (.frz o u) := by first | exact fun _ _ _ q => q | exact Ext.fz ‹_› | (intro a o u q; first | (rw [upd_ne (by rintro rfl; simp_all)]; exact q) | (unfold upd; split <;> simp_all))) : RPs K Y m' H' p v := RPs.tr0 ht hl hf p v h
def rsv (Z : Addr → Prop) (D : Addr) : Addr → Prop := fun a => Z a ∨ a = D
variable {D : Addr} {ys zs : List V}
theorem tr_new_l (hD : H D = none) (hk : K.lookup D = none) : ∀ a vs, (m a = none ∧ ¬ Z a) → SqL K H a vs → (m a = none ∧ ¬ rsv Z D a) ∧ SqL K (upd H D (.lst ys)) a vs := fun a vs h1 h2 =>
 ⟨⟨h1.1, fun z => z.elim h1.2 (SqL.ne hD hk h2)⟩, (same_new hD).seq h2⟩
theorem tr_put_t (hD : H D = some (.lst ys)) : ∀ a vs, SqT K H a vs → SqT K (upd H D (.lst zs)) a vs := fun b xs h => by
 rcases h with (h | ⟨o, h⟩) | h
 ·have ne : b ≠ D := by rintro rfl; rw [hD] at h; cases h
  exact .inl (.inl (by rw [upd_ne ne]; exact h))
 ·have ne : b ≠ D := by rintro rfl; rw [hD] at h; cases h
  exact .inl (.inr ⟨o, by rw [upd_ne ne]; exact h⟩)
 ·exact .inr h
theorem sql_put {a : Addr} {vs : List V} (ne : a ≠ D) (h : SqL K H a vs) : SqL K (upd H D (.lst zs)) a vs := by
 rcases h with (h | ⟨o, h⟩) | h
 ·exact .inl (.inl (by rw [upd_ne ne]; exact h))
 ·exact .inl (.inr ⟨o, by rw [upd_ne ne]; exact h⟩)
 ·exact .inr h
theorem tr_put_l : ∀ a vs, (m a = none ∧ ¬ rsv Z D a) → SqL K H a vs → (m a = none ∧ ¬ rsv Z D a) ∧ SqL K (upd H D (.lst zs)) a vs := fun a vs h1 h2 =>
 ⟨h1, sql_put (fun e => h1.2 (.inr e)) h2⟩
end
section
variable {K : PySem.W.Frag} {Z : Addr → Prop} {m m1 m' : Mu} {H H1 H' : Hp} {D : Addr} {ys zs : List V}
theorem rd_new {x : DL.D} {v : V} (hD : H D = none) (hk : K.lookup D = none) (h : RD K Z m H x v) : RD K (rsv Z D) m (upd H D (.lst ys)) x v := by
 cases x with
 | dat p => exact RP.tr (fun a vs q => SqT.same (same_new hD) q) (tr_new_l hD hk) p v h
 | cel a => exact h
theorem rd_put {x : DL.D} {v : V} (hD : H D = some (.lst ys)) (h : RD K (rsv Z D) m H x v) : RD K (rsv Z D) m (upd H D (.lst zs)) x v := by
 cases x with
 | dat p => exact RP.tr (tr_put_t hD) tr_put_l p v h
 | cel a => exact h
theorem ok_new (ok : Ok K Z m H) (hD : H D = none) (hk : K.lookup D = none) : Ok K (rsv Z D) m (upd H D (.lst ys)) := by
 refine ⟨fun a c h => ?_, fun a h => ?_⟩
 ·obtain ⟨o, h1, h2⟩ := ok.g a c h; have ne : a ≠ D := by rintro rfl; rw [hD] at h1; cases h1
  exact ⟨o, by rw [upd_ne ne]; exact h1, h2.lift fun p v q => RP.tr (fun a vs q => SqT.same (same_new hD) q) (tr_new_l hD hk) p v q⟩
 ·rcases h with h | h
  ·have ne : a ≠ D := by rintro rfl; exact (ok.z a h).2 hD
   exact ⟨(ok.z a h).1, by rw [upd_ne ne]; exact (ok.z a h).2⟩
  ·subst h; exact ⟨(ok_none ok hD).1, by rw [upd_same]; intro z; cases z⟩
theorem ok_put2 (ok : Ok K (rsv Z D) m H) (hD : H D = some (.lst ys)) : Ok K (rsv Z D) m (upd H D (.lst zs)) := by
 refine ⟨fun a c h => ?_, fun a h => ?_⟩
 ·obtain ⟨o, h1, h2⟩ := ok.g a c h; have ne : a ≠ D := by
   rintro rfl; have := (ok.z a (.inr rfl)).1
   rw [h] at this
   cases this
  exact ⟨o, by rw [upd_ne ne]; exact h1, h2.lift fun p v q => RP.tr (tr_put_t hD) tr_put_l p v q⟩
 ·by_cases e : a = D
  ·subst e; exact ⟨(ok.z a h).1, by rw [upd_same]; intro z; cases z⟩
  ·exact ⟨(ok.z a h).1, by rw [upd_ne e]; exact (ok.z a h).2⟩
theorem ok_out (ok : Ok K (rsv Z D) m H) : Ok K Z m H := by
 refine ⟨fun a c h => ?_, fun a h => ok.z a (.inl h)⟩; obtain ⟨o, h1, h2⟩ := ok.g a c h; exact ⟨o, h1, h2.lift fun p v q => RP.tr (fun _ _ q => q) (fun a vs q1 q2 => ⟨⟨q1.1, fun z => q1.2 (.inl z)⟩, q2⟩) p v q⟩
theorem ext_inner (e : Ext K Z m1 H1 m H) (hD : H1 D = none) (hk : K.lookup D = none) (e2 : Ext K (rsv Z D) m H m' H') : Ext K Z m1 H1 m' H' :=
 ⟨fun a vs h => e2.t a vs (e.t a vs h), fun a vs h1 h2 => let ⟨q1, q2⟩ := e.l a vs h1 h2; e2.l a vs ⟨q1, fun z => z.elim h1.2 (SqL.ne hD hk h2)⟩ q2, fun a h => (e2.z a (.inl h)).trans (e.z a h), fun a h => e2.c a (e.c a h), fun a o u h => e2.fz a o u (e.fz a o u h), fun a h => by
  have q := e.fm a h
  rw [e2.fm a (by rw [q]; exact h), q], fun a vs h1 h2 => e2.ll a vs ⟨(e.l a vs h1 (.inl (.inl h2))).1, fun z => z.elim h1.2 fun q => by rw [q, hD] at h2; cases h2⟩ (e.ll a vs h1 h2)⟩
theorem ext_put2 (e : Ext K Z m1 H1 m H) (ok1 : Ok K Z m1 H1) (hD : H1 D = none) (hk : K.lookup D = none) (hH : H D = some (.lst ys)) : Ext K Z m1 H1 m (upd H D (.lst zs)) :=
 ⟨fun a vs h => tr_put_t hH a vs (e.t a vs h), fun a vs h1 h2 => let ⟨q1, q2⟩ := e.l a vs h1 h2; ⟨q1, sql_put (SqL.ne hD hk h2) q2⟩, fun a h => by
  have ne : a ≠ D := by rintro rfl; exact (ok1.z a h).2 hD
  rw [upd_ne ne]; exact e.z a h, e.c, fun a o u h => by
  have q := e.fz a o u h
  rw [upd_ne (by rintro rfl; rw [hH] at q; cases q)]
  exact q, e.fm, fun a vs h1 h2 => by rw [upd_ne (by rintro rfl; rw [hD] at h2; cases h2)]; exact e.ll a vs h1 h2⟩
end
def loopC (g : DG) (t : DT) (f : DE) : List D → List PyData → St2 → Mu → (List PyData → Mu → Prop) → Prop
 | [], acc, _, m, Q => Q acc m
 | x :: xs, acc, d, m, Q => g x d m fun d1 m1 => t d1 m1 fun b m2 => if b = true then f d1 m2 fun y m3 => ∃ p, y = .dat p ∧ acc.length < sizeLine ∧ loopC g t f xs (acc ++ [p]) d1 m3 Q else loopC g t f xs acc d1 m2 Q
def srcOf {α : Type} (src : List (Option Nat)) (d : List (Option α)) : List (Option α) := src.map fun o => o.bind fun j => (d[j]?).join
@[simp] def dLC (src : List (Option Nat)) (fi : DI) (g : DG) (t : DT) (f : DE) : DE := fun d m Q => fi d m fun xs m1 => loopC g t f xs [] (srcOf src d) m1 fun ps m2 => Q (.dat (.list ps)) m2
def PF (Y : Cx) (ifs : List Expr) (t : TT) : Prop := ∀ (pins : List (Addr × Obj)) (s : Shared) (σ : L2.St) (H : Hp) (Q : Bool → Hp → Prop), Inv Y pins σ H s → t σ H Q →
 wpAny (model Y.prog Y.w) Y.A (forIn ifs true fun c r => if r = true then do let ok ← isTrue c Y.env (eval c Y.env); pure (ForInStep.yield ok) else pure (ForInStep.yield r)) (TP Y pins σ Q) Y.xe s
@[simp] def dTrue : DT := fun _ m Q => Q true m
theorem pf_nil {Y : Cx} : PF Y [] (LT Y.K dTrue) := fun pins s σ H Q I h => by
 obtain ⟨Z, d, m, R, ok, rs, h, k⟩ := h; exact wpAny_tests_nil ⟨H, I, k true m H h Ext.refl ok⟩
theorem pf_one {Y : Cx} {c : Expr} {t : TT} (h : PT Y c t) : PF Y [c] t := fun pins s σ H Q I q => wpAny_tests_one (h pins s σ H Q I q)
theorem rs_src {K : PySem.W.Frag} {Z : Addr → Prop} {m : Mu} {H : Hp} {d : St2} {σ : L2.St} (src : List (Option Nat)) (rs : RS K Z m H d σ) : RS K Z m H (srcOf src d) (srcOf src σ) := by
 refine ⟨by unfold srcOf; rw [List.length_map, List.length_map], fun i x h => ?_⟩
 unfold srcOf at h ⊢; rw [List.getElem?_map] at h ⊢
 cases e : src[i]? with
 | none => rw [e] at h; cases h
 | some o =>
  rw [e] at h
  cases o with
  | none => cases h
  | some j =>
   have h' : (d[j]?).join = some x := Option.some.inj h
   cases ej : d[j]? with
   | none => rw [ej] at h'; cases h'
   | some w =>
    rw [ej] at h'; have h2 : w = some x := h'
    subst h2; obtain ⟨v, q1, q2⟩ := rs.2 j x ej; exact ⟨v, by rw [Option.map_some, Option.bind_some, q1]; rfl, q2⟩
theorem srcOf_get {α : Type} {src : List (Option Nat)} {d : List (Option α)} {i : Nat} {v : α} (h : (srcOf src d)[i]? = some (some v)) : ∃ j : Nat, src[i]? = some (some j) ∧ d[j]? = some (some v) := by
 unfold srcOf at h; rw [List.getElem?_map] at h
 cases e : src[i]? with
 | none => rw [e] at h; cases h
 | some o =>
  rw [e] at h
  cases o with
  | none => cases h
  | some j =>
   have h' : (d[j]?).join = some v := Option.some.inj h
   cases ej : d[j]? with
   | none => rw [ej] at h'; cases h'
   | some w =>
    rw [ej] at h'; have h2 : w = some v := h'
    subst h2; exact ⟨j, rfl, ej⟩
end DL
namespace DL
open PySem PySem.Spec PyProof.Rows L2
theorem rd_cross {K : PySem.W.Frag} {Z : Addr → Prop} {m1 m' : Mu} {H1 H' : Hp} {D : Addr} {x : DL.D} {v : V} (hD : H1 D = none) (hk : K.lookup D = none) (e : Ext K Z m1 H1 m' H') (h : RD K Z m1 H1 x v) : RD K (rsv Z D) m' H' x v := by
 cases x with
 | dat p => exact RP.tr e.t (fun a vs h1 h2 => let ⟨q1, q2⟩ := e.l a vs h1 h2; ⟨⟨q1, fun z => z.elim h1.2 (SqL.ne hD hk h2)⟩, q2⟩) p v h
 | cel a => exact ⟨h.1, e.c a h.2⟩
section
variable {X : Cx} {tg iter elt : Expr} {ifs : List Expr} {scope : Scope} {NC : List Str} {fi : DI} {g : DG} {t : DT} {f : DE} {pos : Pos}
def srcChk (X : Cx) (scope : Scope) (NC : List Str) (src : List (Option Nat)) : Prop := NC.length = src.length ∧ ∀ (i : Nat) (x : Str) (j : Nat), NC[i]? = some x → src[i]? = some (some j) → X.N[j]? = some x ∧ (x, NameKind.free) ∈ scope.names ∧
 ((relabel scope X.env).names.lookup x = some .cell ∨ (relabel scope X.env).names.lookup x = some .free)
structure Off (X : Cx) (pins : List (Addr × Obj)) (H : Hp) (C : Addr) : Prop where
 h : H C = none
 l : C ≠ X.env.locals
 s : X.s₀.heap.objs.size ≤ C
 c : ∀ x c, X.env.cells.lookup x = some c → c ≠ C
 p : ∀ p ∈ X.pn ++ pins, p.1 ≠ C
theorem Off.inv {pins : List (Addr × Obj)} {σ : L2.St} {H : Hp} {s : Shared} {C : Addr} {h' : Heap} (o : Off X pins H C) (I : Inv X pins σ H s) (hs : Heap.SameBut C s.heap h') : Inv X pins σ H { s with heap := h' } :=
 I.turned (t' := s.toks) (it := C) (fun b ob hb e => (hs.2 b hb).trans e) o.h o.l (.inr o.s) o.c o.p
def YieldsE (K : PySem.W.Frag) (Z : Addr → Prop) (m : Mu) (H : Hp) (xs : List D) (J : It) : Prop := ∀ m2 H2, Ext K Z m H m2 H2 →
 (∀ (i : Nat) (x : D), xs[i]? = some x → J.go i H2 ∧ ∀ v H3, J.yld i H2 v H3 → Yld K Z m H x v H2 H3) ∧ J.stop xs.length H2
theorem lc_coreL {wi : TI} (src : List (Option Nat)) (hc : X.calm = true) (hi : PI X tg iter wi)
  (hg : ∀ cl C s2 H2 pins fp, PG (cyOf X scope cl C NC s2 H2 pins fp) tg (LG X.K g)) (ht : ∀ cl C s2 H2 pins fp, PF (cyOf X scope cl C NC s2 H2 pins fp) ifs (LT X.K t)) (he : ∀ cl C s2 H2 pins fp, PE (cyOf X scope cl C NC s2 H2 pins fp) elt (LE X.K f))
  (hkind : scope.kind = .function) (hcell : ∀ y ∈ scope.names, y.2 ≠ .cell) (hnames : ∀ y ∈ scope.names, y.2 = .local → scope.names.lookup y.1 = some .local)
  (hfree : ∀ x, (x, NameKind.free) ∈ scope.names → X.env.kindOf x = some .cell ∨ X.env.kindOf x = some .free) (hsrc : srcChk X scope NC src)
  (hs : ∀ x, foldedSetIterable iter X.env x = pure x) {use : Option (Value → Sem Unit)} {QQ : Value → Shared → Prop} {pos' : Pos} {pins : List (Addr × Obj)} {s : Shared} {σ : L2.St} {H : Hp} {Z : Addr → Prop} {d : St2} {m : Mu} {RL : List PyData → Mu → Prop}
  (I : Inv X pins σ H s) (ok : Ok X.K Z m H) (rs : RS X.K Z m H d σ) (h : wi σ H fun J H1 => ∃ xs m1, Ext X.K Z m H m1 H1 ∧ Ok X.K Z m1 H1 ∧ YieldsE X.K Z m1 H1 xs J ∧ loopC g t f xs [] (srcOf src d) m1 RL)
  (fin : ∀ (s5 : Shared) (C D : Addr) (H' : Hp) (m' : Mu) (ps : List PyData), RL ps m' → Ext X.K Z m H m' H' → Ok X.K Z m' H' → RD X.K Z m' H' (.dat (.list ps)) (.ref D) → (∃ mm, s5.heap.Ns C mm) → Inv X pins σ H' s5 → Off X pins H' C → (m' D = none ∧ Ext X.K Z m H (updM m' D (.l ps)) H' ∧ Ok X.K Z (updM m' D (.l ps)) H') →
   compPost (model X.prog X.w) X.A X.xe use QQ (.ref D) C (.ok .next) s5) :
  wpAny (model X.prog X.w) X.A (comprehension (.ListComp elt [⟨tg, iter, ifs, 0⟩] scope pos) scope X.env pos' (newList []) false (eval iter X.env) use) QQ X.xe s := by
 obtain ⟨cl, hclos, hcl1, hcl2⟩ := closure_of (scope := scope) (env := X.env) fun x hx => I.ok.has x (hfree x hx); refine wpAny_comprehension_free (use := use) rfl hs hclos hkind hnames ?_; refine thn (hi pins s σ H _ I h) fun xv s₁ h₁ => thn h₁ fun itv s₂ h₂ => ?_; obtain ⟨it, fp, tn, J, H2, eit, I2, T, st2, f2, xs, m1, e1, ok1, yl, lp⟩ := h₂; subst eit; refine wpAny_newObj_type (wpAny_newFunctionEnv hcell (by intro y hy; simp at hy) (fun h₁ hns₁ hsb₁ => ?_) hkind)
 dsimp only at hns₁ hsb₁ ⊢
 generalize hH2 : s₂.heap.push { cls := .type "list", dict := none, data := .seq ([] : List Value).toArray } = HP at hns₁ hsb₁ ⊢
 have hC : HP.objs.size = s₂.heap.objs.size + 1 := by rw [← hH2, Heap.size_push]
 have leC : s₂.heap.objs.size ≤ HP.objs.size := by rw [hC]; exact Nat.le_succ _
 have old : ∀ b o, s₂.heap.get? b = some o → h₁.get? b = some o := fun b o e => hsb₁.extBut b o (Nat.ne_of_lt (Nat.lt_of_lt_of_le (Heap.lt_size e) leC)) (Heap.get?_push_of_some _ (hH2 ▸ Heap.get?_push_of_some _ e))
 have hacc : h₁.get? s₂.heap.objs.size = some { cls := .type "list", data := .seq ([] : List Value).toArray } := hsb₁.extBut _ _ (by rw [hC]; exact Nat.ne_of_lt (Nat.lt_succ_self _)) (Heap.get?_push_of_some _ (hH2 ▸ Heap.get?_push_size _ rfl))
 have hD : H2 s₂.heap.objs.size = none := I2.hok.fresh (Nat.le_refl _)
 have hkD : X.K.lookup s₂.heap.objs.size = none := by
  cases e : X.K.lookup s₂.heap.objs.size with
  | none => rfl
  | some o => exact absurd (Heap.lt_size (I2.kIn _ o e)) (Nat.lt_irrefl _)
 have obf : ∀ b ∈ fp, ∃ o, s₂.heap.get? b = some o ∧ ∀ v, o.data ≠ .cell v := T.obj 0 _ st2
 have hσ : ∀ (i : Nat) (x : Str) (v : V), NC[i]? = some x → (srcOf src σ)[i]? = some (some v) → Vis (relabel scope X.env) x → ((relabel scope X.env).names.lookup x = some .cell ∨ (relabel scope X.env).names.lookup x = some .free) ∧ (X.env.kindOf x = some .cell ∨ X.env.kindOf x = some .free) ∧ ∃ j : Nat, X.N[j]? = some x ∧ σ[j]? = some (some v) := fun i x v h1 h2 _ => by
  obtain ⟨j, q1, q2⟩ := srcOf_get h2; obtain ⟨a1, a2, a3⟩ := hsrc.2 i x j h1 q1; exact ⟨a3, hfree x a2, j, a1, q2⟩
 have I4 := fun tk => cy_start (cl := cl) (NC := NC) (σ' := srcOf src σ) (tk := tk) I2 f2 obf hkind hcell hcl1 hcl2 (by unfold srcOf; rw [List.length_map]; exact hsrc.1.symm) hσ hC hns₁ old hacc
 have st4 : tn 0 h₁ := T.keep 0 _ _ st2 fun b _ o e => old b o e
 -- the loop
 have loop : ∀ s₃ : Shared, s₃ = { s₂ with heap := h₁, toks := s₂.toks + ([] : List (Str × Value)).length } →
   codeAny (model X.prog X.w) X.A (.compLoop (.ListComp elt [⟨tg, iter, ifs, 0⟩] scope pos) 0 (.ref it) (.ref s₂.heap.objs.size) (compEnvC scope cl HP.objs.size X.env))
    (compPost (model X.prog X.w) X.A X.xe use QQ (.ref s₂.heap.objs.size) HP.objs.size) s₃ := by
  rintro s₃ rfl; refine comp_loop (fun n s' => ∃ (i : Nat) (ys : List V) (acc : List PyData) (d' : St2) (m' : Mu) (σ' : L2.St) (H' : Hp), n = xs.length - i ∧ i ≤ xs.length ∧ Inv (cyOf X scope cl HP.objs.size NC s₂ H2 pins fp) [] σ' H' s' ∧ tn i s'.heap ∧ (∀ b ∈ fp, H' b = none) ∧
   H' s₂.heap.objs.size = some (.lst ys) ∧ RPs X.K (rsv Z s₂.heap.objs.size) m' H' acc ys ∧ Ext X.K Z m1 H2 m' H' ∧ Ok X.K (rsv Z s₂.heap.objs.size) m' H' ∧ RS X.K (rsv Z s₂.heap.objs.size) m' H' d' σ' ∧
   loopC g t f (xs.drop i) acc d' m' RL) ?_ xs.length ?_
  rotate_left
  ·have rs1 : RS X.K Z m1 H2 (srcOf src d) (srcOf src σ) := rs_src src (rs.ext e1)
   refine ⟨0, [], [], srcOf src d, m1, srcOf src σ, _, by simp, Nat.zero_le _, I4 _, st4, fun b hb => ?_, upd_same, by simp [RPs], ok1.ext (same_new hD), ok_new ok1 hD hkD, ⟨rs1.1, fun i x hx => ?_⟩, by simpa using lp⟩
   ·obtain ⟨o, ho, _⟩ := obf b hb; rw [upd_ne (Nat.ne_of_lt (Heap.lt_size ho))]; exact (f2 b hb).1
   ·obtain ⟨v, q1, q2⟩ := rs1.2 i x hx; exact ⟨v, q1, rd_new hD hkD q2⟩
  rintro n s4 ⟨i, ys, acc, d', m', σ', H', rfl, hi', I5, st5, fr5, hDy, racc, eX, ok5, rs5, lp5⟩; have stat : ∀ b ∈ fp, FpOk (cyOf X scope cl HP.objs.size NC s₂ H2 pins fp) [] H' b := fun b hb => by
   obtain ⟨g0, g1, g2, g3, g4, g5⟩ := f2 b hb; obtain ⟨o, ho, _⟩ := obf b hb; refine ⟨fr5 b hb, Nat.ne_of_lt (Nat.lt_of_lt_of_le (Heap.lt_size ho) leC), fun z => ?_, .inl hb, fun x c e => g4 x c (hcl1 (x, c) (mem_of_lookup' e)), fun p hp => ?_⟩
   ·rcases List.mem_cons.mp (I2.stkSub b z) with q | q
    ·exact g1 q
    ·exact g2 q
   ·rcases List.mem_append.mp hp with q | q
    ·exact g5 p q
    ·cases q
  obtain ⟨y1, y2⟩ := yl m' H' eX
  by_cases hlt : i < xs.length
  ·rw [List.drop_eq_getElem_cons hlt] at lp5; obtain ⟨go, yd⟩ := y1 i xs[i] (List.getElem?_eq_getElem hlt); refine thn (T.item (cyOf X scope cl HP.objs.size NC s₂ H2 pins fp) rfl rfl rfl hc i [] s4 σ' H' (fun _ _ => False) I5 stat st5 go) fun r s5 hq0 => ?_; obtain ⟨u, hr, h5⟩ := hq0; subst hr; refine thn h5 fun _ s6 hq0 => ?_; obtain ⟨x, H6, I6, r6, yy, st6, fr6⟩ := hq0; have yy' := yd x H6 yy
   have e56 : Ext X.K (rsv Z s₂.heap.objs.size) m' H' m' H6 := ok5.ext yy'.same
   have rv := yy'.rd (fun d v h => rd_cross hD hkD eX h) ok5
   have hDy := yy'.same _ _ hDy
   have racc := RPs.ext e56 _ _ racc
   have eX := ext_inner eX hD hkD e56
   have rs5 := rs5.ext e56
   have ok5 := ok5.grow yy'.same
   have stat : ∀ b ∈ fp, FpOk (cyOf X scope cl HP.objs.size NC s₂ H2 pins fp) [] H6 b := fun b hb => ⟨fr6 b hb, (stat b hb).2⟩
   have I6' := I6.pinned stat (T.obj _ _ st6)
   -- what stands when a turn is over
   have over : ∀ {s7 : Shared} {σ7 : L2.St} {H7 : Hp} {ys7 : List V} {acc7 : List PyData} {d7 : St2} {m7 : Mu}, Inv (cyOf X scope cl HP.objs.size NC s₂ H2 pins fp) ([] ++ pinsAt fp s6.heap) σ7 H7 s7 → H7 s₂.heap.objs.size = some (.lst ys7) → RPs X.K (rsv Z s₂.heap.objs.size) m7 H7 acc7 ys7 →
     Ext X.K Z m1 H2 m7 H7 → Ok X.K (rsv Z s₂.heap.objs.size) m7 H7 → RS X.K (rsv Z s₂.heap.objs.size) m7 H7 d7 σ7 → (loopC g t f (xs.drop (i + 1)) acc7 d7 m7 RL) →
     ∃ n, n < xs.length - i ∧ ∃ (i : Nat) (ys : List V) (acc : List PyData) (d' : St2) (m' : Mu) (σ' : L2.St) (H' : Hp), n = xs.length - i ∧ i ≤ xs.length ∧ Inv (cyOf X scope cl HP.objs.size NC s₂ H2 pins fp) [] σ' H' s7 ∧ tn i s7.heap ∧ (∀ b ∈ fp, H' b = none) ∧
      H' s₂.heap.objs.size = some (.lst ys) ∧ RPs X.K (rsv Z s₂.heap.objs.size) m' H' acc ys ∧ Ext X.K Z m1 H2 m' H' ∧ Ok X.K (rsv Z s₂.heap.objs.size) m' H' ∧ RS X.K (rsv Z s₂.heap.objs.size) m' H' d' σ' ∧
      loopC g t f (xs.drop i) acc d' m' RL := by
    intro s7 σ7 H7 ys7 acc7 d7 m7 I7 a1 a2 a3 a4 a5 a6; refine ⟨xs.length - (i + 1), by omega, i + 1, ys7, acc7, d7, m7, σ7, H7, rfl, hlt, I7.unpinned, T.keep _ _ _ st6 fun b hb o e => (I7.pin (b, o) (List.mem_append_right _ (List.mem_append_right _ (mem_pinsAt hb e)))).1, fun b hb => ?_, a1, a2, a3, a4, a5, a6⟩
    obtain ⟨o, e, dd⟩ := T.obj _ _ st6 b hb; exact (I7.pin (b, o) (List.mem_append_right _ (List.mem_append_right _ (mem_pinsAt hb e)))).2.1
   refine thn (hg cl _ s₂ H2 pins fp _ s6 σ' _ x u (fun σ7 H7 => ∃ d7 m7, Ext X.K (rsv Z s₂.heap.objs.size) m' H6 m7 H7 ∧ Ok X.K (rsv Z s₂.heap.objs.size) m7 H7 ∧ RS X.K (rsv Z s₂.heap.objs.size) m7 H7 d7 σ7 ∧
    t d7 m7 fun b m2 => if b = true then f d7 m2 fun y m3 => ∃ p, y = .dat p ∧ acc.length < sizeLine ∧ loopC g t f (xs.drop (i + 1)) (acc ++ [p]) d7 m3 RL else loopC g t f (xs.drop (i + 1)) acc d7 m2 RL) I6' r6
    ⟨_, xs[i], d', m', _, ok5, rs5, rv, lp5, fun d7 m7 σ7 H7 q7 e7 ok7 rs7 => ⟨d7, m7, e7, ok7, rs7, q7⟩⟩) fun _ s7 hq0 => ?_
   obtain ⟨σ7, H7, I7, d7, m7, e7, ok7, rs7, q7⟩ := hq0; refine thn (ht cl _ s₂ H2 pins fp _ s7 σ7 H7 (fun b H8 => ∃ m8, Ext X.K (rsv Z s₂.heap.objs.size) m7 H7 m8 H8 ∧ Ok X.K (rsv Z s₂.heap.objs.size) m8 H8 ∧
    if b = true then f d7 m8 fun y m3 => ∃ p, y = .dat p ∧ acc.length < sizeLine ∧ loopC g t f (xs.drop (i + 1)) (acc ++ [p]) d7 m3 RL else loopC g t f (xs.drop (i + 1)) acc d7 m8 RL) I7
    ⟨_, d7, m7, _, ok7, rs7, q7, fun b m8 H8 q8 e8 ok8 => ⟨m8, e8, ok8, q8⟩⟩) fun b s8 hq0 => ?_
   obtain ⟨H8, I8, m8, e8, ok8, q8⟩ := hq0; have e68 := e7.trans e8
   have hD8 : H8 s₂.heap.objs.size = some (.lst ys) := (e68.z _ (.inr rfl)).trans hDy
   cases b with
   | false =>
    rw [if_neg Bool.false_ne_true] at q8; exact over I8 hD8 (RPs.ext e68 _ _ racc) (ext_inner eX hD hkD e68) ok8 (rs7.ext e8) q8
   | true =>
    rw [if_pos rfl] at q8; refine thn (he cl _ s₂ H2 pins fp _ s8 σ7 H8 (fun v H9 => ∃ p m9, RP X.K (rsv Z s₂.heap.objs.size) m9 H9 p v ∧ Ext X.K (rsv Z s₂.heap.objs.size) m8 H8 m9 H9 ∧ Ok X.K (rsv Z s₂.heap.objs.size) m9 H9 ∧ acc.length < sizeLine ∧ loopC g t f (xs.drop (i + 1)) (acc ++ [p]) d7 m9 RL) I8
     ⟨_, d7, m8, _, ok8, rs7.ext e8, q8, fun y m9 v H9 hq1 e9 ok9 r9 => by
      obtain ⟨p, ey, hz, q9⟩ := hq1; subst ey; exact ⟨p, m9, r9, e9, ok9, hz, q9⟩⟩) fun yv s9 hq0 => ?_
    obtain ⟨y, H9, I9, ry, p, m9, rp9, e9, ok9, hz, q9⟩ := hq0; have e69 := e68.trans e9
    have hD9 : H9 s₂.heap.objs.size = some (.lst ys) := (e69.z _ (.inr rfl)).trans hDy
    have racc9 := RPs.ext e69 _ _ racc
    have rs9 := (rs7.ext e8).ext e9
    refine thn (mt_append _ s9 σ7 H9 (.ref s₂.heap.objs.size) [y] (.ref s₂.heap.objs.size) [yv] (fun v H10 => H10 = upd H9 s₂.heap.objs.size (.lst (ys ++ [y]))) I9 rfl (.cons ry .nil) ⟨_, ys, y, rfl, rfl, hD9, by rw [racc9.length]; exact hz, rfl⟩) fun rv s10 hq0 => ?_
    obtain ⟨v10, H10, I10, _, e10⟩ := hq0; subst e10; refine over I10 upd_same ?_ (ext_put2 (ext_inner eX hD hkD e69) ok1 hD hkD hD9) (ok_put2 ok9 hD9) ⟨rs9.1, fun j z hj => ?_⟩ q9
    ·exact RPs.tr (tr_put_t hD9) tr_put_l _ _ (racc9.append (by simp only [RPs]; exact ⟨y, [], rfl, rp9, rfl⟩))
    ·obtain ⟨v, a1, a2⟩ := rs9.2 j z hj; exact ⟨v, a1, rd_put hD9 a2⟩
  ·have e : i = xs.length := by omega
   subst e; rw [List.drop_length] at lp5; refine thn (T.done (cyOf X scope cl HP.objs.size NC s₂ H2 pins fp) rfl rfl rfl hc _ [] s4 σ' H' (fun _ _ => False) I5 stat st5 y2) fun r s5 hq0 => ?_; obtain ⟨hr, I6⟩ := hq0; subst hr; have IX := cy_end I2 f2 I6 leC (Heap.SameBut.refl _ _)
   have nz : ¬ Z s₂.heap.objs.size := fun z => (ok1.z _ z).2 hD
   refine fin s5 HP.objs.size s₂.heap.objs.size H' m' acc lp5 (e1.trans eX) (ok_out ok5) ?_ ⟨_, I6.loc.choose_spec.1⟩ IX ⟨I6.free, Nat.ne_of_gt (Nat.lt_of_lt_of_le I2.lt leC), Nat.le_trans I2.sz leC, fun x c e => ?_, fun p hp => ?_⟩ ⟨(ok5.z _ (.inr rfl)).1, ?_, ?_⟩
   ·simp only [RD, RP]; exact ⟨_, ys, rfl, ⟨(ok5.z _ (.inr rfl)).1, nz⟩, .inl (.inl hDy), RPs.tr (fun _ _ q => q) (fun a vs q1 q2 => ⟨⟨q1.1, fun z => q1.2 (.inl z)⟩, q2⟩) _ _ racc⟩
   ·obtain ⟨v, q⟩ := I2.cell x c e; exact Nat.ne_of_lt (Nat.lt_of_lt_of_le q.lt leC)
   ·exact Nat.ne_of_lt (Nat.lt_of_lt_of_le (Heap.lt_size (I2.pin p hp).1) leC)
   ·refine ⟨fun a vs q => (e1.trans eX).t a vs q, fun a vs q1 q2 => ?_, fun a q => (e1.trans eX).z a q, fun a q => ?_, (e1.trans eX).fz, fun a q => ?_, (e1.trans eX).ll⟩
    ·obtain ⟨_, q3⟩ := e1.l a vs q1 q2; have ne := SqL.ne hD hkD q3
     obtain ⟨q4, q5⟩ := (e1.trans eX).l a vs q1 q2; exact ⟨by rw [updM_ne ne]; exact q4, q5⟩
    ·by_cases ea : a = s₂.heap.objs.size
     ·subst ea; rw [updM_same]; rfl
     ·rw [updM_ne ea]; exact (e1.trans eX).c a q
    ·have fq := (e1.trans eX).fm a q
     have ne : a ≠ s₂.heap.objs.size := by
      rintro rfl; rw [(ok5.z _ (.inr rfl)).1] at fq; rw [← fq] at q
      cases q
     rw [updM_ne ne]; exact fq
   ·have tr : ∀ (a : Addr) (vs : List V), (m' a = none ∧ ¬ rsv Z s₂.heap.objs.size a) → SqL X.K H' a vs → (updM m' s₂.heap.objs.size (.l acc) a = none ∧ ¬ Z a) ∧ SqL X.K H' a vs := fun a vs q1 q2 => ⟨⟨by rw [updM_ne fun z => q1.2 (.inr z)]; exact q1.1, fun z => q1.2 (.inl z)⟩, q2⟩
    refine ⟨fun a c q => ?_, fun a q => ?_⟩
    ·by_cases ea : a = s₂.heap.objs.size
     ·subst ea; rw [updM_same] at q
      cases q
      exact ⟨_, hDy, RPs.tr (fun _ _ q => q) tr _ _ racc⟩
     ·rw [updM_ne ea] at q; obtain ⟨o, q1, q2⟩ := ok5.g a c q; exact ⟨o, q1, q2.lift fun p v q3 => RP.tr (fun _ _ q => q) tr p v q3⟩
    ·have ne : a ≠ s₂.heap.objs.size := fun z => nz (z ▸ q)
     obtain ⟨q1, q2⟩ := ok5.z a (.inl q); exact ⟨by rw [updM_ne ne]; exact q1, q2⟩
 exact codeAny_compStart_list (loop _ rfl) (T.self _ 0 _ _ _ st4 (loop _ rfl))
theorem lc_core (src : List (Option Nat)) (hc : X.calm = true) (hi : PI X tg iter (LI X.K fi))
  (hg : ∀ cl C s2 H2 pins fp, PG (cyOf X scope cl C NC s2 H2 pins fp) tg (LG X.K g)) (ht : ∀ cl C s2 H2 pins fp, PF (cyOf X scope cl C NC s2 H2 pins fp) ifs (LT X.K t)) (he : ∀ cl C s2 H2 pins fp, PE (cyOf X scope cl C NC s2 H2 pins fp) elt (LE X.K f))
  (hkind : scope.kind = .function) (hcell : ∀ y ∈ scope.names, y.2 ≠ .cell) (hnames : ∀ y ∈ scope.names, y.2 = .local → scope.names.lookup y.1 = some .local)
  (hfree : ∀ x, (x, NameKind.free) ∈ scope.names → X.env.kindOf x = some .cell ∨ X.env.kindOf x = some .free) (hsrc : srcChk X scope NC src)
  (hs : ∀ x, foldedSetIterable iter X.env x = pure x) {use : Option (Value → Sem Unit)} {QQ : Value → Shared → Prop} {pos' : Pos} {pins : List (Addr × Obj)} {s : Shared} {σ : L2.St} {H : Hp} {Z : Addr → Prop} {d : St2} {m : Mu} {RL : List PyData → Mu → Prop}
  (I : Inv X pins σ H s) (ok : Ok X.K Z m H) (rs : RS X.K Z m H d σ) (h : fi d m fun xs m1 => loopC g t f xs [] (srcOf src d) m1 RL)
  (fin : ∀ (s5 : Shared) (C D : Addr) (H' : Hp) (m' : Mu) (ps : List PyData), RL ps m' → Ext X.K Z m H m' H' → Ok X.K Z m' H' → RD X.K Z m' H' (.dat (.list ps)) (.ref D) → (∃ mm, s5.heap.Ns C mm) → Inv X pins σ H' s5 → Off X pins H' C → (m' D = none ∧ Ext X.K Z m H (updM m' D (.l ps)) H' ∧ Ok X.K Z (updM m' D (.l ps)) H') →
   compPost (model X.prog X.w) X.A X.xe use QQ (.ref D) C (.ok .next) s5) :
  wpAny (model X.prog X.w) X.A (comprehension (.ListComp elt [⟨tg, iter, ifs, 0⟩] scope pos) scope X.env pos' (newList []) false (eval iter X.env) use) QQ X.xe s :=
 lc_coreL src hc hi hg ht he hkind hcell hnames hfree hsrc hs I ok rs ⟨Z, d, m, _, ok, rs, h, fun xs m1 H1 J q e1 ok1 y1 => ⟨xs, m1, e1, ok1, fun m2 H2 e => y1 m2 H2 e.y, q⟩⟩ fin
theorem le_lc (src : List (Option Nat)) (hc : X.calm = true) (hi : PI X tg iter (LI X.K fi))
  (hg : ∀ cl C s2 H2 pins fp, PG (cyOf X scope cl C NC s2 H2 pins fp) tg (LG X.K g)) (ht : ∀ cl C s2 H2 pins fp, PF (cyOf X scope cl C NC s2 H2 pins fp) ifs (LT X.K t)) (he : ∀ cl C s2 H2 pins fp, PE (cyOf X scope cl C NC s2 H2 pins fp) elt (LE X.K f))
  (hkind : scope.kind = .function) (hcell : ∀ y ∈ scope.names, y.2 ≠ .cell) (hnames : ∀ y ∈ scope.names, y.2 = .local → scope.names.lookup y.1 = some .local)
  (hfree : ∀ x, (x, NameKind.free) ∈ scope.names → X.env.kindOf x = some .cell ∨ X.env.kindOf x = some .free) (hsrc : srcChk X scope NC src)
  (hs : ∀ x, foldedSetIterable iter X.env x = pure x := by intro _; rfl) :
  PE X (.ListComp elt [⟨tg, iter, ifs, 0⟩] scope pos) (LE X.K (dLC src fi g t f)) := by
 intro pins s σ H Q I h; obtain ⟨Z, d, m, R, ok, rs, h, k⟩ := h; rw [eval_ListComp]; refine lc_core src hc hi hg ht he hkind hcell hnames hfree hsrc hs (use := none) (QQ := EP X pins σ Q) (RL := fun ps m2 => R (.dat (.list ps)) m2) I ok rs h ?_; intro s5 C D H' m' ps q e ok' rd ⟨mm, hns⟩ I5 off hcl; exact ⟨mm, hns, fun h' hs' => ⟨.ref D, H', off.inv I5 hs', rfl, k _ m' _ H' q e ok' rd⟩⟩
theorem ls_lc (i : Nat) {y : Str} {py spos : Pos} (src : List (Option Nat)) (hc : X.calm = true) (hi : PI X tg iter (LI X.K fi))
  (hg : ∀ cl C s2 H2 pins fp, PG (cyOf X scope cl C NC s2 H2 pins fp) tg (LG X.K g)) (ht : ∀ cl C s2 H2 pins fp, PF (cyOf X scope cl C NC s2 H2 pins fp) ifs (LT X.K t)) (he : ∀ cl C s2 H2 pins fp, PE (cyOf X scope cl C NC s2 H2 pins fp) elt (LE X.K f))
  (hkind : scope.kind = .function) (hcell : ∀ y ∈ scope.names, y.2 ≠ .cell) (hnames : ∀ y ∈ scope.names, y.2 = .local → scope.names.lookup y.1 = some .local)
  (hfree : ∀ x, (x, NameKind.free) ∈ scope.names → X.env.kindOf x = some .cell ∨ X.env.kindOf x = some .free) (hsrc : srcChk X scope NC src)
  (hN : X.N.Nodup) (hi2 : X.N[i]? = some y := by rfl) (hx : Loc X.env.scope y := by first | exact Or.inl rfl | exact Or.inr rfl) (hf : X.fn y = true ∨ X.env.scope.names.lookup y = some .local := by first | exact .inl rfl | exact .inr rfl)
  (hsw : swapsWith (.ListComp elt [⟨tg, iter, ifs, 0⟩] scope pos) (some (.Name y py)) spos.line X.env = pure true := by rfl)
  (hs : ∀ x, foldedSetIterable iter X.env x = pure x := by intro _; rfl) :
  PS X (.Assign [.Name y py] (.ListComp elt [⟨tg, iter, ifs, 0⟩] scope pos) spos) (LS X.K (dSet i (dLC src fi g t f))) := by
 intro pins s σ H E I h; obtain ⟨Z, d, m, R, ok, rs, h, k, _⟩ := h; rw [exec_Assign_Name_used _ _ _ _ hsw]; refine wpAny_bind (wpAny_standAt (wpAny_bind ?_)); rw [arm_evalThenUse_ListComp]; refine wpAny_bind ?_; refine thn (lc_core src hc hi hg ht he hkind hcell hnames hfree hsrc hs (use := some (assign (.Name y py) X.env)) (QQ := fun _ s' => SP X pins E .next s') (RL := fun ps m2 => R.nx (d.set i (some (.dat (.list ps)))) m2) I ok rs h ?_) (fun _ s' q => wpAny_pure (wpAny_pure q)); intro s5 C D H' m' ps q e ok' rd ⟨mm, hns⟩ I5 off hcl; show wpAny _ X.A (assign (.Name y py) X.env (.ref D)) _ _ s5
 refine wpAny_assign_Name (store_ok2 I5 hN hi2 hx (v := .ref D) rfl (fun s6 I6 ⟨a, hs6, ha⟩ => ?_) hf); have ne : C ≠ a := by
  rcases ha with rfl | ha
  ·exact off.l
  ·exact Ne.symm (off.c _ _ ha)
 refine ⟨mm, hns.sameBut hs6 ne, fun h' hs' => ?_⟩; exact ⟨_, H', off.inv I6 hs', k _ m' _ H' q e ok' ((rs.ext e).set rd)⟩
end
end DL
namespace DL
open PySem PySem.Spec PyProof.Rows L2
section
variable {prog : Program} {w : World} {A : Around} {E : Value → Shared → Prop} {s : Shared}
def IsRv (h : Heap) (a t : Addr) (i : Int) : Prop := ∃ o, h.get? a = some o ∧ o.cls = .type "reversed" ∧ o.data = .fields #[.ref t, rawInt i]
theorem IsRv.typeIs {a t : Addr} {i : Int} (x : IsRv s.heap a t i) : s.TypeIs (.ref a) "reversed" := let ⟨o, ho, hc, _⟩ := x; ⟨o, ho, hc⟩
end
end DL
namespace DL
open PySem PySem.Spec PyProof.Rows L2
section
variable {X : Cx} {a e o : Expr} {es : List Expr} {f g : DE} {ga : DA} {pos p p1 p2 : Pos}
theorem rps_strs {K : PySem.W.Frag} {Z : Addr → Prop} {m : Mu} {H : Hp} : ∀ {zs : List Str} {vs : List V}, RPs K Z m H (zs.map PyData.str) vs → vs = zs.map V.str
 | [], vs, h => by simpa [RPs] using h
 | z :: zs, vs, h => by
  simp only [List.map_cons, RPs] at h; obtain ⟨v, r, rfl, h1, h2⟩ := h; simp only [RP] at h1; subst h1; rw [rps_strs h2]; rfl
theorem strs_rps {K : PySem.W.Frag} {Z : Addr → Prop} {m : Mu} {H : Hp} : ∀ (zs : List Str), RPs K Z m H (zs.map PyData.str) (zs.map V.str)
 | [] => by simp [RPs]
 | z :: zs => by
  simp only [List.map_cons, RPs]; exact ⟨_, _, rfl, by simp only [RP], strs_rps zs⟩
def KT (K : PySem.W.Frag) (a : Addr) (zs : List Str) : Prop := ∃ (o : Obj) (its : Array Value) (n : Nat), K.lookup a = some o ∧ o.cls = .type "tuple" ∧ o.dict = none ∧ o.data = .seq its n ∧ its.size ≤ sizeLine ∧ Vals (zs.map V.str) its.toList
theorem KT.sq {K : PySem.W.Frag} {a : Addr} {zs : List Str} {H : Hp} (h : KT K a zs) : SqT K H a (zs.map V.str) := by
 obtain ⟨o, its, n, h1, h2, h3, h4, h5, h6⟩ := h; exact .inr ⟨o, its, n, h1, ⟨h2, h3⟩, h4, h5, h6⟩
@[simp] def aNotIn : D2
 | .dat (.str x), .dat (.list ys), m, Q => ∃ zs : List Str, ys = zs.map .str ∧ Q (.dat (.bool (!decide (x ∈ zs)))) m
 | .dat (.str x), .dat (.tuple ys), m, Q => ∃ zs : List Str, ys = zs.map .str ∧ Q (.dat (.bool (!decide (x ∈ zs)))) m
 | .dat (.bool x), .dat (.list ys), m, Q => ∃ zs : List Bool, ys = zs.map .bool ∧ Q (.dat (.bool (!decide (x ∈ zs)))) m
 | .dat (.bool x), .dat (.tuple ys), m, Q => ∃ zs : List Bool, ys = zs.map .bool ∧ Q (.dat (.bool (!decide (x ∈ zs)))) m
 | .dat (.int x), .dat (.list ys), m, Q => ∃ zs : List Int, ys = zs.map .int ∧ Q (.dat (.bool (!decide (x ∈ zs)))) m
 | .dat (.int x), .dat (.tuple ys), m, Q => ∃ zs : List Int, ys = zs.map .int ∧ Q (.dat (.bool (!decide (x ∈ zs)))) m
 | _, _, _, _ => False
theorem inV_strs (x : Str) : ∀ zs : List Str, inV (.str x) (zs.map V.str) = decide (x ∈ zs)
 | [] => rfl
 | z :: zs => by
  have ih := inV_strs x zs
  unfold inV at ih ⊢; rw [List.map_cons, List.any_cons, ih]; show (z == x || decide (x ∈ zs)) = decide (x ∈ z :: zs)
  rw [Bool.eq_iff_iff]; simp only [Bool.or_eq_true, beq_iff_eq, decide_eq_true_eq, List.mem_cons]; exact ⟨fun h => h.imp Eq.symm id, fun h => h.imp Eq.symm id⟩
theorem flat_strs (zs : List Str) : (zs.map V.str).all flatV = true := by
 rw [List.all_eq_true]; intro v hv; obtain ⟨z, _, rfl⟩ := List.mem_map.mp hv; rfl
theorem inV_bools (x : Bool) : ∀ zs : List Bool, inV (.bl x) (zs.map V.bl) = decide (x ∈ zs)
 | [] => rfl
 | z :: zs => by
  have ih := inV_bools x zs
  unfold inV at ih ⊢; rw [List.map_cons, List.any_cons, ih]; show (z == x || decide (x ∈ zs)) = decide (x ∈ z :: zs)
  rw [Bool.eq_iff_iff]; simp only [Bool.or_eq_true, beq_iff_eq, decide_eq_true_eq, List.mem_cons]; exact ⟨fun h => h.imp Eq.symm id, fun h => h.imp Eq.symm id⟩
theorem flat_bools (zs : List Bool) : (zs.map V.bl).all flatV = true := by
 rw [List.all_eq_true]; intro v hv; obtain ⟨z, _, rfl⟩ := List.mem_map.mp hv; rfl
theorem rps_bools' {K : PySem.W.Frag} {Z : Addr → Prop} {m : Mu} {H : Hp} : ∀ {zs : List Bool} {vs : List V}, RPs K Z m H (zs.map PyData.bool) vs → vs = zs.map V.bl
 | [], vs, h => by simpa [RPs] using h
 | z :: zs, vs, h => by
  simp only [List.map_cons, RPs] at h; obtain ⟨v, r, rfl, h1, h2⟩ := h; simp only [RP] at h1; subst h1; rw [rps_bools' h2]; rfl
theorem inV_ints (x : Int) : ∀ zs : List Int, inV (.int x) (zs.map V.int) = decide (x ∈ zs)
 | [] => rfl
 | z :: zs => by
  have ih := inV_ints x zs
  unfold inV at ih ⊢; rw [List.map_cons, List.any_cons, ih]; show (z == x || decide (x ∈ zs)) = decide (x ∈ z :: zs)
  rw [Bool.eq_iff_iff]; simp only [Bool.or_eq_true, beq_iff_eq, decide_eq_true_eq, List.mem_cons]; exact ⟨fun h => h.imp Eq.symm id, fun h => h.imp Eq.symm id⟩
theorem flat_ints (zs : List Int) : (zs.map V.int).all flatV = true := by
 rw [List.all_eq_true]; intro v hv; obtain ⟨z, _, rfl⟩ := List.mem_map.mp hv; rfl
theorem rps_ints' {K : PySem.W.Frag} {Z : Addr → Prop} {m : Mu} {H : Hp} : ∀ {zs : List Int} {vs : List V}, RPs K Z m H (zs.map PyData.int) vs → vs = zs.map V.int
 | [], vs, h => by simpa [RPs] using h
 | z :: zs, vs, h => by
  simp only [List.map_cons, RPs] at h; obtain ⟨v, r, rfl, h1, h2⟩ := h; simp only [RP] at h1; subst h1; rw [rps_ints' h2]; rfl
theorem od_notin : OpD X (compareOp .NotIn) aNotIn := by
 intro pins s σ H Z m x y dx dy v u R Q I ok rx ry r1 r2 h k; unfold aNotIn at h
 split at h
 ·obtain ⟨zs, rfl, q⟩ := h
  cases r1.str
  simp only [RD, RP] at r2; obtain ⟨a, vs, rfl, _, h1, h2⟩ := r2
  cases rps_strs h2
  refine op_notIn_seq pins s σ H _ _ v u Q I rx ry ⟨a, _, rfl, .inl h1, rfl, flat_strs zs, ?_⟩; rw [if_pos rfl, inV_strs]; exact k _ m _ H q Ext.refl ok .ofBl
 ·obtain ⟨zs, rfl, q⟩ := h
  cases r1.str
  simp only [RD, RP] at r2; obtain ⟨a, vs, rfl, h1, h2⟩ := r2
  cases rps_strs h2
  refine op_notIn_seq pins s σ H _ _ v u Q I rx ry ⟨a, _, rfl, .inr h1, rfl, flat_strs zs, ?_⟩; rw [if_pos rfl, inV_strs]; exact k _ m _ H q Ext.refl ok .ofBl
 ·obtain ⟨zs, rfl, q⟩ := h
  cases r1.bl
  simp only [RD, RP] at r2; obtain ⟨a, vs, rfl, _, h1, h2⟩ := r2
  cases rps_bools' h2
  refine op_notIn_seq pins s σ H _ _ v u Q I rx ry ⟨a, _, rfl, .inl h1, rfl, flat_bools zs, ?_⟩; rw [if_pos rfl, inV_bools]; exact k _ m _ H q Ext.refl ok .ofBl
 ·obtain ⟨zs, rfl, q⟩ := h
  cases r1.bl
  simp only [RD, RP] at r2; obtain ⟨a, vs, rfl, h1, h2⟩ := r2
  cases rps_bools' h2
  refine op_notIn_seq pins s σ H _ _ v u Q I rx ry ⟨a, _, rfl, .inr h1, rfl, flat_bools zs, ?_⟩; rw [if_pos rfl, inV_bools]; exact k _ m _ H q Ext.refl ok .ofBl
 ·obtain ⟨zs, rfl, q⟩ := h
  cases r1.int
  simp only [RD, RP] at r2; obtain ⟨a, vs, rfl, _, h1, h2⟩ := r2
  cases rps_ints' h2
  refine op_notIn_seq pins s σ H _ _ v u Q I rx ry ⟨a, _, rfl, .inl h1, rfl, flat_ints zs, ?_⟩; rw [if_pos rfl, inV_ints]; exact k _ m _ H q Ext.refl ok .ofBl
 ·obtain ⟨zs, rfl, q⟩ := h
  cases r1.int
  simp only [RD, RP] at r2; obtain ⟨a, vs, rfl, h1, h2⟩ := r2
  cases rps_ints' h2
  refine op_notIn_seq pins s σ H _ _ v u Q I rx ry ⟨a, _, rfl, .inr h1, rfl, flat_ints zs, ?_⟩; rw [if_pos rfl, inV_ints]; exact k _ m _ H q Ext.refl ok .ofBl
 ·exact h.elim
@[simp] def bTuple : DC
 | [.dat (.tuple xs)], m, Q => Q (.dat (.tuple xs)) m
 | [.dat (.list xs)], m, Q => Q (.dat (.tuple xs)) m
 | [.cel c], m, Q => ∃ xs, m c = some (.l xs) ∧ Q (.dat (.tuple xs)) m
 | _, _, _ => False
theorem cd_tuple : CallD X (.type "tuple") bTuple := by
 intro pins s σ H Z m xs ds us R Q I ok rv rd h k; unfold bTuple at h
 split at h
 ·obtain ⟨v, rfl, r1⟩ := rd.one; have r0 := r1
  simp only [RD, RP] at r1; obtain ⟨a, vs, rfl, h1, h2⟩ := r1; exact call_tuple_of pins s σ H _ us Q I rv ⟨a, vs, rfl, .inr ⟨h1, k _ m _ H h Ext.refl ok r0⟩⟩
 ·obtain ⟨v, rfl, r1⟩ := rd.one; simp only [RD, RP] at r1; obtain ⟨a, vs, rfl, _, h1, h2⟩ := r1; refine call_tuple_of pins s σ H _ us Q I rv ⟨a, vs, rfl, .inl ⟨h1, fun l hl => ?_⟩⟩; have sm : Same H (upd H l (.tup vs)) := same_new hl
  refine k _ m _ _ h (ok.ext sm) (ok.grow sm) ?_; simp only [RD, RP]; exact ⟨l, vs, rfl, .inl (.inl upd_same), RPs.ext (ok.ext sm) _ _ h2⟩
 ·obtain ⟨v, rfl, r1⟩ := rd.one; obtain ⟨rfl, _⟩ := r1; obtain ⟨ys, hm, q⟩ := h; obtain ⟨vs, h1, h2⟩ := ok.l hm; refine call_tuple_of pins s σ H _ us Q I rv ⟨_, vs, rfl, .inl ⟨.inl (.inl h1), fun l hl => ?_⟩⟩; have sm : Same H (upd H l (.tup vs)) := same_new hl
  refine k _ m _ _ q (ok.ext sm) (ok.grow sm) ?_; simp only [RD, RP]; exact ⟨l, vs, rfl, .inl (.inl upd_same), RPs.ext (ok.ext sm) _ _ h2⟩
 ·exact h.elim
end
end DL
namespace DL
open PySem PySem.Spec PyProof.Rows L2
def chkB (scope : Scope) (env : Env) : Bool := scope.names.all fun y => (decide (y.2 ≠ .cell)) && (!decide (y.2 = .local) || decide (scope.names.lookup y.1 = some .local)) && (!decide (y.2 = .free) || decide (env.kindOf y.1 = some .cell) || decide (env.kindOf y.1 = some .free))
def chkS (N : List Str) (scope : Scope) (env : Env) : List Str → List (Option Nat) → Bool
 | [], [] => true
 | x :: xs, o :: os => (match o with | none => true | some j => decide (N[j]? = some x) && decide ((x, NameKind.free) ∈ scope.names) && (decide ((relabel scope env).names.lookup x = some .cell) || decide ((relabel scope env).names.lookup x = some .free))) && chkS N scope env xs os
 | _, _ => false
theorem chkB.ok {scope : Scope} {env : Env} (h : chkB scope env = true) : (∀ y ∈ scope.names, y.2 ≠ .cell) ∧ (∀ y ∈ scope.names, y.2 = .local → scope.names.lookup y.1 = some .local) ∧ ∀ x, (x, NameKind.free) ∈ scope.names → env.kindOf x = some .cell ∨ env.kindOf x = some .free := by
 unfold chkB at h; rw [List.all_eq_true] at h; have q : ∀ y ∈ scope.names, y.2 ≠ .cell ∧ (y.2 = .local → scope.names.lookup y.1 = some .local) ∧ (y.2 = .free → env.kindOf y.1 = some .cell ∨ env.kindOf y.1 = some .free) := fun y hy => by
  have := h y hy
  simp only [Bool.and_eq_true, Bool.or_eq_true, Bool.not_eq_true', decide_eq_true_eq, decide_eq_false_iff_not] at this; obtain ⟨⟨a, b⟩, c⟩ := this; refine ⟨a, fun e => b.resolve_left (fun n => n e), fun e => ?_⟩; rcases c with (c | c) | c
  ·exact absurd e c
  ·exact .inl c
  ·exact .inr c
 exact ⟨fun y hy => (q y hy).1, fun y hy => (q y hy).2.1, fun x hx => (q _ hx).2.2 rfl⟩
theorem chkS.ok {X : Cx} {scope : Scope} : ∀ {NC : List Str} {src : List (Option Nat)}, chkS X.N scope X.env NC src = true → srcChk X scope NC src
 | [], [], _ => ⟨rfl, fun i x j h => by simp at h⟩
 | [], _ :: _, h => by simp [chkS] at h
 | _ :: _, [], h => by simp [chkS] at h
 | y :: ys, o :: os, h => by
  simp only [chkS, Bool.and_eq_true] at h; obtain ⟨h1, h2⟩ := h; obtain ⟨q1, q2⟩ := chkS.ok h2; refine ⟨by rw [List.length_cons, List.length_cons, q1], fun i x j e1 e2 => ?_⟩
  cases i with
  | zero =>
   simp at e1 e2; subst e1 e2; simp only [Bool.and_eq_true, Bool.or_eq_true, decide_eq_true_eq] at h1; exact ⟨h1.1.1, h1.1.2, h1.2⟩
  | succ i => exact q2 i x j (by simpa using e1) (by simpa using e2)
section
variable {X : Cx} {tg iter elt : Expr} {ifs : List Expr} {scope : Scope} {fi : DI} {g : DG} {t : DT} {f : DE} {pos : Pos}
theorem le_lcB (NC : List Str) (src : List (Option Nat)) (hc : X.calm = true) (hi : PI X tg iter (LI X.K fi))
  (hg : ∀ cl C s2 H2 pins fp, PG (cyOf X scope cl C NC s2 H2 pins fp) tg (LG X.K g)) (ht : ∀ cl C s2 H2 pins fp, PF (cyOf X scope cl C NC s2 H2 pins fp) ifs (LT X.K t)) (he : ∀ cl C s2 H2 pins fp, PE (cyOf X scope cl C NC s2 H2 pins fp) elt (LE X.K f))
  (hkind : scope.kind = .function := by rfl) (hB : chkB scope X.env = true := by rfl) (hS : chkS X.N scope X.env NC src = true := by rfl)
  (hs : ∀ x, foldedSetIterable iter X.env x = pure x := by intro _; rfl) : PE X (.ListComp elt [⟨tg, iter, ifs, 0⟩] scope pos) (LE X.K (dLC src fi g t f)) :=
 le_lc (NC := NC) src hc hi hg ht he hkind (chkB.ok hB).1 (chkB.ok hB).2.1 (chkB.ok hB).2.2 (chkS.ok hS) hs
theorem ls_lcB (i : Nat) {y : Str} {py spos : Pos} (NC : List Str) (src : List (Option Nat)) (hc : X.calm = true) (hN : X.N.Nodup) (hi : PI X tg iter (LI X.K fi))
  (hg : ∀ cl C s2 H2 pins fp, PG (cyOf X scope cl C NC s2 H2 pins fp) tg (LG X.K g)) (ht : ∀ cl C s2 H2 pins fp, PF (cyOf X scope cl C NC s2 H2 pins fp) ifs (LT X.K t)) (he : ∀ cl C s2 H2 pins fp, PE (cyOf X scope cl C NC s2 H2 pins fp) elt (LE X.K f))
  (hkind : scope.kind = .function := by rfl) (hB : chkB scope X.env = true := by rfl) (hS : chkS X.N scope X.env NC src = true := by rfl)
  (hi2 : X.N[i]? = some y := by rfl) (hx : Loc X.env.scope y := by first | exact Or.inl rfl | exact Or.inr rfl) (hf : X.fn y = true ∨ X.env.scope.names.lookup y = some .local := by first | exact .inl rfl | exact .inr rfl)
  (hsw : swapsWith (.ListComp elt [⟨tg, iter, ifs, 0⟩] scope pos) (some (.Name y py)) spos.line X.env = pure true := by rfl)
  (hs : ∀ x, foldedSetIterable iter X.env x = pure x := by intro _; rfl) : PS X (.Assign [.Name y py] (.ListComp elt [⟨tg, iter, ifs, 0⟩] scope pos) spos) (LS X.K (dSet i (dLC src fi g t f))) :=
 ls_lc (NC := NC) i src hc hi hg ht he hkind (chkB.ok hB).1 (chkB.ok hB).2.1 (chkB.ok hB).2.2 (chkS.ok hS) hN hi2 hx hf hsw hs
end
end DL
namespace DL
open PySem PySem.Spec PyProof.Rows L2
section
variable {prog : Program} {w : World} {A : Around} {R : Result → Shared → Prop} {s : Shared}
theorem compTurn_two0 (elt tg iter tg2 iter2 : Expr) (ifs ifs2 : List Expr) (scope : Scope) (pos : Pos) (it acc : Value) (env : Env) :
  compTurn (.ListComp elt [⟨tg, iter, ifs, 0⟩, ⟨tg2, iter2, ifs2, 0⟩] scope pos) 0 it acc env = (do
   standAt iter.pos
   match ← pyNext it with
   | none => pure (.done .next)
   | some v =>
    letOwnedTupleGo tg it v
    assign tg env v
    let mut ok := true
    for c in ifs do
     if ok then ok ← isTrue c env (eval c env)
    if ok then
     let x ← eval iter2 env
     standAt iter2.pos
     let x ← foldedSetIterable iter2 env x
     let _ ← runOwn (.compStart (.ListComp elt [⟨tg, iter, ifs, 0⟩, ⟨tg2, iter2, ifs2, 0⟩] scope pos) 1 (← holding [x] (pyIter x)) acc env) env
    again (.compLoop (.ListComp elt [⟨tg, iter, ifs, 0⟩, ⟨tg2, iter2, ifs2, 0⟩] scope pos) 0 it acc env)) := by rfl
theorem compTurn_two1 (elt tg iter tg2 iter2 : Expr) (ifs ifs2 : List Expr) (scope : Scope) (pos : Pos) (it acc : Value) (env : Env) :
  compTurn (.ListComp elt [⟨tg, iter, ifs, 0⟩, ⟨tg2, iter2, ifs2, 0⟩] scope pos) 1 it acc env = (do
   standAt iter2.pos
   match ← pyNext it with
   | none => pure (.done .next)
   | some v =>
    letOwnedTupleGo tg2 it v
    assign tg2 env v
    let mut ok := true
    for c in ifs2 do
     if ok then ok ← isTrue c env (eval c env)
    if ok then
     (do let _ ← call (.builtin "list.append") [acc, ← eval elt env])
    again (.compLoop (.ListComp elt [⟨tg, iter, ifs, 0⟩, ⟨tg2, iter2, ifs2, 0⟩] scope pos) 1 it acc env)) := by rfl
theorem start_two {elt tg iter tg2 iter2 : Expr} {ifs ifs2 : List Expr} {scope : Scope} {pos : Pos} {it acc : Value} {env : Env}
  (h0 : codeAny (model prog w) A (.compLoop (.ListComp elt [⟨tg, iter, ifs, 0⟩, ⟨tg2, iter2, ifs2, 0⟩] scope pos) 1 it acc env) R s)
  (h : wpAny (model prog w) A (pyIter it) (fun it' s' => codeAny (model prog w) A (.compLoop (.ListComp elt [⟨tg, iter, ifs, 0⟩, ⟨tg2, iter2, ifs2, 0⟩] scope pos) 1 it' acc env) R s')
   (notedBy (model prog w) A env fun x s' => R (.error x) s') s) :
  codeAny (model prog w) A (.compStart (.ListComp elt [⟨tg, iter, ifs, 0⟩, ⟨tg2, iter2, ifs2, 0⟩] scope pos) 1 it acc env) R s := by
 refine codeAny_of_tree ?_; show wpAny _ _ ((compStart (.ListComp elt [⟨tg, iter, ifs, 0⟩, ⟨tg2, iter2, ifs2, 0⟩] scope pos) 1 it acc env).onRaise (fun x => do noteFrame x env; standAt theWindowsPlace)) _ _ s
 refine wpAny_notedAt ?_; unfold compStart; show wpAny _ _ (ask >>= _) _ _ s
 refine wpAny_bind (wpAny_askSetting (wpAny_ite ?_))
 split
 ·first
   | exact wpAny_bind (wpAny_pure (wpAny_pure (And.intro rfl h0)))
   | exact wpAny_pure (And.intro rfl h0)
 ·first
   | exact wpAny_bind (wpAny_rule (wpAny_bind (wpAny_standAt (wpAny_bind (wpAny_mono h (fun it' s' h' => wpAny_pure (And.intro rfl h')) fun _ _ x => x)))))
   | (refine wpAny_bind (wpAny_rule ?_); show wpAny _ _ (standAt iter2.pos >>= _) _ _ s; exact wpAny_bind (wpAny_standAt (wpAny_bind (wpAny_mono h (fun it' s' h' => wpAny_pure (And.intro rfl h')) fun _ _ x => x))))
theorem loop_two0 {elt tg iter tg2 iter2 : Expr} {ifs ifs2 : List Expr} {scope : Scope} {pos : Pos} {it acc : Value} {env : Env} (I : Nat → Shared → Prop) (hs : ∀ x, foldedSetIterable iter2 env x = pure x)
  (turn : ∀ n s, I n s → wpAny (model prog w) A (pyNext it) (fun r s₁ => match r with
   | none => R (.ok .next) s₁
   | some v => wpAny (model prog w) A (letOwnedTupleGo tg it v) (fun _ s₀ => wpAny (model prog w) A (assign tg env v) (fun _ s₂ =>
     wpAny (model prog w) A (forIn ifs true fun c r => if r = true then do let ok ← isTrue c env (eval c env); pure (ForInStep.yield ok) else pure (ForInStep.yield r)) (fun ok s₃ =>
      if ok = true then wpAny (model prog w) A (eval iter2 env) (fun x s₄ =>
       wpAny (model prog w) A (pyIter x) (fun it2 s₅ => codeAny (model prog w) A (.compStart (.ListComp elt [⟨tg, iter, ifs, 0⟩, ⟨tg2, iter2, ifs2, 0⟩] scope pos) 1 it2 acc env) (fun r s₆ => r = .ok .next ∧ ∃ m, m < n ∧ I m s₆) s₅) (fun _ _ => False) s₄) (fun _ _ => False) s₃
      else ∃ m, m < n ∧ I m s₃) (fun _ _ => False) s₂) (fun _ _ => False) s₀) (fun _ _ => False) s₁) (fun _ _ => False) s)
  (n : Nat) (h : I n s) :
  codeAny (model prog w) A (.compLoop (.ListComp elt [⟨tg, iter, ifs, 0⟩, ⟨tg2, iter2, ifs2, 0⟩] scope pos) 0 it acc env) R s := by
 have ff : ∀ {E : Value → Shared → Prop} (x : Value) (s : Shared), False → E x s := fun _ _ z => z.elim
 refine codeAny_loop rfl I (fun n s hI => ?_) n h; show wpAny _ A ((compTurn (.ListComp elt [⟨tg, iter, ifs, 0⟩, ⟨tg2, iter2, ifs2, 0⟩] scope pos) 0 it acc env).onRaise (fun x => do noteFrame x env; theTreesLotGoes x)) _ _ s
 refine wpAny_noted ?_; rw [compTurn_two0]; refine wpAny_bind (wpAny_standAt (wpAny_bind (wpAny_mono (turn n s hI) (fun r s₁ h₁ => ?_) ff)))
 cases r with
 | none => exact wpAny_pure h₁
 | some v =>
  refine wpAny_bind (wpAny_mono h₁ (fun _ s₀ h₀ => ?_) ff); refine wpAny_bind (wpAny_mono h₀ (fun _ s₂ h₂ => wpAny_bind (wpAny_mono h₂ (fun ok s₃ h₃ => ?_) ff)) ff)
  cases ok with
  | true =>
   simp only [if_true] at h₃ ⊢; refine wpAny_bind (wpAny_mono h₃ (fun x s₄ h₄ => ?_) ff); refine wpAny_bind (wpAny_standAt (wpAny_bind (wpAny_of_eq (hs x) ?_))); refine wpAny_bind (wpAny_holding (wpAny_mono h₄ (fun it2 s₅ h₅ => ?_) ff)); refine wpAny_bind (wpAny_runOwn (codeAny_mono h₅ fun r s₆ ⟨hr, h₆⟩ => ?_)); subst hr; exact wpAny_pure ⟨rfl, h₆⟩
  | false =>
   simp only [Bool.false_eq_true, if_false] at h₃ ⊢; exact wpAny_pure ⟨rfl, h₃⟩
theorem loop_two1 {elt tg iter tg2 iter2 : Expr} {ifs ifs2 : List Expr} {scope : Scope} {pos : Pos} {it acc : Value} {env : Env} {E : Value → Shared → Prop} (hE : ∀ x s, E x s → False) (I : Nat → Shared → Prop)
  (turn : ∀ n s, I n s → wpAny (model prog w) A (pyNext it) (fun r s₁ => match r with
   | none => R (.ok .next) s₁
   | some v => wpAny (model prog w) A (letOwnedTupleGo tg2 it v) (fun _ s₀ => wpAny (model prog w) A (assign tg2 env v) (fun _ s₂ =>
     wpAny (model prog w) A (forIn ifs2 true fun c r => if r = true then do let ok ← isTrue c env (eval c env); pure (ForInStep.yield ok) else pure (ForInStep.yield r)) (fun ok s₃ =>
      if ok = true then wpAny (model prog w) A (eval elt env) (fun x s₄ =>
       wpAny (model prog w) A (call (.builtin "list.append") [acc, x]) (fun _ s₅ => ∃ m, m < n ∧ I m s₅) E s₄) E s₃
      else ∃ m, m < n ∧ I m s₃) E s₂) E s₀) E s₁) E s)
  (n : Nat) (h : I n s) :
  codeAny (model prog w) A (.compLoop (.ListComp elt [⟨tg, iter, ifs, 0⟩, ⟨tg2, iter2, ifs2, 0⟩] scope pos) 1 it acc env) R s := by
 have ff : ∀ {E' : Value → Shared → Prop} (x : Value) (s : Shared), E x s → E' x s := fun x s z => (hE x s z).elim
 refine codeAny_loop rfl I (fun n s hI => ?_) n h; show wpAny _ A ((compTurn (.ListComp elt [⟨tg, iter, ifs, 0⟩, ⟨tg2, iter2, ifs2, 0⟩] scope pos) 1 it acc env).onRaise (fun x => do noteFrame x env; theTreesLotGoes x)) _ _ s
 refine wpAny_noted ?_; rw [compTurn_two1]; refine wpAny_bind (wpAny_standAt (wpAny_bind (wpAny_mono (turn n s hI) (fun r s₁ h₁ => ?_) ff)))
 cases r with
 | none => exact wpAny_pure h₁
 | some v =>
  refine wpAny_bind (wpAny_mono h₁ (fun _ s₀ h₀ => ?_) ff); refine wpAny_bind (wpAny_mono h₀ (fun _ s₂ h₂ => wpAny_bind (wpAny_mono h₂ (fun ok s₃ h₃ => ?_) ff)) ff)
  cases ok with
  | true =>
   simp only [if_true] at h₃ ⊢; refine wpAny_bind (wpAny_bind (wpAny_mono h₃ (fun x s₄ h₄ => wpAny_bind (wpAny_mono h₄ (fun _ s₅ h₅ => wpAny_pure (wpAny_pure ⟨rfl, h₅⟩)) ff)) ff))
  | false =>
   simp only [Bool.false_eq_true, if_false] at h₃ ⊢; exact wpAny_pure ⟨rfl, h₃⟩
end
abbrev StepA := D → List PyData → St2 → Mu → (List PyData → St2 → Mu → Prop) → Prop
def loopA (st : StepA) : List D → List PyData → St2 → Mu → (List PyData → St2 → Mu → Prop) → Prop
 | [], acc, d, m, Q => Q acc d m
 | x :: xs, acc, d, m, Q => st x acc d m fun acc' d' m' => loopA st xs acc' d' m' Q
def stepI (g : DG) (t : DT) (f : DE) : StepA := fun x acc d m Q => g x d m fun d1 m1 => t d1 m1 fun b m2 => if b = true then f d1 m2 fun y m3 => ∃ p, y = .dat p ∧ acc.length < sizeLine ∧ Q (acc ++ [p]) d1 m3 else Q acc d1 m2
def stepO (g : DG) (t : DT) (fi2 : DI) (st : StepA) : StepA := fun x acc d m Q => g x d m fun d1 m1 => t d1 m1 fun b m2 => if b = true then fi2 d1 m2 fun ys m3 => loopA st ys acc d1 m3 Q else Q acc d1 m2
@[simp] def dLC2 (src : List (Option Nat)) (fi : DI) (g : DG) (t : DT) (fi2 : DI) (g2 : DG) (t2 : DT) (f : DE) : DE := fun d m Q => fi d m fun xs m1 => loopA (stepO g t fi2 (stepI g2 t2 f)) xs [] (srcOf src d) m1 fun ps _ m2 => Q (.dat (.list ps)) m2
structure ExtW (K : PySem.W.Frag) (Z : Addr → Prop) (D : Addr) (m : Mu) (H : Hp) (m' : Mu) (H' : Hp) : Prop where
 t : ∀ a vs, SqT K H a vs → SqT K H' a vs
 l : ∀ a vs, (m a = none ∧ ¬ rsv Z D a) → SqL K H a vs → m' a = none ∧ SqL K H' a vs
 z : ∀ a, Z a → H' a = H a
 c : ∀ a, (m a).isSome = true → (m' a).isSome = true
 fz : ∀ a o u, H a = some (.frz o u) → H' a = some (.frz o u)
 fm : ∀ a, isF (m a) = true → m' a = m a
 ll : ∀ a vs, (m a = none ∧ ¬ rsv Z D a) → H a = some (.lst vs) → H' a = some (.lst vs)
section
variable {K : PySem.W.Frag} {Z : Addr → Prop} {m m1 m' m2 : Mu} {H H1 H' H2 : Hp} {D : Addr} {ys zs : List V}
theorem ExtW.refl : ExtW K Z D m H m H := ⟨fun _ _ h => h, fun _ _ h1 h2 => ⟨h1.1, h2⟩, fun _ _ => rfl, fun _ h => h, fun _ _ _ h => h, fun _ _ => rfl, fun _ _ _ h => h⟩
theorem ExtW.y (e : ExtW K Z D m H m' H') : ExtY K (rsv Z D) m H m' H' := ⟨e.t, e.l, e.fz⟩
theorem ExtW.trans (a : ExtW K Z D m H m' H') (b : ExtW K Z D m' H' m2 H2) : ExtW K Z D m H m2 H2 :=
 ⟨fun x vs h => b.t x vs (a.t x vs h), fun x vs h1 h2 => let ⟨q1, q2⟩ := a.l x vs h1 h2; b.l x vs ⟨q1, h1.2⟩ q2, fun x h => (b.z x h).trans (a.z x h), fun x h => b.c x (a.c x h), fun x o u h => b.fz x o u (a.fz x o u h), fun x h => by
  have q := a.fm x h
  rw [b.fm x (by rw [q]; exact h), q], fun x vs h1 h2 => b.ll x vs ⟨(a.l x vs h1 (.inl (.inl h2))).1, h1.2⟩ (a.ll x vs h1 h2)⟩
theorem Ext.w (e : Ext K (rsv Z D) m H m' H') : ExtW K Z D m H m' H' := ⟨e.t, e.l, fun a h => e.z a (.inl h), e.c, e.fz, e.fm, e.ll⟩
theorem ExtW.put (hz : ¬ Z D) (hD : H D = some (.lst ys)) : ExtW K Z D m H m (upd H D (.lst zs)) :=
 ⟨tr_put_t hD, fun a vs h1 h2 => ⟨h1.1, sql_put (fun e => h1.2 (.inr e)) h2⟩, fun a h => by
  have ne : a ≠ D := by rintro rfl; exact hz h
  rw [upd_ne ne], fun _ h => h, fun a o u h => by
  rw [upd_ne (by rintro rfl; rw [hD] at h; cases h)]
  exact h, fun _ _ => rfl, fun a vs h1 h2 => by rw [upd_ne fun e => h1.2 (.inr e)]; exact h2⟩
theorem ExtW.rd {x : DL.D} {v : V} (e : ExtW K Z D m H m' H') (h : RD K (rsv Z D) m H x v) : RD K (rsv Z D) m' H' x v := by
 cases x with
 | dat p => exact RP.tr e.t (fun a vs h1 h2 => let ⟨q1, q2⟩ := e.l a vs h1 h2; ⟨⟨q1, h1.2⟩, q2⟩) p v h e.fz
 | cel a => exact ⟨h.1, e.c a h.2⟩
theorem ext_innerW (e : Ext K Z m1 H1 m H) (hD : H1 D = none) (hk : K.lookup D = none) (e2 : ExtW K Z D m H m' H') : Ext K Z m1 H1 m' H' :=
 ⟨fun a vs h => e2.t a vs (e.t a vs h), fun a vs h1 h2 => let ⟨q1, q2⟩ := e.l a vs h1 h2; e2.l a vs ⟨q1, fun z => z.elim h1.2 (SqL.ne hD hk h2)⟩ q2, fun a h => (e2.z a h).trans (e.z a h), fun a h => e2.c a (e.c a h), fun a o u h => e2.fz a o u (e.fz a o u h), fun a h => by
  have q := e.fm a h
  rw [e2.fm a (by rw [q]; exact h), q], fun a vs h1 h2 => e2.ll a vs ⟨(e.l a vs h1 (.inl (.inl h2))).1, fun z => z.elim h1.2 fun q => by rw [q, hD] at h2; cases h2⟩ (e.ll a vs h1 h2)⟩
end
section
variable {Y : Cx} {tg iter tg2 iter2 elt : Expr} {ifs ifs2 : List Expr} {scope : Scope} {fi2 : DI} {g2 : DG} {t2 : DT} {f : DE} {pos : Pos}
theorem inner_core (hc : Y.calm = true) (hx : ∀ x s, Y.xe x s → False) (hi : PI Y tg2 iter2 (LI Y.K fi2)) (hg : PG Y tg2 (LG Y.K g2)) (ht : PF Y ifs2 (LT Y.K t2)) (he : PE Y elt (LE Y.K f))
  {pins : List (Addr × Obj)} {s : Shared} {σ : L2.St} {H : Hp} {Z : Addr → Prop} {D : Addr} {acc : List PyData} {ys : List V} {d : St2} {m : Mu} {Q : List PyData → St2 → Mu → Prop}
  (I : Inv Y pins σ H s) (hz : ¬ Z D) (hD : H D = some (.lst ys)) (racc : RPs Y.K (rsv Z D) m H acc ys) (ok : Ok Y.K (rsv Z D) m H) (rs : RS Y.K (rsv Z D) m H d σ) (h : fi2 d m fun xs m1 => loopA (stepI g2 t2 f) xs acc d m1 Q) :
  wpAny (model Y.prog Y.w) Y.A (eval iter2 Y.env) (fun x s4 => wpAny (model Y.prog Y.w) Y.A (pyIter x) (fun it2 s5 => codeAny (model Y.prog Y.w) Y.A (.compStart (.ListComp elt [⟨tg, iter, ifs, 0⟩, ⟨tg2, iter2, ifs2, 0⟩] scope pos) 1 it2 (.ref D) Y.env)
   (fun r s6 => r = .ok .next ∧ ∃ σ' H' ys' acc' d' m', Inv Y pins σ' H' s6 ∧ H' D = some (.lst ys') ∧ RPs Y.K (rsv Z D) m' H' acc' ys' ∧ ExtW Y.K Z D m H m' H' ∧ Ok Y.K (rsv Z D) m' H' ∧ RS Y.K (rsv Z D) m' H' d' σ' ∧ Q acc' d' m') s5) Y.xe s4) Y.xe s := by
 refine thn (hi pins s σ H (fun J H1 => ∃ xs m1, Ext Y.K (rsv Z D) m H m1 H1 ∧ Ok Y.K (rsv Z D) m1 H1 ∧ Yields Y.K (rsv Z D) m1 H1 xs J ∧ loopA (stepI g2 t2 f) xs acc d m1 Q) I
  ⟨rsv Z D, d, m, _, ok, rs, h, fun xs m1 H1 J q e1 ok1 y1 => ⟨xs, m1, e1, ok1, y1, q⟩⟩) fun xv s₁ h₁ => thn h₁ fun itv s₂ h₂ => ?_
 obtain ⟨it, fp, tn, J, H2, eit, I2, T, st2, f2, xs, m1, e1, ok1, yl, lp⟩ := h₂; subst eit; have hD2 : H2 D = some (.lst ys) := (e1.z _ (.inr rfl)).trans hD
 have stat : ∀ {H' : Hp}, (∀ b ∈ fp, H' b = none) → ∀ b ∈ fp, FpOk Y pins H' b := fun hn b hb => ⟨hn b hb, (f2 b hb).2⟩
 have loop : codeAny (model Y.prog Y.w) Y.A (.compLoop (.ListComp elt [⟨tg, iter, ifs, 0⟩, ⟨tg2, iter2, ifs2, 0⟩] scope pos) 1 (.ref it) (.ref D) Y.env)
   (fun r s6 => r = .ok .next ∧ ∃ σ' H' ys' acc' d' m', Inv Y pins σ' H' s6 ∧ H' D = some (.lst ys') ∧ RPs Y.K (rsv Z D) m' H' acc' ys' ∧ ExtW Y.K Z D m H m' H' ∧ Ok Y.K (rsv Z D) m' H' ∧ RS Y.K (rsv Z D) m' H' d' σ' ∧ Q acc' d' m') s₂ := by
  refine loop_two1 hx (fun n s' => ∃ (i : Nat) (ys : List V) (acc : List PyData) (d' : St2) (m' : Mu) (σ' : L2.St) (H' : Hp), n = xs.length - i ∧ i ≤ xs.length ∧ Inv Y pins σ' H' s' ∧ tn i s'.heap ∧ (∀ b ∈ fp, H' b = none) ∧
   H' D = some (.lst ys) ∧ RPs Y.K (rsv Z D) m' H' acc ys ∧ ExtW Y.K Z D m1 H2 m' H' ∧ Ok Y.K (rsv Z D) m' H' ∧ RS Y.K (rsv Z D) m' H' d' σ' ∧
   loopA (stepI g2 t2 f) (xs.drop i) acc d' m' Q) ?_ xs.length ⟨0, ys, acc, d, m1, σ, H2, by simp, Nat.zero_le _, I2, st2, fun b hb => (f2 b hb).1, hD2, RPs.ext e1 _ _ racc, ExtW.refl, ok1, rs.ext e1, by simpa using lp⟩
  rintro n s4 ⟨i, ys, acc, d', m', σ', H', rfl, hi', I5, st5, fr5, hDy, racc, eX, ok5, rs5, lp5⟩; obtain ⟨y1, y2⟩ := yl m' H' eX.y
  by_cases hlt : i < xs.length
  ·rw [List.drop_eq_getElem_cons hlt] at lp5; obtain ⟨go, yd⟩ := y1 i xs[i] (List.getElem?_eq_getElem hlt); refine thn (T.item Y rfl rfl rfl hc i pins s4 σ' H' Y.xe I5 (stat fr5) st5 go) fun r s5 hq0 => ?_; obtain ⟨u, hr, h5⟩ := hq0; subst hr; refine thn h5 fun _ s6 hq0 => ?_; obtain ⟨x, H6, I6, r6, yy, st6, fr6⟩ := hq0; have yy' := yd x H6 yy
   have e56 : Ext Y.K (rsv Z D) m' H' m' H6 := ok5.ext yy'.same
   have rv := yy'.rd (fun d v h => eX.rd h) ok5
   have hDy := yy'.same _ _ hDy
   have racc := RPs.ext e56 _ _ racc
   have eX := eX.trans e56.w
   have rs5 := rs5.ext e56
   have ok5 := ok5.grow yy'.same
   have I6' := I6.pinned (stat fr6) (T.obj _ _ st6)
   have over : ∀ {s7 : Shared} {σ7 : L2.St} {H7 : Hp} {ys7 : List V} {acc7 : List PyData} {d7 : St2} {m7 : Mu}, Inv Y (pins ++ pinsAt fp s6.heap) σ7 H7 s7 → H7 D = some (.lst ys7) → RPs Y.K (rsv Z D) m7 H7 acc7 ys7 →
     ExtW Y.K Z D m1 H2 m7 H7 → Ok Y.K (rsv Z D) m7 H7 → RS Y.K (rsv Z D) m7 H7 d7 σ7 → (loopA (stepI g2 t2 f) (xs.drop (i + 1)) acc7 d7 m7 Q) →
     ∃ n, n < xs.length - i ∧ ∃ (i : Nat) (ys : List V) (acc : List PyData) (d' : St2) (m' : Mu) (σ' : L2.St) (H' : Hp), n = xs.length - i ∧ i ≤ xs.length ∧ Inv Y pins σ' H' s7 ∧ tn i s7.heap ∧ (∀ b ∈ fp, H' b = none) ∧
      H' D = some (.lst ys) ∧ RPs Y.K (rsv Z D) m' H' acc ys ∧ ExtW Y.K Z D m1 H2 m' H' ∧ Ok Y.K (rsv Z D) m' H' ∧ RS Y.K (rsv Z D) m' H' d' σ' ∧
      loopA (stepI g2 t2 f) (xs.drop i) acc d' m' Q := by
    intro s7 σ7 H7 ys7 acc7 d7 m7 I7 a1 a2 a3 a4 a5 a6; refine ⟨xs.length - (i + 1), by omega, i + 1, ys7, acc7, d7, m7, σ7, H7, rfl, hlt, I7.unpinned, T.keep _ _ _ st6 fun b hb o e => (I7.pin (b, o) (List.mem_append_right _ (List.mem_append_right _ (mem_pinsAt hb e)))).1, fun b hb => ?_, a1, a2, a3, a4, a5, a6⟩
    obtain ⟨o, e, dd⟩ := T.obj _ _ st6 b hb; exact (I7.pin (b, o) (List.mem_append_right _ (List.mem_append_right _ (mem_pinsAt hb e)))).2.1
   refine thn (hg _ s6 σ' _ x u (fun σ7 H7 => ∃ d7 m7, Ext Y.K (rsv Z D) m' H6 m7 H7 ∧ Ok Y.K (rsv Z D) m7 H7 ∧ RS Y.K (rsv Z D) m7 H7 d7 σ7 ∧
    t2 d7 m7 fun b m2 => if b = true then f d7 m2 fun y m3 => ∃ p, y = .dat p ∧ acc.length < sizeLine ∧ loopA (stepI g2 t2 f) (xs.drop (i + 1)) (acc ++ [p]) d7 m3 Q else loopA (stepI g2 t2 f) (xs.drop (i + 1)) acc d7 m2 Q) I6' r6
    ⟨_, xs[i], d', m', _, ok5, rs5, rv, lp5, fun d7 m7 σ7 H7 q7 e7 ok7 rs7 => ⟨d7, m7, e7, ok7, rs7, q7⟩⟩) fun _ s7 hq0 => ?_
   obtain ⟨σ7, H7, I7, d7, m7, e7, ok7, rs7, q7⟩ := hq0; refine thn (ht _ s7 σ7 H7 (fun b H8 => ∃ m8, Ext Y.K (rsv Z D) m7 H7 m8 H8 ∧ Ok Y.K (rsv Z D) m8 H8 ∧
    if b = true then f d7 m8 fun y m3 => ∃ p, y = .dat p ∧ acc.length < sizeLine ∧ loopA (stepI g2 t2 f) (xs.drop (i + 1)) (acc ++ [p]) d7 m3 Q else loopA (stepI g2 t2 f) (xs.drop (i + 1)) acc d7 m8 Q) I7
    ⟨_, d7, m7, _, ok7, rs7, q7, fun b m8 H8 q8 e8 ok8 => ⟨m8, e8, ok8, q8⟩⟩) fun b s8 hq0 => ?_
   obtain ⟨H8, I8, m8, e8, ok8, q8⟩ := hq0; have e68 := e7.trans e8
   have hD8 : H8 D = some (.lst ys) := (e68.z _ (.inr rfl)).trans hDy
   cases b with
   | false =>
    rw [if_neg Bool.false_ne_true] at q8; exact over I8 hD8 (RPs.ext e68 _ _ racc) (eX.trans e68.w) ok8 (rs7.ext e8) q8
   | true =>
    rw [if_pos rfl] at q8; refine thn (he _ s8 σ7 H8 (fun v H9 => ∃ p m9, RP Y.K (rsv Z D) m9 H9 p v ∧ Ext Y.K (rsv Z D) m8 H8 m9 H9 ∧ Ok Y.K (rsv Z D) m9 H9 ∧ acc.length < sizeLine ∧ loopA (stepI g2 t2 f) (xs.drop (i + 1)) (acc ++ [p]) d7 m9 Q) I8
     ⟨_, d7, m8, _, ok8, rs7.ext e8, q8, fun y m9 v H9 hq1 e9 ok9 r9 => by
      obtain ⟨p, ey, hz, q9⟩ := hq1; subst ey; exact ⟨p, m9, r9, e9, ok9, hz, q9⟩⟩) fun yv s9 hq0 => ?_
    obtain ⟨y, H9, I9, ry, p, m9, rp9, e9, ok9, hz9, q9⟩ := hq0; have e69 := e68.trans e9
    have hD9 : H9 D = some (.lst ys) := (e69.z _ (.inr rfl)).trans hDy
    have racc9 := RPs.ext e69 _ _ racc
    have rs9 := (rs7.ext e8).ext e9
    refine thn (mt_append _ s9 σ7 H9 (.ref D) [y] (.ref D) [yv] (fun v H10 => H10 = upd H9 D (.lst (ys ++ [y]))) I9 rfl (.cons ry .nil) ⟨_, ys, y, rfl, rfl, hD9, by rw [racc9.length]; exact hz9, rfl⟩) fun rv s10 hq0 => ?_
    obtain ⟨v10, H10, I10, _, e10⟩ := hq0; subst e10; refine over I10 upd_same ?_ ((eX.trans e69.w).trans (ExtW.put hz hD9)) (ok_put2 ok9 hD9) ⟨rs9.1, fun j z hj => ?_⟩ q9
    ·exact RPs.tr (tr_put_t hD9) tr_put_l _ _ (racc9.append (by simp only [RPs]; exact ⟨y, [], rfl, rp9, rfl⟩))
    ·obtain ⟨v, a1, a2⟩ := rs9.2 j z hj; exact ⟨v, a1, rd_put hD9 a2⟩
  ·have e : i = xs.length := by omega
   subst e; rw [List.drop_length] at lp5; refine thn (T.done Y rfl rfl rfl hc _ pins s4 σ' H' Y.xe I5 (stat fr5) st5 y2) fun r s5 hq0 => ?_; obtain ⟨hr, I6⟩ := hq0; subst hr; exact ⟨rfl, σ', H', ys, acc, d', m', I6, hDy, racc, (e1.w).trans eX, ok5, rs5, lp5⟩
 exact start_two loop (T.self _ 0 _ _ _ st2 loop)
end
end DL
namespace DL
open PySem PySem.Spec PyProof.Rows L2
section
variable {X : Cx} {tg iter tg2 iter2 elt : Expr} {ifs ifs2 : List Expr} {scope : Scope} {NC : List Str} {fi fi2 : DI} {g g2 : DG} {t t2 : DT} {f : DE} {pos : Pos}
theorem lc2_core (src : List (Option Nat)) (hc : X.calm = true) (hi : PI X tg iter (LI X.K fi))
  (hg : ∀ cl C s2 H2 pins fp, PG (cyOf X scope cl C NC s2 H2 pins fp) tg (LG X.K g)) (ht : ∀ cl C s2 H2 pins fp, PF (cyOf X scope cl C NC s2 H2 pins fp) ifs (LT X.K t)) (hi2 : ∀ cl C s2 H2 pins fp, PI (cyOf X scope cl C NC s2 H2 pins fp) tg2 iter2 (LI X.K fi2)) (hg2 : ∀ cl C s2 H2 pins fp, PG (cyOf X scope cl C NC s2 H2 pins fp) tg2 (LG X.K g2)) (ht2 : ∀ cl C s2 H2 pins fp, PF (cyOf X scope cl C NC s2 H2 pins fp) ifs2 (LT X.K t2))
  (he : ∀ cl C s2 H2 pins fp, PE (cyOf X scope cl C NC s2 H2 pins fp) elt (LE X.K f)) (hs2 : ∀ cl C x, foldedSetIterable iter2 (compEnvC scope cl C X.env) x = pure x)
  (hkind : scope.kind = .function) (hcell : ∀ y ∈ scope.names, y.2 ≠ .cell) (hnames : ∀ y ∈ scope.names, y.2 = .local → scope.names.lookup y.1 = some .local)
  (hfree : ∀ x, (x, NameKind.free) ∈ scope.names → X.env.kindOf x = some .cell ∨ X.env.kindOf x = some .free) (hsrc : srcChk X scope NC src)
  (hs : ∀ x, foldedSetIterable iter X.env x = pure x) {use : Option (Value → Sem Unit)} {QQ : Value → Shared → Prop} {pos' : Pos} {pins : List (Addr × Obj)} {s : Shared} {σ : L2.St} {H : Hp} {Z : Addr → Prop} {d : St2} {m : Mu} {RL : List PyData → Mu → Prop}
  (I : Inv X pins σ H s) (ok : Ok X.K Z m H) (rs : RS X.K Z m H d σ) (h : fi d m fun xs m1 => loopA (stepO g t fi2 (stepI g2 t2 f)) xs [] (srcOf src d) m1 (fun ps _ m2 => RL ps m2))
  (fin : ∀ (s5 : Shared) (C D : Addr) (H' : Hp) (m' : Mu) (ps : List PyData), RL ps m' → Ext X.K Z m H m' H' → Ok X.K Z m' H' → RD X.K Z m' H' (.dat (.list ps)) (.ref D) → (∃ mm, s5.heap.Ns C mm) → Inv X pins σ H' s5 → Off X pins H' C →
   compPost (model X.prog X.w) X.A X.xe use QQ (.ref D) C (.ok .next) s5) :
  wpAny (model X.prog X.w) X.A (comprehension (.ListComp elt [⟨tg, iter, ifs, 0⟩, ⟨tg2, iter2, ifs2, 0⟩] scope pos) scope X.env pos' (newList []) false (eval iter X.env) use) QQ X.xe s := by
 obtain ⟨cl, hclos, hcl1, hcl2⟩ := closure_of (scope := scope) (env := X.env) fun x hx => I.ok.has x (hfree x hx); refine wpAny_comprehension_free (use := use) rfl hs hclos hkind hnames ?_; refine thn (hi pins s σ H (fun J H1 => ∃ xs m1, Ext X.K Z m H m1 H1 ∧ Ok X.K Z m1 H1 ∧ Yields X.K Z m1 H1 xs J ∧ loopA (stepO g t fi2 (stepI g2 t2 f)) xs [] (srcOf src d) m1 (fun ps _ m2 => RL ps m2)) I
  ⟨Z, d, m, _, ok, rs, h, fun xs m1 H1 J q e1 ok1 y1 => ⟨xs, m1, e1, ok1, y1, q⟩⟩) fun xv s₁ h₁ => thn h₁ fun itv s₂ h₂ => ?_
 obtain ⟨it, fp, tn, J, H2, eit, I2, T, st2, f2, xs, m1, e1, ok1, yl, lp⟩ := h₂; subst eit; refine wpAny_newObj_type (wpAny_newFunctionEnv hcell (by intro y hy; simp at hy) (fun h₁ hns₁ hsb₁ => ?_) hkind)
 dsimp only at hns₁ hsb₁ ⊢
 generalize hH2 : s₂.heap.push { cls := .type "list", dict := none, data := .seq ([] : List Value).toArray } = HP at hns₁ hsb₁ ⊢
 have hC : HP.objs.size = s₂.heap.objs.size + 1 := by rw [← hH2, Heap.size_push]
 have leC : s₂.heap.objs.size ≤ HP.objs.size := by rw [hC]; exact Nat.le_succ _
 have old : ∀ b o, s₂.heap.get? b = some o → h₁.get? b = some o := fun b o e => hsb₁.extBut b o (Nat.ne_of_lt (Nat.lt_of_lt_of_le (Heap.lt_size e) leC)) (Heap.get?_push_of_some _ (hH2 ▸ Heap.get?_push_of_some _ e))
 have hacc : h₁.get? s₂.heap.objs.size = some { cls := .type "list", data := .seq ([] : List Value).toArray } := hsb₁.extBut _ _ (by rw [hC]; exact Nat.ne_of_lt (Nat.lt_succ_self _)) (Heap.get?_push_of_some _ (hH2 ▸ Heap.get?_push_size _ rfl))
 have hD : H2 s₂.heap.objs.size = none := I2.hok.fresh (Nat.le_refl _)
 have hkD : X.K.lookup s₂.heap.objs.size = none := by
  cases e : X.K.lookup s₂.heap.objs.size with
  | none => rfl
  | some o => exact absurd (Heap.lt_size (I2.kIn _ o e)) (Nat.lt_irrefl _)
 have obf : ∀ b ∈ fp, ∃ o, s₂.heap.get? b = some o ∧ ∀ v, o.data ≠ .cell v := T.obj 0 _ st2
 have hσ : ∀ (i : Nat) (x : Str) (v : V), NC[i]? = some x → (srcOf src σ)[i]? = some (some v) → Vis (relabel scope X.env) x → ((relabel scope X.env).names.lookup x = some .cell ∨ (relabel scope X.env).names.lookup x = some .free) ∧ (X.env.kindOf x = some .cell ∨ X.env.kindOf x = some .free) ∧ ∃ j : Nat, X.N[j]? = some x ∧ σ[j]? = some (some v) := fun i x v h1 h2 _ => by
  obtain ⟨j, q1, q2⟩ := srcOf_get h2; obtain ⟨a1, a2, a3⟩ := hsrc.2 i x j h1 q1; exact ⟨a3, hfree x a2, j, a1, q2⟩
 have I4 := fun tk => cy_start (cl := cl) (NC := NC) (σ' := srcOf src σ) (tk := tk) I2 f2 obf hkind hcell hcl1 hcl2 (by unfold srcOf; rw [List.length_map]; exact hsrc.1.symm) hσ hC hns₁ old hacc
 have st4 : tn 0 h₁ := T.keep 0 _ _ st2 fun b _ o e => old b o e
 -- the loop
 have loop : ∀ s₃ : Shared, s₃ = { s₂ with heap := h₁, toks := s₂.toks + ([] : List (Str × Value)).length } →
   codeAny (model X.prog X.w) X.A (.compLoop (.ListComp elt [⟨tg, iter, ifs, 0⟩, ⟨tg2, iter2, ifs2, 0⟩] scope pos) 0 (.ref it) (.ref s₂.heap.objs.size) (compEnvC scope cl HP.objs.size X.env))
    (compPost (model X.prog X.w) X.A X.xe use QQ (.ref s₂.heap.objs.size) HP.objs.size) s₃ := by
  rintro s₃ rfl; refine loop_two0 (hs := fun x => hs2 _ _ x) (fun n s' => ∃ (i : Nat) (ys : List V) (acc : List PyData) (d' : St2) (m' : Mu) (σ' : L2.St) (H' : Hp), n = xs.length - i ∧ i ≤ xs.length ∧ Inv (cyOf X scope cl HP.objs.size NC s₂ H2 pins fp) [] σ' H' s' ∧ tn i s'.heap ∧ (∀ b ∈ fp, H' b = none) ∧
   H' s₂.heap.objs.size = some (.lst ys) ∧ RPs X.K (rsv Z s₂.heap.objs.size) m' H' acc ys ∧ Ext X.K Z m1 H2 m' H' ∧ Ok X.K (rsv Z s₂.heap.objs.size) m' H' ∧ RS X.K (rsv Z s₂.heap.objs.size) m' H' d' σ' ∧
   loopA (stepO g t fi2 (stepI g2 t2 f)) (xs.drop i) acc d' m' (fun ps _ m2 => RL ps m2)) ?_ xs.length ?_
  rotate_left
  ·have rs1 : RS X.K Z m1 H2 (srcOf src d) (srcOf src σ) := rs_src src (rs.ext e1)
   refine ⟨0, [], [], srcOf src d, m1, srcOf src σ, _, by simp, Nat.zero_le _, I4 _, st4, fun b hb => ?_, upd_same, by simp [RPs], ok1.ext (same_new hD), ok_new ok1 hD hkD, ⟨rs1.1, fun i x hx => ?_⟩, by simpa using lp⟩
   ·obtain ⟨o, ho, _⟩ := obf b hb; rw [upd_ne (Nat.ne_of_lt (Heap.lt_size ho))]; exact (f2 b hb).1
   ·obtain ⟨v, q1, q2⟩ := rs1.2 i x hx; exact ⟨v, q1, rd_new hD hkD q2⟩
  rintro n s4 ⟨i, ys, acc, d', m', σ', H', rfl, hi', I5, st5, fr5, hDy, racc, eX, ok5, rs5, lp5⟩; have stat : ∀ b ∈ fp, FpOk (cyOf X scope cl HP.objs.size NC s₂ H2 pins fp) [] H' b := fun b hb => by
   obtain ⟨g0, g1, g2, g3, g4, g5⟩ := f2 b hb; obtain ⟨o, ho, _⟩ := obf b hb; refine ⟨fr5 b hb, Nat.ne_of_lt (Nat.lt_of_lt_of_le (Heap.lt_size ho) leC), fun z => ?_, .inl hb, fun x c e => g4 x c (hcl1 (x, c) (mem_of_lookup' e)), fun p hp => ?_⟩
   ·rcases List.mem_cons.mp (I2.stkSub b z) with q | q
    ·exact g1 q
    ·exact g2 q
   ·rcases List.mem_append.mp hp with q | q
    ·exact g5 p q
    ·cases q
  obtain ⟨y1, y2⟩ := yl m' H' eX.y
  by_cases hlt : i < xs.length
  ·rw [List.drop_eq_getElem_cons hlt] at lp5; obtain ⟨go, yd⟩ := y1 i xs[i] (List.getElem?_eq_getElem hlt); refine thn (T.item (cyOf X scope cl HP.objs.size NC s₂ H2 pins fp) rfl rfl rfl hc i [] s4 σ' H' (fun _ _ => False) I5 stat st5 go) fun r s5 hq0 => ?_; obtain ⟨u, hr, h5⟩ := hq0; subst hr; refine thn h5 fun _ s6 hq0 => ?_; obtain ⟨x, H6, I6, r6, yy, st6, fr6⟩ := hq0; have yy' := yd x H6 yy
   have e56 : Ext X.K (rsv Z s₂.heap.objs.size) m' H' m' H6 := ok5.ext yy'.same
   have rv := yy'.rd (fun d v h => rd_cross hD hkD eX h) ok5
   have hDy := yy'.same _ _ hDy
   have racc := RPs.ext e56 _ _ racc
   have eX := ext_inner eX hD hkD e56
   have rs5 := rs5.ext e56
   have ok5 := ok5.grow yy'.same
   have stat : ∀ b ∈ fp, FpOk (cyOf X scope cl HP.objs.size NC s₂ H2 pins fp) [] H6 b := fun b hb => ⟨fr6 b hb, (stat b hb).2⟩
   have I6' := I6.pinned stat (T.obj _ _ st6)
   -- what stands when a turn is over
   have over : ∀ {s7 : Shared} {σ7 : L2.St} {H7 : Hp} {ys7 : List V} {acc7 : List PyData} {d7 : St2} {m7 : Mu}, Inv (cyOf X scope cl HP.objs.size NC s₂ H2 pins fp) ([] ++ pinsAt fp s6.heap) σ7 H7 s7 → H7 s₂.heap.objs.size = some (.lst ys7) → RPs X.K (rsv Z s₂.heap.objs.size) m7 H7 acc7 ys7 →
     Ext X.K Z m1 H2 m7 H7 → Ok X.K (rsv Z s₂.heap.objs.size) m7 H7 → RS X.K (rsv Z s₂.heap.objs.size) m7 H7 d7 σ7 → (loopA (stepO g t fi2 (stepI g2 t2 f)) (xs.drop (i + 1)) acc7 d7 m7 (fun ps _ m2 => RL ps m2)) →
     ∃ n, n < xs.length - i ∧ ∃ (i : Nat) (ys : List V) (acc : List PyData) (d' : St2) (m' : Mu) (σ' : L2.St) (H' : Hp), n = xs.length - i ∧ i ≤ xs.length ∧ Inv (cyOf X scope cl HP.objs.size NC s₂ H2 pins fp) [] σ' H' s7 ∧ tn i s7.heap ∧ (∀ b ∈ fp, H' b = none) ∧
      H' s₂.heap.objs.size = some (.lst ys) ∧ RPs X.K (rsv Z s₂.heap.objs.size) m' H' acc ys ∧ Ext X.K Z m1 H2 m' H' ∧ Ok X.K (rsv Z s₂.heap.objs.size) m' H' ∧ RS X.K (rsv Z s₂.heap.objs.size) m' H' d' σ' ∧
      loopA (stepO g t fi2 (stepI g2 t2 f)) (xs.drop i) acc d' m' (fun ps _ m2 => RL ps m2) := by
    intro s7 σ7 H7 ys7 acc7 d7 m7 I7 a1 a2 a3 a4 a5 a6; refine ⟨xs.length - (i + 1), by omega, i + 1, ys7, acc7, d7, m7, σ7, H7, rfl, hlt, I7.unpinned, T.keep _ _ _ st6 fun b hb o e => (I7.pin (b, o) (List.mem_append_right _ (List.mem_append_right _ (mem_pinsAt hb e)))).1, fun b hb => ?_, a1, a2, a3, a4, a5, a6⟩
    obtain ⟨o, e, dd⟩ := T.obj _ _ st6 b hb; exact (I7.pin (b, o) (List.mem_append_right _ (List.mem_append_right _ (mem_pinsAt hb e)))).2.1
   refine thn (hg cl _ s₂ H2 pins fp _ s6 σ' _ x u (fun σ7 H7 => ∃ d7 m7, Ext X.K (rsv Z s₂.heap.objs.size) m' H6 m7 H7 ∧ Ok X.K (rsv Z s₂.heap.objs.size) m7 H7 ∧ RS X.K (rsv Z s₂.heap.objs.size) m7 H7 d7 σ7 ∧
    t d7 m7 fun b m2 => if b = true then fi2 d7 m2 fun zs m3 => loopA (stepI g2 t2 f) zs acc d7 m3 (fun acc' d' m' => loopA (stepO g t fi2 (stepI g2 t2 f)) (xs.drop (i + 1)) acc' d' m' (fun ps _ m2 => RL ps m2)) else loopA (stepO g t fi2 (stepI g2 t2 f)) (xs.drop (i + 1)) acc d7 m2 (fun ps _ m2 => RL ps m2)) I6' r6
    ⟨_, xs[i], d', m', _, ok5, rs5, rv, lp5, fun d7 m7 σ7 H7 q7 e7 ok7 rs7 => ⟨d7, m7, e7, ok7, rs7, q7⟩⟩) fun _ s7 hq0 => ?_
   obtain ⟨σ7, H7, I7, d7, m7, e7, ok7, rs7, q7⟩ := hq0; refine thn (ht cl _ s₂ H2 pins fp _ s7 σ7 H7 (fun b H8 => ∃ m8, Ext X.K (rsv Z s₂.heap.objs.size) m7 H7 m8 H8 ∧ Ok X.K (rsv Z s₂.heap.objs.size) m8 H8 ∧
    if b = true then fi2 d7 m8 fun zs m3 => loopA (stepI g2 t2 f) zs acc d7 m3 (fun acc' d' m' => loopA (stepO g t fi2 (stepI g2 t2 f)) (xs.drop (i + 1)) acc' d' m' (fun ps _ m2 => RL ps m2)) else loopA (stepO g t fi2 (stepI g2 t2 f)) (xs.drop (i + 1)) acc d7 m8 (fun ps _ m2 => RL ps m2)) I7
    ⟨_, d7, m7, _, ok7, rs7, q7, fun b m8 H8 q8 e8 ok8 => ⟨m8, e8, ok8, q8⟩⟩) fun b s8 hq0 => ?_
   obtain ⟨H8, I8, m8, e8, ok8, q8⟩ := hq0; have e68 := e7.trans e8
   have hD8 : H8 s₂.heap.objs.size = some (.lst ys) := (e68.z _ (.inr rfl)).trans hDy
   cases b with
   | false =>
    rw [if_neg Bool.false_ne_true] at q8; exact over I8 hD8 (RPs.ext e68 _ _ racc) (ext_inner eX hD hkD e68) ok8 (rs7.ext e8) q8
   | true =>
    rw [if_pos rfl] at q8; rw [if_pos rfl]; have nz : ¬ Z s₂.heap.objs.size := fun z => (ok1.z _ z).2 hD
    have ic := inner_core (Y := cyOf X scope cl HP.objs.size NC s₂ H2 pins fp) (tg := tg) (iter := iter) (ifs := ifs) (scope := scope) (pos := pos) hc (fun _ _ z => z) (hi2 cl _ s₂ H2 pins fp) (hg2 cl _ s₂ H2 pins fp) (ht2 cl _ s₂ H2 pins fp) (he cl _ s₂ H2 pins fp) I8 nz hD8 (RPs.ext e68 _ _ racc) ok8 (rs7.ext e8) q8
    refine thn ic fun xv9 s9 h9 => thn h9 fun it9 s10 h10 => codeAny_mono h10 ?_; rintro r s11 ⟨hr, σ', H', ys', acc', d', m', I11, hD11, racc11, e11, ok11, rs11, q11⟩; exact ⟨hr, over I11 hD11 racc11 (ext_innerW (ext_inner eX hD hkD e68) hD hkD e11) ok11 rs11 q11⟩
  ·have e : i = xs.length := by omega
   subst e; rw [List.drop_length] at lp5; refine thn (T.done (cyOf X scope cl HP.objs.size NC s₂ H2 pins fp) rfl rfl rfl hc _ [] s4 σ' H' (fun _ _ => False) I5 stat st5 y2) fun r s5 hq0 => ?_; obtain ⟨hr, I6⟩ := hq0; subst hr; have IX := cy_end I2 f2 I6 leC (Heap.SameBut.refl _ _)
   have nz : ¬ Z s₂.heap.objs.size := fun z => (ok1.z _ z).2 hD
   refine fin s5 HP.objs.size s₂.heap.objs.size H' m' acc lp5 (e1.trans eX) (ok_out ok5) ?_ ⟨_, I6.loc.choose_spec.1⟩ IX ⟨I6.free, Nat.ne_of_gt (Nat.lt_of_lt_of_le I2.lt leC), Nat.le_trans I2.sz leC, fun x c e => ?_, fun p hp => ?_⟩
   ·simp only [RD, RP]; exact ⟨_, ys, rfl, ⟨(ok5.z _ (.inr rfl)).1, nz⟩, .inl (.inl hDy), RPs.tr (fun _ _ q => q) (fun a vs q1 q2 => ⟨⟨q1.1, fun z => q1.2 (.inl z)⟩, q2⟩) _ _ racc⟩
   ·obtain ⟨v, q⟩ := I2.cell x c e; exact Nat.ne_of_lt (Nat.lt_of_lt_of_le q.lt leC)
   ·exact Nat.ne_of_lt (Nat.lt_of_lt_of_le (Heap.lt_size (I2.pin p hp).1) leC)
 exact codeAny_compStart_list (loop _ rfl) (T.self _ 0 _ _ _ st4 (loop _ rfl))
end
end DL
namespace DL
open PySem PySem.Spec PyProof.Rows L2
section
variable {prog : Program} {w : World} {A : Around} {E : Value → Shared → Prop} {s : Shared}
theorem nt_item {it tq : Addr} {i : Nat} {its : Array Value} {x : Value} {Q : Value → Shared → Prop} (hit : s.heap.IsTupleIter it tq i) (ht : s.heap.IsTuple tq its) (hx : its[i]? = some x)
  (hQ : ∀ h', h'.IsTupleIter it tq (i + 1) → Heap.SameBut it s.heap h' → Q x { s with heap := h' }) : wpAny (model prog w) A (Builtin.SmallTypes.nextOf (.ref it)) Q E s := by
 obtain ⟨o, ho, hc, hd⟩ := id hit; obtain ⟨ol, hol, _, nl, hdl⟩ := ht; unfold Builtin.SmallTypes.nextOf; refine wpAny_bind (wpAny_callSpecial?_slot (name := Str.ofString "__next__") hit.typeIs F.slot_tuple_iterator_next (wpAny_call_entry F.slot_tuple_iterator_next hit.typeIs F.entry_tuple_iterator_next ?_ (F.args_tuple_iterator_next_1 _))); show wpAny _ _ (field (.ref it) 0 >>= _) _ _ _; refine wpAny_bind (wpAny_field ho hd (x := .ref tq) rfl ?_)
 show wpAny _ _ (if (Value.ref tq == Value.none) = true then _ else _) _ _ s
 rw [if_neg (show ¬ ((Value.ref tq == Value.none) = true) from Bool.false_ne_true)]
 show wpAny _ _ (field (.ref it) 1 >>= _) _ _ _; refine wpAny_bind (wpAny_field ho hd (x := .int i 0) rfl ?_)
 show wpAny _ _ (seqItems? (.ref tq) >>= _) _ _ s
 refine wpAny_bind (wpAny_seqItems hol hdl ?_); simp only [Int.toNat_natCast, hx]; refine wpAny_bind (wpAny_setField ho hd (by simp) (wpAny_pure ⟨_, rfl, wpAny_pure (hQ _ ?_ (Heap.SameBut.update ..))⟩))
 refine ⟨_, Heap.get?_update_self _ ho (Obj.isFreed_of_fields (Obj.data_mapFields hd _)), (Obj.cls_mapFields ..).trans hc, ?_⟩; rw [Obj.data_mapFields hd] <;> simp [rawInt]
theorem nt_end {it tq : Addr} {i : Nat} {its : Array Value} {Q : Value → Shared → Prop} (hh : A.handled = none) (hit : s.heap.IsTupleIter it tq i) (ht : s.heap.IsTuple tq its) (hx : its[i]? = none)
  (hE : ∀ h' e, Heap.ExtBut it s.heap h' → (∃ o, h'.get? e = some o ∧ o.cls = .type "StopIteration") → E (.ref e) { s with heap := h' }) : wpAny (model prog w) A (Builtin.SmallTypes.nextOf (.ref it)) Q E s := by
 obtain ⟨o, ho, hc, hd⟩ := id hit; obtain ⟨ol, hol, _, nl, hdl⟩ := ht; unfold Builtin.SmallTypes.nextOf; refine wpAny_bind (wpAny_callSpecial?_slot (name := Str.ofString "__next__") hit.typeIs F.slot_tuple_iterator_next (wpAny_call_entry F.slot_tuple_iterator_next hit.typeIs F.entry_tuple_iterator_next ?_ (F.args_tuple_iterator_next_1 _))); show wpAny _ _ (field (.ref it) 0 >>= _) _ _ _; refine wpAny_bind (wpAny_field ho hd (x := .ref tq) rfl ?_)
 show wpAny _ _ (if (Value.ref tq == Value.none) = true then _ else _) _ _ s
 rw [if_neg (show ¬ ((Value.ref tq == Value.none) = true) from Bool.false_ne_true)]
 show wpAny _ _ (field (.ref it) 1 >>= _) _ _ _; refine wpAny_bind (wpAny_field ho hd (x := .int i 0) rfl ?_)
 show wpAny _ _ (seqItems? (.ref tq) >>= _) _ _ s
 refine wpAny_bind (wpAny_seqItems hol hdl ?_); simp only [Int.toNat_natCast, hx]; refine wpAny_bind (wpAny_rule (wpAny_bind (wpAny_setField ho hd (by simp) ?_))); show wpAny _ _ (newExc (.type "StopIteration") [] >>= _) _ _ _
 refine wpAny_bind ?_; simp only [newExc, newTuple]; refine wpAny_bind (wpAny_newObj_type ?_ (by size_fits))
 refine wpAny_bind (m := firstArgMember _ _) (wpAny_of_eq (a := Value.none) (by first | rfl | (simp only [firstArgMember]; rfl)) ?_); refine wpAny_newObj_type ?_ (by size_fits)
 simp only [raiseNew]; refine wpAny_bind (wpAny_handled ?_)
 (first | rw [show A.in1.handled = none from hh] | rw [hh]); refine wpAny_bind (wpAny_pure (wpAny_throw ?_))
 exact hE _ _ (((Heap.SameBut.update ..).extBut.push _).push _) ⟨_, Heap.get?_push_size _ rfl, rfl⟩
structure Zst (h : Heap) (z TI TO i1 i2 t1 t2 : Addr) (f0 : Value) (k : Nat) : Prop where
 z : IsZip h z TI TO f0
 ti : IsPair h TI (.ref i1) (.ref i2)
 to : ∃ a b, IsPair h TO a b
 a : h.IsTupleIter i1 t1 k
 b : h.IsTupleIter i2 t2 k
theorem zt_item {z TI TO i1 i2 t1 t2 : Addr} {k : Nat} {xs ys : Array Value} {x y : Value} {Q : Value → Shared → Prop} (D : ZipApart z TI TO i1 i2 t1 t2) (S : Zst s.heap z TI TO i1 i2 t1 t2 .none k)
  (g1 : s.heap.IsTuple t1 xs) (g2 : s.heap.IsTuple t2 ys) (hx : xs[k]? = some x) (hy : ys[k]? = some y)
  (hQ : ∀ h', Zst h' z TI TO i1 i2 t1 t2 (rawInt s.heap.objs.size) (k + 1) → IsPair h' s.heap.objs.size x y →
   (∀ c o, c ≠ z → c ≠ TO → c ≠ i1 → c ≠ i2 → s.heap.get? c = some o → h'.get? c = some o) → Q (.ref s.heap.objs.size) { s with heap := h' }) :
  wpAny (model prog w) A (Builtin.«zip.__next__» ⟨[.ref z], []⟩) (fun fin s' => ∃ v, fin = .done (.ret v) ∧ Q v s') E s := by
 obtain ⟨hz, hTI, ⟨a, b, hTO⟩, h1, h2⟩ := S; show wpAny _ _ (field (.ref z) 2 >>= _) _ _ _; refine wpAny_bind (wpAny_field hz rfl (x := .bool false) rfl ?_)
 show wpAny _ _ (field (.ref z) 3 >>= _) _ _ _; refine wpAny_bind (wpAny_field hz rfl (x := .ref TI) rfl (wpAny_bind (wpAny_seqItems hTI rfl ?_)))
 show wpAny _ _ (Builtin.SmallTypes.ownedTupleIsFree (.ref z) >>= _) _ _ _; refine wpAny_bind ?_
 unfold Builtin.SmallTypes.ownedTupleIsFree; refine wpAny_bind (wpAny_field hz rfl (x := .none) rfl (wpAny_pure ?_)); simp only [if_true]; refine wpAny_bind (wpAny_rule (wpAny_bind (wpAny_field hz rfl (x := .ref TO) rfl ?_))); refine wpAny_bind (wpAny_setField_rec hz (by simp) fun n1 z1 c1 => ?_); replace z1 : IsZip n1 z TI TO .ellipsis := z1
 refine wpAny_bind ?_; simp only [List.zipIdx_cons, List.zipIdx_nil, List.forIn_cons, List.forIn_nil]; refine wpAny_bind (wpAny_bind (wpAny_onRaise ?_)); show wpAny _ _ (Builtin.SmallTypes.nextOf (.ref i1) >>= _) _ _ _
 refine wpAny_bind (nt_item (h1.at fun o e => c1.extBut _ o D.i1z e) (g1.extBut c1.extBut D.l1z) hx fun n2 b2 c2 => wpAny_pure ?_); have p2 : IsPair n2 TO a b := c2.extBut _ _ D.TOi1 (c1.extBut _ _ D.TOz hTO)
 refine wpAny_bind (wpAny_seqItems p2 rfl (wpAny_bind (wpAny_updateSeq_pair p2 fun n3 p3 c3 => ?_))); replace p3 : IsPair n3 TO x b := p3; refine wpAny_bind (wpAny_letGo (wpAny_pure (wpAny_bind (wpAny_bind (wpAny_onRaise ?_))))); show wpAny _ _ (Builtin.SmallTypes.nextOf (.ref i2) >>= _) _ _ _
 have up3 : ∀ c o, c ≠ z → c ≠ TO → c ≠ i1 → s.heap.get? c = some o → n3.get? c = some o := fun c o q1 q2 q3 e => c3.extBut _ _ q2 (c2.extBut _ _ q3 (c1.extBut _ _ q1 e))
 have g23 : n3.IsTuple t2 ys := by
  obtain ⟨o, ho, r⟩ := g2; exact ⟨o, up3 _ _ D.l2z D.l2TO D.l2i1 ho, r⟩
 refine wpAny_bind (nt_item (h2.at fun o e => up3 _ o D.i2z D.TOi2.symm D.i12.symm e) g23 hy fun n4 b4 c4 => wpAny_pure ?_); have p4 : IsPair n4 TO x b := c4.extBut _ _ D.TOi2 p3
 refine wpAny_bind (wpAny_seqItems p4 rfl (wpAny_bind (wpAny_updateSeq_pair p4 fun n5 p5 c5 => ?_))); replace p5 : IsPair n5 TO x y := p5; refine wpAny_bind (wpAny_letGo (wpAny_pure (wpAny_pure (wpAny_bind (wpAny_seqItems p5 rfl (wpAny_bind (wpAny_newTuple ?_))))))); have size5 : n5.objs.size = s.heap.objs.size := by rw [c5.1, c4.1, c3.1, c2.1, c1.1]
 have z5 : IsZip n5 z TI TO .ellipsis := c5.extBut _ _ D.TOz.symm (c4.extBut _ _ D.i2z.symm (c3.extBut _ _ D.TOz.symm (c2.extBut _ _ D.i1z.symm z1)))
 have up5 : ∀ c o, c ≠ z → c ≠ TO → c ≠ i1 → c ≠ i2 → s.heap.get? c = some o → n5.get? c = some o := fun c o q1 q2 q3 q4 e => c5.extBut _ _ q2 (c4.extBut _ _ q4 (up3 c o q1 q2 q3 e))
 have a5 : n5.IsTupleIter i1 t1 (k + 1) := b2.at fun o e => c5.extBut _ _ D.TOi1.symm (c4.extBut _ _ D.i12 (c3.extBut _ _ D.TOi1.symm e))
 have b5 : n5.IsTupleIter i2 t2 (k + 1) := b4.at fun o e => c5.extBut _ _ D.TOi2.symm e
 have zlt : z < n5.objs.size := Heap.lt_size z5
 show wpAny _ _ (Builtin.SmallTypes.ownedTupleHandOut (.ref z) (.ref n5.objs.size) >>= _) _ _ _; refine wpAny_bind ?_
 unfold Builtin.SmallTypes.ownedTupleHandOut; have z6 : IsZip (n5.push { cls := .type "tuple", data := .seq #[x, y] }) z TI TO .ellipsis := Heap.get?_push_of_some _ z5
 refine wpAny_bind (wpAny_setField_rec z6 (by simp) fun n7 z7 c7 => ?_); replace z7 : IsZip n7 z TI TO (rawInt n5.objs.size) := z7
 refine wpAny_setField_rec z7 (by simp) fun n8 z8 c8 => ?_; replace z8 : IsZip n8 z TI TO (rawInt n5.objs.size) := z8
 have up8 : ∀ c o, c ≠ z → n5.get? c = some o → n8.get? c = some o := fun c o q e => c8.extBut _ _ q (c7.extBut _ _ q (Heap.get?_push_of_some _ e))
 have new8 : IsPair n8 n5.objs.size x y := c8.extBut _ _ (Nat.ne_of_gt zlt) (c7.extBut _ _ (Nat.ne_of_gt zlt) (Heap.get?_push_size _ rfl))
 rw [size5] at z8 new8; refine wpAny_pure ⟨_, rfl, ?_⟩; show Q (.ref n5.objs.size) _
 rw [size5]; exact hQ n8 ⟨z8, up8 _ _ D.TIz (up5 _ _ D.TIz D.TITO D.TIi1 D.TIi2 hTI), ⟨x, y, up8 _ _ D.TOz p5⟩, a5.at fun o e => up8 _ o D.i1z e, b5.at fun o e => up8 _ o D.i2z e⟩ new8 fun c o q1 q2 q3 q4 e => up8 c o q1 (up5 c o q1 q2 q3 q4 e)
theorem zt_end {z TI TO i1 i2 t1 t2 : Addr} {k : Nat} {xs ys : Array Value} {Q : Fin → Shared → Prop} (hh : A.handled = none) (D : ZipApart z TI TO i1 i2 t1 t2) (S : Zst s.heap z TI TO i1 i2 t1 t2 .none k)
  (g1 : s.heap.IsTuple t1 xs) (g2 : s.heap.IsTuple t2 ys) (hend : xs[k]? = none ∨ ys[k]? = none)
  (hE : ∀ h' e, (∀ c o, c ≠ z → c ≠ TO → c ≠ i1 → c ≠ i2 → s.heap.get? c = some o → h'.get? c = some o) → (∃ o, h'.get? e = some o ∧ o.cls = .type "StopIteration") → E (.ref e) { s with heap := h' }) :
  wpAny (model prog w) A (Builtin.«zip.__next__» ⟨[.ref z], []⟩) Q E s := by
 obtain ⟨hz, hTI, ⟨a, b, hTO⟩, h1, h2⟩ := S; show wpAny _ _ (field (.ref z) 2 >>= _) _ _ _; refine wpAny_bind (wpAny_field hz rfl (x := .bool false) rfl ?_)
 show wpAny _ _ (field (.ref z) 3 >>= _) _ _ _; refine wpAny_bind (wpAny_field hz rfl (x := .ref TI) rfl (wpAny_bind (wpAny_seqItems hTI rfl ?_)))
 show wpAny _ _ (Builtin.SmallTypes.ownedTupleIsFree (.ref z) >>= _) _ _ _; refine wpAny_bind ?_
 unfold Builtin.SmallTypes.ownedTupleIsFree; refine wpAny_bind (wpAny_field hz rfl (x := .none) rfl (wpAny_pure ?_)); simp only [if_true]; refine wpAny_bind (wpAny_rule (wpAny_bind (wpAny_field hz rfl (x := .ref TO) rfl ?_))); refine wpAny_bind (wpAny_setField_rec hz (by simp) fun n1 z1 c1 => ?_); replace z1 : IsZip n1 z TI TO .ellipsis := z1
 refine wpAny_bind ?_; simp only [List.zipIdx_cons, List.zipIdx_nil, List.forIn_cons, List.forIn_nil]; refine wpAny_bind (wpAny_bind (wpAny_onRaise ?_)); show wpAny _ _ (Builtin.SmallTypes.nextOf (.ref i1) >>= _) _ _ _
 have apart : ∀ (n : Heap) (e : Addr) (oe : Obj), IsZip n z TI TO .ellipsis → n.get? e = some oe → oe.cls = .type "StopIteration" → e ≠ z := fun n e oe q q1 q2 q3 => by
  subst q3; rw [q] at q1
  cases q1
  simp at q2
 cases hx : xs[k]? with
 | none =>
  refine wpAny_bind (nt_end hh (h1.at fun o e => c1.extBut _ o D.i1z e) (g1.extBut c1.extBut D.l1z) hx fun n2 e c2 he => ?_); obtain ⟨oe, q1, q2⟩ := he; have z2 : IsZip n2 z TI TO .ellipsis := c2 _ _ D.i1z.symm z1
  exact wpAny_setField_rec z2 (by simp) fun n3 _ c3 => hE n3 e (fun c o r1 _ r3 _ q => c3.extBut _ _ r1 (c2 _ _ r3 (c1.extBut _ _ r1 q))) ⟨oe, c3.extBut _ _ (apart _ _ _ z2 q1 q2) q1, q2⟩
 | some x =>
  have hy : ys[k]? = none := by
   rcases hend with h | h
   ·rw [hx] at h; cases h
   ·exact h
  refine wpAny_bind (nt_item (h1.at fun o e => c1.extBut _ o D.i1z e) (g1.extBut c1.extBut D.l1z) hx fun n2 b2 c2 => wpAny_pure ?_); have p2 : IsPair n2 TO a b := c2.extBut _ _ D.TOi1 (c1.extBut _ _ D.TOz hTO)
  refine wpAny_bind (wpAny_seqItems p2 rfl (wpAny_bind (wpAny_updateSeq_pair p2 fun n3 p3 c3 => ?_))); refine wpAny_bind (wpAny_letGo (wpAny_pure (wpAny_bind (wpAny_bind (wpAny_onRaise ?_))))); show wpAny _ _ (Builtin.SmallTypes.nextOf (.ref i2) >>= _) _ _ _
  have up3 : ∀ c o, c ≠ z → c ≠ TO → c ≠ i1 → s.heap.get? c = some o → n3.get? c = some o := fun c o q1 q2 q3 e => c3.extBut _ _ q2 (c2.extBut _ _ q3 (c1.extBut _ _ q1 e))
  have g23 : n3.IsTuple t2 ys := by
   obtain ⟨o, ho, r⟩ := g2; exact ⟨o, up3 _ _ D.l2z D.l2TO D.l2i1 ho, r⟩
  refine wpAny_bind (nt_end hh (h2.at fun o e => up3 _ o D.i2z D.TOi2.symm D.i12.symm e) g23 hy fun n4 e c4 he => ?_); obtain ⟨oe, q1, q2⟩ := he; have z4 : IsZip n4 z TI TO .ellipsis := c4 _ _ D.i2z.symm (c3.extBut _ _ D.TOz.symm (c2.extBut _ _ D.i1z.symm z1))
  exact wpAny_setField_rec z4 (by simp) fun n5 _ c5 => hE n5 e (fun c o r1 r2 r3 r4 q => c5.extBut _ _ r1 (c4 _ _ r4 (up3 c o r1 r2 r3 q))) ⟨oe, c5.extBut _ _ (apart _ _ _ z4 q1 q2) q1, q2⟩
end
end DL
namespace DL
open PySem PySem.Spec PyProof.Rows L2
section
variable {X : Cx} {pins : List (Addr × Obj)} {σ : L2.St} {H : Hp} {s : Shared} {h' : Heap}
theorem turns {t' : Nat} {ch : List Addr} (I : Inv X pins σ H s) (k : ∀ b o, b ∉ ch → s.heap.get? b = some o → h'.get? b = some o) (hf : ∀ b ∈ ch, FpOk X pins H b) : Inv X pins σ H { s with heap := h', toks := t' } := by
 have nit : ∀ b u, H b = some u → b ∉ ch := fun b u e z => by rw [(hf b z).1] at e; cases e
 refine I.step (g' := s.gens) (d' := s.drawn) (ch := ch) (fun b hb => ?_) (fun b o _ _ hc e _ => k b o hc e) (fun b o _ _ hc e _ => ⟨o.slots, k b o hc e⟩) (fun _ _ _ _ n => n) (fun b o hc e => ⟨o, k b o hc e⟩) (fun _ _ e => e) (fun _ _ _ e => e) (fun b ps e => ⟨#[], by rw [e]; simp⟩) (fun m hm => ?_) (fun b u e => ?_) I.bare
 ·obtain ⟨_, f1, _, f3, f4, f5⟩ := hf b hb; exact ⟨f3, f1, f4, f5⟩
 ·obtain ⟨o, es, ep, ho, r⟩ := hm; exact ⟨o, es, ep, k _ o (fun z => (hf _ z).2.1 rfl) ho, r⟩
 ·refine (I.hok b u e).stay (fun c v hc q => k c v ?_ q) (fun _ q => q) (fun _ _ q => q) fun _ _ _ q => q; rcases hc with z | z
  ·rw [z]; exact nit b u e
  ·exact nit c _ z
end
section
variable {prog : Program} {w : World} {A : Around} {E : Value → Shared → Prop} {s : Shared}
abbrev zq1 (h : Heap) (t1 : Addr) : Heap := h.push { cls := .type "tuple_iterator", data := .fields #[.ref t1, .int 0 0] }
abbrev zq2 (h : Heap) (t1 t2 : Addr) : Heap := (zq1 h t1).push { cls := .type "tuple_iterator", data := .fields #[.ref t2, .int 0 0] }
abbrev zq3 (h : Heap) (t1 t2 : Addr) : Heap := (zq2 h t1 t2).push { cls := .type "tuple", data := .seq #[.ref h.objs.size, .ref (zq1 h t1).objs.size] }
abbrev zq4 (h : Heap) (t1 t2 : Addr) : Heap := (zq3 h t1 t2).push { cls := .type "tuple", data := .seq #[.none, .none] }
abbrev zq5 (h : Heap) (t1 t2 : Addr) : Heap := (zq4 h t1 t2).push { cls := .type "zip", data := .fields #[.none, .bool false, .bool false, .ref (zq2 h t1 t2).objs.size, .ref (zq3 h t1 t2).objs.size] }
theorem tup_push {h : Heap} {t : Addr} {xs : Array Value} (g : h.IsTuple t xs) (o : Obj) : (h.push o).IsTuple t xs := by
 obtain ⟨u, hu, r⟩ := g; exact ⟨u, Heap.get?_push_of_some _ hu, r⟩
theorem zt_new (t1 t2 : Addr) (xs ys : Array Value) : Meets (Builtin.«zip.__new__» ⟨[.type "zip", .ref t1, .ref t2], []⟩) (fun _ R s => s.heap.IsTuple t1 xs ∧ s.heap.IsTuple t2 ys ∧
  R (.ok (.ret (.ref (zq4 s.heap t1 t2).objs.size))) { s with heap := zq5 s.heap t1 t2 }) := .of_wp fun prog w A R s hs => by
 obtain ⟨hp, g, d, tk, os⟩ := s; obtain ⟨hl1, hl2, h⟩ := hs; have hsub := sub_zip
 have u1 : Heap.IsTuple (Shared.heap ⟨hp, g, d, tk, os⟩) t1 xs := hl1
 have u2 : Heap.IsTuple (Shared.heap ⟨hp.push { cls := .type "tuple_iterator", data := .fields #[.ref t1, .int 0 0] }, g, d, tk, os⟩) t2 ys := tup_push hl2 _
 wp_walk using wpAny_pyIter_tuple u1, wpAny_pyIter_tuple u2
 exact ⟨_, rfl, h⟩
theorem zt_call {t1 t2 : Addr} {xs ys : Array Value} {Q : Value → Shared → Prop} (g1 : s.heap.IsTuple t1 xs) (g2 : s.heap.IsTuple t2 ys)
  (h : ∀ h' n, n = s.heap.objs.size → Zst h' (n + 4) (n + 2) (n + 3) n (n + 1) t1 t2 .none 0 → (∀ c o, s.heap.get? c = some o → h'.get? c = some o) → Q (.ref (n + 4)) { s with heap := h' }) : wpAny (model prog w) A (call (.type "zip") [.ref t1, .ref t2]) Q E s := by
 refine callType_new F.called_zip (by decide) (F.typeCall_zip_2 _ _) (F.newCall_zip_2 _ _) (fun obj => F.args_object_init_3 obj _ _) F.entry_zip_new (zt_new t1 t2 xs ys) ⟨g1, g2, ?_⟩
 have z1 : (zq1 s.heap t1).objs.size = s.heap.objs.size + 1 := Heap.size_push ..
 have z2 : (zq2 s.heap t1 t2).objs.size = s.heap.objs.size + 2 := by rw [Heap.size_push, z1]
 have z3 : (zq3 s.heap t1 t2).objs.size = s.heap.objs.size + 3 := by rw [Heap.size_push, z2]
 have z4 : (zq4 s.heap t1 t2).objs.size = s.heap.objs.size + 4 := by rw [Heap.size_push, z3]
 have a5 : (zq5 s.heap t1 t2).get? (zq4 s.heap t1 t2).objs.size = some _ := Heap.get?_push_size _ rfl
 have a4 : (zq5 s.heap t1 t2).get? (zq3 s.heap t1 t2).objs.size = some _ := Heap.get?_push_of_some _ (Heap.get?_push_size _ rfl)
 have a3 : (zq5 s.heap t1 t2).get? (zq2 s.heap t1 t2).objs.size = some _ := Heap.get?_push_of_some _ (Heap.get?_push_of_some _ (Heap.get?_push_size _ rfl))
 have a2 : (zq5 s.heap t1 t2).get? (zq1 s.heap t1).objs.size = some _ := Heap.get?_push_of_some _ (Heap.get?_push_of_some _ (Heap.get?_push_of_some _ (Heap.get?_push_size _ rfl)))
 have a1 : (zq5 s.heap t1 t2).get? s.heap.objs.size = some _ := Heap.get?_push_of_some _ (Heap.get?_push_of_some _ (Heap.get?_push_of_some _ (Heap.get?_push_of_some _ (Heap.get?_push_size _ rfl))))
 show _ ∧ _
 rw [z2, z3, z4] at a5; rw [z1, z2] at a3; rw [z3] at a4; rw [z1] at a2; rw [z4]; exact ⟨⟨_, a5, rfl⟩, h _ _ rfl ⟨a5, a3, ⟨_, _, a4⟩, ⟨_, a1, rfl, rfl⟩, ⟨_, a2, rfl, rfl⟩⟩ fun c o x => Heap.get?_push_of_some _ (Heap.get?_push_of_some _ (Heap.get?_push_of_some _ (Heap.get?_push_of_some _ (Heap.get?_push_of_some _ x))))⟩
end
def Itz (K : PySem.W.Frag) (t1 t2 : Addr) (n : Nat) : It :=
 ⟨fun i H => i < n ∧ ∃ xs ys, SqT K H t1 xs ∧ SqT K H t2 ys ∧ n = min xs.length ys.length, fun i H v H' => ∃ p x y, v = .ref p ∧ H p = none ∧ H' = upd H p (.tup [x, y]) ∧ ∀ xs ys, SqT K H t1 xs → SqT K H t2 ys → xs[i]? = some x ∧ ys[i]? = some y,
  fun i H => i = n ∧ ∃ xs ys, SqT K H t1 xs ∧ SqT K H t2 ys ∧ n = min xs.length ys.length⟩
theorem turn_zip {P : Program} {w : World} {K : PySem.W.Frag} {elts : List Expr} {j : Nat} {pos : Pos} {z TI TO i1 i2 t1 t2 : Addr} {n : Nat} (D : ZipApart z TI TO i1 i2 t1 t2) :
  Turn P w K (.Tuple elts j pos) (Itz K t1 t2 n) [z, TI, TO, i1, i2] z (fun i h => Zst h z TI TO i1 i2 t1 t2 .none i) where
 mem := by simp
 obj := fun i h st b hb => by
  obtain ⟨h1, h2, ⟨a, c, h3⟩, ⟨o4, e4, _, d4⟩, ⟨o5, e5, _, d5⟩⟩ := st; simp only [List.mem_cons, List.not_mem_nil, or_false] at hb; rcases hb with rfl | rfl | rfl | rfl | rfl
  ·exact ⟨_, h1, fun v q => nomatch q⟩
  ·exact ⟨_, h2, fun v q => nomatch q⟩
  ·exact ⟨_, h3, fun v q => nomatch q⟩
  ·exact ⟨_, e4, fun v q => by rw [d4] at q; cases q⟩
  ·exact ⟨_, e5, fun v q => by rw [d5] at q; cases q⟩
 keep := fun i h h' st k => by
  obtain ⟨h1, h2, ⟨a, c, h3⟩, h4, h5⟩ := st; exact ⟨k z (by simp) _ h1, k TI (by simp) _ h2, ⟨a, c, k TO (by simp) _ h3⟩, h4.at fun o e => k i1 (by simp) o e, h5.at fun o e => k i2 (by simp) o e⟩
 item := by
  intro X hP hw hK hc i pins s σ H E I hf st hg; subst hP hw hK; obtain ⟨hi, xs, ys, q1, q2, hn⟩ := hg; obtain ⟨its1, r1, p1, l1⟩ := I.tuple q1; obtain ⟨its2, r2, p2, l2⟩ := I.tuple q2; have e1 : xs[i]? = some (xs[i]'(by omega)) := List.getElem?_eq_getElem (by omega)
  have e2 : ys[i]? = some (ys[i]'(by omega)) := List.getElem?_eq_getElem (by omega)
  obtain ⟨u1, hu1, ru1⟩ := r1.get e1; obtain ⟨u2, hu2, ru2⟩ := r2.get e2; have hT : s.TypeIs (.ref z) "zip" := ⟨_, st.z, rfl⟩
  have hp : H s.heap.objs.size = none := I.hok.fresh (Nat.le_refl _)
  unfold pyNext; refine wpAny_bind (wpAny_attempt (wpAny_callSpecial?_slot (name := Str.ofString "__next__") hT F.slot_zip_next (wpAny_call_entry F.slot_zip_next hT F.entry_zip_next (zt_item D st (show s.heap.IsTuple t1 its1.toArray from p1) (show s.heap.IsTuple t2 its2.toArray from p2) (by simpa using hu1) (by simpa using hu2) fun h' st' np k => wpAny_pure ?_) (F.args_zip_next_1 _))))
  refine ⟨_, rfl, ?_⟩; refine wpAny_letOwnedTupleGo_zip (s := { s with heap := h' }) st'.z fun h2 z2 c2 => ?_; have I1 : Inv X pins σ (upd H s.heap.objs.size (.tup [_, _])) { s with heap := s.heap.push { cls := .type "tuple", data := .seq #[u1, u2] } } :=
   I.laid (t' := s.toks) (fun b o e => Heap.get?_push_of_some _ e) (Nat.le_refl _) (show ObjOk X.prog X.w _ _ _ (.tup [_, _]) from ⟨⟨by show 2 ≤ sizeLine; rw [sizeLine_eq]; decide, NoD.new _ _ _⟩, [u1, u2], .cons ru1 (.cons ru2 .nil), IsTup.new _ _⟩)
  have lt : ∀ {c o}, s.heap.get? c = some o → c ≠ s.heap.objs.size := fun e => Nat.ne_of_lt (Heap.lt_size e)
  have zne : s.heap.objs.size ≠ z := fun e => lt st.z e.symm
  have hf' : ∀ b ∈ [z, TI, TO, i1, i2], FpOk X pins (upd H s.heap.objs.size (.tup [xs[i]'(by omega), ys[i]'(by omega)])) b := fun b hb => by
   obtain ⟨f0, f1, f2, f3, f4, f5⟩ := hf b hb; refine ⟨?_, f1, f2, f3, f4, f5⟩; rw [upd_ne]
   ·exact f0
   ·obtain ⟨h1, h2, ⟨a, c, h3⟩, ⟨o4, e4, _⟩, ⟨o5, e5, _⟩⟩ := st; simp only [List.mem_cons, List.not_mem_nil, or_false] at hb; rcases hb with rfl | rfl | rfl | rfl | rfl
    ·exact lt h1
    ·exact lt h2
    ·exact lt h3
    ·exact lt e4
    ·exact lt e5
  have kk : ∀ b o, b ∉ [z, TI, TO, i1, i2] → (s.heap.push { cls := .type "tuple", data := .seq #[u1, u2] }).get? b = some o → h2.get? b = some o := fun b o hb e => by
   simp only [List.mem_cons, List.not_mem_nil, or_false, not_or] at hb; obtain ⟨n1, n2, n3, n4, n5⟩ := hb; refine c2.extBut _ _ n1 ?_; rcases Heap.get?_push_cases e with ⟨rfl, rfl⟩ | e
   ·exact np
   ·exact k b o n1 n3 n4 n5 e
  have I2 := turns (s := { s with heap := s.heap.push { cls := .type "tuple", data := .seq #[u1, u2] } }) (h' := h2) (t' := s.toks) (ch := [z, TI, TO, i1, i2]) I1 kk hf'
  refine ⟨.ref s.heap.objs.size, upd H s.heap.objs.size (.tup [xs[i]'(by omega), ys[i]'(by omega)]), I2, rfl, ⟨_, _, _, rfl, hp, rfl, fun xs' ys' g1 g2 => ?_⟩, ?_, fun b hb => (hf' b hb).1⟩
  ·rw [I.tuple_inj g1 q1, I.tuple_inj g2 q2]; exact ⟨e1, e2⟩
  ·obtain ⟨h1, h2', ⟨a, c, h3⟩, h4, h5⟩ := st'; exact ⟨z2, c2.extBut _ _ D.TIz h2', ⟨a, c, c2.extBut _ _ D.TOz h3⟩, h4.at fun o e => c2.extBut _ _ D.i1z e, h5.at fun o e => c2.extBut _ _ D.i2z e⟩
 done := by
  intro X hP hw hK hc i pins s σ H E I hf st hg; subst hP hw hK; obtain ⟨hi, xs, ys, q1, q2, hn⟩ := hg; obtain ⟨its1, r1, p1, l1⟩ := I.tuple q1; obtain ⟨its2, r2, p2, l2⟩ := I.tuple q2; have m1 := r1.length
  have m2 := r2.length
  have hT : s.TypeIs (.ref z) "zip" := ⟨_, st.z, rfl⟩
  unfold pyNext; refine wpAny_bind (wpAny_attempt (wpAny_callSpecial?_slot (name := Str.ofString "__next__") hT F.slot_zip_next (wpAny_call_entry F.slot_zip_next hT F.entry_zip_next (zt_end (I.ok.hd hc) D st (show s.heap.IsTuple t1 its1.toArray from p1) (show s.heap.IsTuple t2 its2.toArray from p2) ?_ fun h' e k he => ?_) (F.args_zip_next_1 _))))
  ·by_cases c : xs.length ≤ ys.length
   ·left
    simp; omega
   ·right
    simp; omega
  ·obtain ⟨o, ho, hce⟩ := he; refine wpAny_bind (wpAny_isInstance (T := "StopIteration") (b := true) ⟨o, ho, hce⟩ isSubtype_stop ?_); refine wpAny_pure ⟨rfl, turns (t' := s.toks) (ch := [z, TI, TO, i1, i2]) I (fun b o hb e => ?_) hf⟩; simp only [List.mem_cons, List.not_mem_nil, or_false, not_or] at hb; exact k b o hb.1 hb.2.2.1 hb.2.2.2.1 hb.2.2.2.2 e
 self := fun _ _ _ _ _ st h => wpAny_pyIter_zip st.z h
theorem zapart (n a1 a2 : Nat) (h1 : a1 < n) (h2 : a2 < n) : ZipApart (n + 4) (n + 2) (n + 3) n (n + 1) a1 a2 := by
 constructor <;> exact fun e => absurd (show (_ : Nat) = _ from e) (by omega)
theorem boot_zip_ : bootBuiltins "zip" = some (.type "zip") := by decide +kernel
@[simp] def dZipI (f g : DE) : DI := fun d m Q => f d m fun x m1 => g d m1 fun y m2 => ∃ ps qs, x = .dat (.tuple ps) ∧ y = .dat (.tuple qs) ∧ Q ((ps.zip qs).map fun z => .dat (.tuple [z.1, z.2])) m2
section
variable {X : Cx} {a b : Expr} {elts : List Expr} {j : Nat} {f g : DE} {pos p p2 : Pos}
theorem li_zip (hg : Gl X "zip") (hm : X.mg "zip" = none) (ha : PE X a (LE X.K f)) (hb : PE X b (LE X.K g)) (hs : starEach [a, b] X.env = [(false, eval a X.env), (false, eval b X.env)] := by rfl) (hs2 : starEach [b] X.env = [(false, eval b X.env)] := by rfl) :
  PI X (.Tuple elts j p2) (.Call (.Name "zip" p) [a, b] [] pos) (LI X.K (dZipI f g)) := by
 intro pins s σ H R I h; obtain ⟨Z, d, m, ZZ, ok, rs, h, k⟩ := h; have hA := la_cons (X := X) ha (la_cons hb la_nil (by rw [hs2]; rfl)) (by rw [hs, hs2]) pos pins s σ H (fun vs H1 => ∃ a1 a2 xs ys ps qs m1, vs = [.ref a1, .ref a2] ∧ SqT X.K H1 a1 xs ∧ SqT X.K H1 a2 ys ∧ RPs X.K Z m1 H1 ps xs ∧ RPs X.K Z m1 H1 qs ys ∧
   ZZ ((ps.zip qs).map fun z => .dat (.tuple [z.1, z.2])) m1 ∧ Ext X.K Z m H m1 H1 ∧ Ok X.K Z m1 H1) I ⟨Z, d, m, fun ds m1 => match ds with | [x, y] => ∃ ps qs, x = .dat (.tuple ps) ∧ y = .dat (.tuple qs) ∧ ZZ ((ps.zip qs).map fun z => .dat (.tuple [z.1, z.2])) m1 | _ => False, ok, rs, h, fun xs m1 vs H1 q e1 ok1 rd => ?_⟩
 ·refine Call_ (ld_blt I hg hm boot_zip_ (PyProof.Rows.callWith_type1 (thn hA fun us s1 ⟨vs, H1, I1, r1, q1⟩ => ?_) (by rw [hs, hs2]) (by rw [hs2]; rfl)))
  obtain ⟨a1, a2, xs, ys, ps, qs, m1, e, h1, h2, rp, rq, q, e1, ok1⟩ := q1; subst e; obtain ⟨u1, u2, rfl, ru1, ru2⟩ := vals2 r1
  cases ru1
  cases ru2
  obtain ⟨its1, rv1, pt1, l1⟩ := I1.tuple h1; obtain ⟨its2, rv2, pt2, l2⟩ := I1.tuple h2; refine zt_call (show s1.heap.IsTuple a1 its1.toArray from pt1) (show s1.heap.IsTuple a2 its2.toArray from pt2) fun h' n hn st kp => ?_
  have D : ZipApart (n + 4) (n + 2) (n + 3) n (n + 1) a1 a2 := zapart n a1 a2 (by obtain ⟨o, ho, _⟩ := pt1; rw [hn]; exact Heap.lt_size ho) (by obtain ⟨o, ho, _⟩ := pt2; rw [hn]; exact Heap.lt_size ho)
  refine wpAny_pyIter_zip (s := { s1 with heap := h' }) st.z ?_; refine ⟨n + 4, [n + 4, n + 2, n + 3, n, n + 1], _, _, H1, rfl, I1.kept (t' := s1.toks) kp, turn_zip (n := min xs.length ys.length) D, st, fun c hc => ?_, k _ m1 H1 _ q e1 ok1 ?_⟩
  ·have hle : s1.heap.objs.size ≤ c := by
    simp only [List.mem_cons, List.not_mem_nil, or_false] at hc; subst hn; rcases hc with rfl | rfl | rfl | rfl | rfl
    ·exact Nat.le_add_right _ 4
    ·exact Nat.le_add_right _ 2
    ·exact Nat.le_add_right _ 3
    ·exact Nat.le_refl _
    ·exact Nat.le_add_right _ 1
   exact I1.fpOk hle (I1.hok.fresh hle)
  ·intro m2 H2 e2; have q1 := e2.t a1 xs h1
   have q2 := e2.t a2 ys h2
   have lp := rp.length
   have lq := rq.length
   refine ⟨fun i x hx => ?_, ?_, xs, ys, q1, q2, rfl⟩
   ·rw [List.getElem?_map] at hx
    cases ez : (ps.zip qs)[i]? with
    | none => rw [ez] at hx; cases hx
    | some z =>
     rw [ez] at hx
     cases hx
     obtain ⟨z1, z2⟩ := z; obtain ⟨ea, eb⟩ := List.getElem?_zip_eq_some.mp ez; obtain ⟨v1, hv1, rv1'⟩ := rp.get ea; obtain ⟨v2, hv2, rv2'⟩ := rq.get eb; have b1 := (List.getElem?_eq_some_iff.mp hv1).1
     have b2 := (List.getElem?_eq_some_iff.mp hv2).1
     refine ⟨⟨by omega, xs, ys, q1, q2, rfl⟩, fun v H3 ⟨pp, x', y', ev, hp, eH, al⟩ => ?_⟩
     obtain ⟨w1, w2⟩ := al xs ys q1 q2; rw [hv1] at w1; rw [hv2] at w2
     cases w1
     cases w2
     refine .inr ⟨pp, [z1, z2], [_, _], rfl, ev, hp, eH, ?_⟩; simp only [RPs]; exact ⟨_, _, rfl, rv1', _, _, rfl, rv2', rfl⟩
   ·show ((ps.zip qs).map _).length = min xs.length ys.length
    rw [List.length_map, List.length_zip, lp, lq]
 ·match xs, q, rd with
  | [], q, _ => exact q.elim
  | [_], q, _ => exact q.elim
  | _ :: _ :: _ :: _, q, _ => exact q.elim
  | [x, y], q, rd =>
  obtain ⟨ps, qs, rfl, rfl, q⟩ := q; obtain ⟨v, w, rfl, g1, g2⟩ := rd.two; simp only [RD, RP] at g1 g2; obtain ⟨a1, xs, rfl, h1, h2⟩ := g1; obtain ⟨a2, ys, rfl, h3, h4⟩ := g2; exact ⟨a1, a2, xs, ys, ps, qs, m1, rfl, h1, h3, h2, h4, q, e1, ok1⟩
end
end DL
namespace DL
open PySem PySem.Spec PyProof.Rows L2
section
variable {X : Cx} {a e o : Expr} {es : List Expr} {f g : DE} {ga : DA} {pos p p1 p2 : Pos}
theorem strs_vals : ∀ {zs : List Str} {us : List Value}, Vals (zs.map V.str) us → StrsAre us zs
 | [], _, .nil => .nil
 | z :: zs, _, .cons ⟨t, e⟩ r => by
  rw [e]; exact .cons z t (strs_vals r)
def rJoin (K : PySem.W.Frag) : V → List V → Hp → VK → Prop := fun x xs H Q => ∃ (z : Str) (a : Addr) (zs : List Str), x = .str z ∧ xs = [.ref a] ∧ SqL K H a (zs.map V.str) ∧ z.length ≤ 16 ∧ (zs.map (·.length)).sum + zs.length ≤ 1048576 ∧ Q (.str (Txt.join z zs)) H
theorem mt_join : MtR X "str.join" (rJoin X.K) := by
 intro pins s σ H x xs v us Q I rx rs ⟨z, a, zs, e1, e2, hq, h1, h2, q⟩; subst e1 e2; obtain ⟨t, rfl⟩ := rx; obtain ⟨u, rfl, ru⟩ := vals1 rs
 cases ru
 obtain ⟨its, r', pl, hz⟩ := I.list hq; exact join_listW pl.isList (strs_vals r') h1 h2 fun t' k => ⟨.str _, H, I.tok _, ⟨_, rfl⟩, q⟩
@[simp] def dJoin (z : Str) (g : DE) : DE := fun d m Q => g d m fun y m1 => ∃ zs : List Str, y = .dat (.list (zs.map .str)) ∧ z.length ≤ 16 ∧ (zs.map (·.length)).sum + zs.length ≤ 1048576 ∧ Q (.dat (.str (Txt.join z zs))) m1
theorem le_join {z : Str} {jc : Nat} {apos cpos : Pos} (he : PE X e (LE X.K g))
  (hbase : attributeBase (.Constant (.str z) jc p) "join" X.env (eval (.Constant (.str z) jc p) X.env) = eval (.Constant (.str z) jc p) X.env := by rfl)
  (hfew : ((backTo cpos (starEach [e] X.env)).all (fun x => !x.1) && (backToKw cpos (keywordEach [] X.env)).all (fun x => x.1.isSome) && decide ([e].length + ([] : List Keyword).length + (if ([] : List Keyword).isEmpty then 0 else 1) < 30)) = true := by rfl)
  (hline : (apos.endLine == cpos.line) = true := by rfl) (hs : starEach [e] X.env = (false, eval e X.env) :: starEach [] X.env := by rfl) : PE X (.Call (.Attribute (.Constant (.str z) jc p) "join" apos) [e] [] cpos) (LE X.K (dJoin z g)) :=
 PE.imp (pe_bm (T := "str") (id := "str.join") (name := "join") PySem.F.plainAttrs_str PySem.F.slot_str_join PySem.F.type_str_join mt_join pe_str (pa_cons he pa_nil hs) hbase hfew hline hs rfl) fun s H Q h => by
  obtain ⟨Z, d, m, R, ok, rs, h, k⟩ := h; refine ⟨rfl, ?_⟩; refine ⟨Z, d, m, _, ok, rs, h, fun y m1 v H1 ⟨zs, ey, h1, h2, q⟩ e1 ok1 rd => ?_⟩; subst ey; simp only [RD, RP] at rd; obtain ⟨a, vs, rfl, _, hq, hr⟩ := rd
  cases rps_strs hr
  exact ⟨z, a, zs, rfl, rfl, hq, h1, h2, k _ m1 _ H1 q e1 ok1 .ofStr⟩
theorem boot_all_ : bootBuiltins "all" = some (.builtin "all") := by decide +kernel
@[simp] def bAll : DC
 | [.dat (.list ps)], m, Q => ∃ bs : List Bool, ps = bs.map .bool ∧ Q (.dat (.bool (bs.all id))) m
 | _, _, _ => False
theorem rps_bools {K : PySem.W.Frag} {Z : Addr → Prop} {m : Mu} {H : Hp} : ∀ {bs : List Bool} {vs : List V}, RPs K Z m H (bs.map PyData.bool) vs → vs = bs.map V.bl
 | [], vs, h => by simpa [RPs] using h
 | z :: zs, vs, h => by
  simp only [List.map_cons, RPs] at h; obtain ⟨v, r, rfl, h1, h2⟩ := h; simp only [RP] at h1; subst h1; rw [rps_bools h2]; rfl
theorem vals_bools : ∀ {bs : List Bool} {us : List Value}, Vals (bs.map V.bl) us → us = bs.map Value.bool
 | [], _, .nil => rfl
 | b :: bs, _, .cons r t => by
  cases r
  rw [vals_bools t]; rfl
theorem all_range (bs : List Bool) : (List.range bs.length).all (fun i => (bs[i]?).getD true) = bs.all id := by
 rw [Bool.eq_iff_iff, List.all_eq_true, List.all_eq_true]
 constructor
 ·intro h b hb; obtain ⟨i, hi, rfl⟩ := List.mem_iff_getElem.mp hb; have := h i (List.mem_range.mpr hi)
  simpa [List.getElem?_eq_getElem hi] using this
 ·intro h i hi; have hi' := List.mem_range.mp hi
  rw [List.getElem?_eq_getElem hi']; exact h _ (List.getElem_mem hi')
theorem cd_all (hc : X.calm = true) : CallD X (.builtin "all") bAll := by
 intro pins s σ H Z m xs ds us R Q I ok rv rd h k; unfold bAll at h
 split at h
 ·obtain ⟨v, rfl, r1⟩ := rd.one; obtain ⟨bs, rfl, hh⟩ := h; simp only [RD, RP] at r1; obtain ⟨a, vs, rfl, _, h1, h2⟩ := r1
  cases rps_bools h2
  obtain ⟨u, rfl, ru⟩ := vals1 rv
  cases ru
  obtain ⟨its, r', pl, hz⟩ := I.list h1
  cases vals_bools r'
  have ne : a ≠ s.heap.objs.size := by
   obtain ⟨o, ho, _⟩ := pl.isList; exact Nat.ne_of_lt (Heap.lt_size ho)
  refine call_all_walk (wpAny_pyIter_list pl.isList ?_); refine ⟨s.heap.objs.size, _, _, _, _, _, fun i => (bs[i]?).getD true, rfl, Walks.list (A := X.A.in1) (show X.A.in1.handled = none from I.ok.hd hc) s.heap.objs.size a ne (bs.map Value.bool).toArray, ⟨⟨_, Heap.get?_push_size _ rfl, rfl, rfl⟩, pl.isList.at fun o e => Heap.get?_push_of_some _ e⟩, ?_, ?_⟩
  ·intro i v s' Q' E' hv hQ; have hv' : (bs.map Value.bool)[i]? = some v := by simpa using hv
   rw [List.getElem?_map] at hv'
   cases eb : bs[i]? with
   | none => rw [eb] at hv'; cases hv'
   | some b =>
    have hQ' : Q' ((bs[i]?).getD true) s' := hQ
    rw [eb] at hv' hQ'
    cases hv'
    exact wpAny_truthy_bool hQ'
  ·intro h' tk kp; have e : ((bs.map Value.bool).toArray.size) = bs.length := by simp
   rw [e, all_range]; refine ⟨.bl _, H, I.kept fun b o q => kp b o ?_ (Heap.get?_push_of_some _ q), rfl, k _ m _ H hh Ext.refl ok .ofBl⟩; intro hb; have : b = s.heap.objs.size := by simpa using hb
   exact absurd (Heap.lt_size q) (by rw [this]; exact Nat.lt_irrefl _)
 ·exact h.elim
theorem pick_len (x : Str) (l u : Option (Int × Tok)) : (slicePicked x l u none).length ≤ x.length := by
 unfold slicePicked Builtin.Str.strSliceIndices sliceRange; simp only [List.length_map, List.length_range, Option.map_none, Option.getD_none]; have h1 : (1 : Int) > 0 := by decide
 simp only [h1, if_true]
 cases l <;> cases u <;> simp only [Option.map_none, Option.map_some] <;> repeat' split <;> omega
theorem fm_len {α β : Type} (f : α → Option β) : ∀ xs : List α, (xs.filterMap f).length ≤ xs.length
 | [] => Nat.le_refl _
 | x :: xs => by
  rw [List.filterMap_cons]; have := fm_len f xs
  cases f x with
  | none => exact Nat.le_succ_of_le this
  | some y => exact Nat.succ_le_succ this
def rSlS : V → Option Int → Option Int → Hp → VK → Prop := fun x lo hi H Q => ∃ z : Str, x = .str z ∧ z.length ≤ sizeLine ∧ ∀ y : Str, y.length ≤ z.length → Q (.str y) H
theorem part_of {v : Value} {lo : Option Int} (h : IsPart v lo) : ∃ l, v = partValue l := by
 cases h with
 | none => exact ⟨none, rfl⟩
 | int i t => exact ⟨some (i, t), rfl⟩
theorem sl_str : SlR X rSlS := by
 intro pins s σ H x v vl vu lo hi sl Q I rx hs pl pu h; obtain ⟨z, rfl, hz, q⟩ := h; obtain ⟨t, rfl⟩ := rx; obtain ⟨l, rfl⟩ := part_of pl; obtain ⟨u, rfl⟩ := part_of pu; refine ⟨"str", _, PySem.F.slot_str_getitem.lookup, typeIs_str s z t, ?_⟩; refine wpAny_getItem_str_slice (l := l) (u := u) (st := none) hs rfl ?_; unfold sliceMade
 split
 ·exact ⟨.str z, H, I, ⟨_, rfl⟩, q z (Nat.le_refl _)⟩
 ·have hl : (⟨((slicePicked z l u none).filterMap (z.cps[·]?)).toArray⟩ : Str).length ≤ z.length := by
   show ((slicePicked z l u none).filterMap (z.cps[·]?)).toArray.size ≤ z.length
   rw [List.size_toArray]; exact Nat.le_trans (fm_len _ _) (pick_len z l u)
  exact ⟨Nat.le_trans hl hz, .str _, H, I.tok _, ⟨_, rfl⟩, q _ hl⟩
@[simp] def dApp (fo g : DE) : DE := fun d m Q => fo d m fun o m1 => ∃ c, o = .cel c ∧ (∃ ys, m1 c = some (.l ys)) ∧ g d m1 fun x m2 => ∃ xs p, x = .dat p ∧ m2 c = some (.l xs) ∧ xs.length < sizeLine ∧ Q (.dat .none) (updM m2 c (.l (xs ++ [p])))
theorem le_app {apos cpos : Pos} (ho : PE X o (LE X.K f)) (he : PE X e (LE X.K g)) (hbase : attributeBase o "append" X.env (eval o X.env) = eval o X.env := by rfl)
  (hfew : ((backTo cpos (starEach [e] X.env)).all (fun x => !x.1) && (backToKw cpos (keywordEach [] X.env)).all (fun x => x.1.isSome) && decide ([e].length + ([] : List Keyword).length + (if ([] : List Keyword).isEmpty then 0 else 1) < 30)) = true := by rfl)
  (hline : (apos.endLine == cpos.line) = true := by rfl) (hs : starEach [e] X.env = (false, eval e X.env) :: starEach [] X.env := by rfl) : PE X (.Call (.Attribute o "append" apos) [e] [] cpos) (LE X.K (dApp f g)) :=
 PE.imp (pe_bm (T := "list") (id := "list.append") (name := "append") PySem.F.plainAttrs_list PySem.F.slot_list_append PySem.F.type_list_append mt_append ho (pa_cons he pa_nil hs) hbase hfew hline hs rfl) fun s H Q h => by
  obtain ⟨Z, d, m, R, ok, rs, h, k⟩ := h; refine ⟨Z, d, m, _, ok, rs, h, fun x m1 v H1 ⟨c, ex, ⟨xs0, hx0⟩, q⟩ e1 ok1 rd => ?_⟩; subst ex; obtain ⟨rfl, hc⟩ := rd; obtain ⟨vs0, g0, _⟩ := ok1.l hx0; refine ⟨.inl ⟨rfl, vs0, .inl (.inl g0)⟩, Z, d, m1, _, ok1, rs.ext e1, q, fun y m2 w H2 ⟨xs, pp, ey, hm, hz, q2⟩ e2 ok2 rd2 => ?_⟩; subst ey; obtain ⟨vs, g1, g2⟩ := ok2.l hm; refine ⟨c, vs, w, rfl, rfl, g1, by rw [g2.length]; exact hz, ?_⟩
  refine k _ _ _ _ q2 (e1.trans (e2.trans (Ext.put ok2 hm g1))) (ok2.put hm g1 (show RPs _ _ _ _ _ _ from g2.append ?_)) (by simp only [RD, RP])
  simp only [RPs]; exact ⟨w, [], rfl, rd2, rfl⟩
@[simp] def dSlX (f : DE) (lo hi : DO) : DE := fun d m Q => f d m fun x m1 => lo d m1 fun l m2 => hi d m2 fun u m3 =>
 (∃ xs, x = .dat (.tuple xs) ∧ Q (.dat (.tuple (cutP xs l u))) m3) ∨ (∃ xs, x = .dat (.list xs) ∧ Q (.dat (.list (cutP xs l u))) m3) ∨ (∃ z : Str, x = .dat (.str z) ∧ z.length ≤ sizeLine ∧ ∀ y : Str, y.length ≤ z.length → Q (.dat (.str y)) m3)
theorem le_slX {lo hi : Option Expr} {tl th : DO} (ha : PE X a (LE X.K f)) (hl : PO X lo (LO X.K tl)) (hu : PO X hi (LO X.K th)) : PE X (.Subscript a (.Slice lo hi none p2) pos) (LE X.K (dSlX f tl th)) :=
 PE.imp (pe_slice (sl_tup.or (sl_whole.or (sl_list.or sl_str))) ha hl hu) fun s H Q h => by
  obtain ⟨Z, d, m, R, ok, rs, h, k⟩ := h; refine ⟨Z, d, m, _, ok, rs, h, fun x m1 v H1 q e1 ok1 rx => ⟨Z, d, m1, _, ok1, rs.ext e1, q, fun l m2 H2 q2 e2 ok2 => ⟨Z, d, m2, _, ok2, (rs.ext e1).ext e2, q2, fun u m3 H3 q3 e3 ok3 => ?_⟩⟩⟩; have e13 := e1.trans (e2.trans e3)
  have rx3 := rx.ext (e2.trans e3)
  rcases q3 with ⟨xs, rfl, q4⟩ | ⟨xs, rfl, q4⟩ | ⟨z, rfl, hz, q4⟩
  ·simp only [RD, RP] at rx3; obtain ⟨a, vs, rfl, h1, h2⟩ := rx3
   by_cases hw : HT.sIx vs.length 0 l = 0 ∧ HT.sIx vs.length vs.length u = vs.length
   ·refine .inr (.inl ⟨a, vs, rfl, h1, hw, k _ m3 _ H3 q4 e13 ok3 ?_⟩); rw [h2.length] at hw; rw [cut_whole xs hw]; simp only [RD, RP]; exact ⟨a, vs, rfl, h1, h2⟩
   ·refine .inl ⟨a, vs, rfl, h1, hw, fun p hp => ?_⟩; have sm : Same H3 (upd H3 p (.tup (cutV vs l u))) := same_new hp
    refine k _ m3 _ _ q4 (e13.trans (ok3.ext sm)) (ok3.grow sm) ?_; simp only [RD, RP]; exact ⟨p, _, rfl, .inl (.inl upd_same), RPs.ext (ok3.ext sm) _ _ h2.cut⟩
  ·simp only [RD, RP] at rx3; obtain ⟨a, vs, rfl, h0, h1, h2⟩ := rx3; refine .inr (.inr (.inl ⟨a, vs, rfl, h1, fun p hp => ?_⟩)); have sm : Same H3 (upd H3 p (.lst (cutV vs l u))) := same_new hp
   refine k _ m3 _ _ q4 (e13.trans (ok3.ext sm)) (ok3.grow sm) ?_; simp only [RD, RP]; exact ⟨p, _, rfl, ok_none ok3 hp, .inl (.inl upd_same), RPs.ext (ok3.ext sm) _ _ h2.cut⟩
  ·cases rx3.str
   exact .inr (.inr (.inr ⟨z, rfl, hz, fun y hy => k _ m3 _ H3 (q4 y hy) e13 ok3 .ofStr⟩))
end
end DL
namespace DL
open PySem PySem.Spec PyProof.Rows L2
def valP {κ : Type} [DecidableEq κ] (kvs : List (κ × PyData)) (k : κ) : Option PyData := (kvs.find? fun kv => decide (kv.1 = k)).map (·.2)
def putP {κ : Type} [DecidableEq κ] (kvs : List (κ × PyData)) (k : κ) (p : PyData) : List (κ × PyData) :=
 if (kvs.any fun kv => decide (kv.1 = k)) = true then kvs.map (fun kv => if kv.1 = k then (kv.1, p) else kv) else kvs ++ [(k, p)]
section
variable {κ : Type} [DecidableEq κ] {K : PySem.W.Frag} {Z : Addr → Prop} {m : Mu} {H : Hp}
theorem RKV.length : ∀ {kvs : List (κ × PyData)} {vs : List (κ × V)}, RKV K Z m H kvs vs → vs.length = kvs.length
 | [], _, h => by cases (show _ = [] from h); rfl
 | _ :: _, _, ⟨v, r, h1, _, h3⟩ => by subst h1; rw [List.length_cons, List.length_cons, RKV.length h3]
theorem RKV.val {k : κ} {p : PyData} : ∀ {kvs : List (κ × PyData)} {vs : List (κ × V)}, RKV K Z m H kvs vs → valP kvs k = some p → ∃ v, valV vs k = some v ∧ RP K Z m H p v
 | [], _, _, e => by simp [valP] at e
 | (j, q) :: xs, _, ⟨v, r, h1, h2, h3⟩, e => by
  subst h1; unfold valP at e; unfold valV
  by_cases c : j = k
  ·simp [List.find?_cons, c] at e ⊢; exact e ▸ h2
  ·simp [List.find?_cons, c] at e ⊢; have := RKV.val (k := k) (p := p) h3 (by unfold valP; simpa using e)
   unfold valV at this; simpa using this
theorem RKV.any {k : κ} : ∀ {kvs : List (κ × PyData)} {vs : List (κ × V)}, RKV K Z m H kvs vs → (vs.any fun kv => decide (kv.1 = k)) = (kvs.any fun kv => decide (kv.1 = k))
 | [], _, h => by cases (show _ = [] from h); rfl
 | _ :: _, _, ⟨v, r, h1, _, h3⟩ => by subst h1; rw [List.any_cons, List.any_cons, RKV.any h3]
theorem RKV.repl {k : κ} {p : PyData} {v : V} (hp : RP K Z m H p v) : ∀ {kvs : List (κ × PyData)} {vs : List (κ × V)}, RKV K Z m H kvs vs → RKV K Z m H (kvs.map fun kv => if kv.1 = k then (kv.1, p) else kv) (vs.map fun kv => if kv.1 = k then (kv.1, v) else kv)
 | [], _, h => by cases (show _ = [] from h); exact (rfl : ([] : List (κ × V)) = [])
 | (j, q) :: xs, _, ⟨w, r, h1, h2, h3⟩ => by
  subst h1; rw [List.map_cons, List.map_cons]
  by_cases c : j = k
  ·rw [if_pos c, if_pos c]; exact ⟨v, _, rfl, hp, RKV.repl hp h3⟩
  ·rw [if_neg c, if_neg c]; exact ⟨w, _, rfl, h2, RKV.repl hp h3⟩
theorem RKV.snoc {k : κ} {p : PyData} {v : V} (hp : RP K Z m H p v) : ∀ {kvs : List (κ × PyData)} {vs : List (κ × V)}, RKV K Z m H kvs vs → RKV K Z m H (kvs ++ [(k, p)]) (vs ++ [(k, v)])
 | [], _, h => by cases (show _ = [] from h); exact ⟨v, [], rfl, hp, rfl⟩
 | _ :: _, _, ⟨w, r, h1, h2, h3⟩ => by subst h1; exact ⟨w, _, rfl, h2, RKV.snoc hp h3⟩
theorem RKV.put {k : κ} {p : PyData} {v : V} {kvs : List (κ × PyData)} {vs : List (κ × V)} (h : RKV K Z m H kvs vs) (hp : RP K Z m H p v) : RKV K Z m H (putP kvs k p) (putK vs k v) := by
 unfold putP putK; rw [h.any]
 split
 ·exact h.repl hp
 ·exact h.snoc hp
end
@[simp] def keyD : D → Option Key
 | .dat (.str z) => some (.inr z)
 | .dat (.int i) => some (.inl i)
 | _ => none
theorem RD.key {K : PySem.W.Frag} {Z : Addr → Prop} {m : Mu} {H : Hp} {x : D} {v : V} {k : Key} (h : RD K Z m H x v) (e : keyD x = some k) : v = kV k := by
 unfold keyD at e
 split at e
 ·cases e; cases h.str; rfl
 ·cases e; cases h.int; rfl
 ·cases e
end DL
namespace DL
open PySem PySem.Spec PyProof.Rows L2
def KEnt (w : World) : List DictEntry → List (Str × V) → Prop
 | [], [] => True
 | e :: es, (z, v) :: kvs => e.hash = PyData.keyHash w.params z ∧ (∃ t, e.key = .str z t) ∧ RelV v e.val ∧ KEnt w es kvs
 | _, _ => False
def inrs {α : Type} (kvs : List (Str × α)) : List (Key × α) := kvs.map fun kv => (.inr kv.1, kv.2)
theorem KEnt.out {P : Program} {w : World} : ∀ {es : List DictEntry} {kvs : List (Str × V)}, KEnt w es kvs → ∃ vs : List (Str × Value), KV (inrs kvs) (inrs vs) ∧ Pairs (mixKind P w) es (inrs vs) ∧ (∀ e ∈ es, ∃ k, (mixKind P w).is k e.key = true ∧ e.hash = (mixKind P w).hash k) ∧ vs.map (·.1) = kvs.map (·.1)
 | [], [], _ => ⟨[], .nil, .nil, by simp, rfl⟩
 | e :: es, (z, v) :: kvs, ⟨h1, ⟨t, h2⟩, h3, h4⟩ => by
  obtain ⟨vs, q1, q2, q3, q4⟩ := KEnt.out (P := P) h4; have hk : (mixKind P w).is (.inr z) e.key = true := by
   rw [h2]; exact decide_eq_true (rfl : z = z)
  refine ⟨(z, e.val) :: vs, .cons ⟨rfl, h3⟩ q1, .cons hk rfl q2, fun x hx => ?_, by simp [q4]⟩
  rcases List.mem_cons.mp hx with rfl | hx
  ·exact ⟨_, hk, h1⟩
  ·exact q3 x hx
 | [], _ :: _, h => h.elim
 | _ :: _, [], h => h.elim
end DL
namespace DL
open PySem PySem.Spec PyProof.Rows L2
section
variable {X : Cx} {e g : Expr} {f fg : DE} {tg : Expr} {pos : Pos}
@[simp] def aInD : D2
 | .dat p, .dat (.list ys), m, Q => PyData.canLayAll0 ys = true ∧ p.canLay0 = true ∧ p.depth ≤ 50 ∧ Q (.dat (.bool (ys.any fun y => y.eqv p))) m
 | .dat p, .dat (.tuple ys), m, Q => PyData.canLayAll0 ys = true ∧ p.canLay0 = true ∧ p.depth ≤ 50 ∧ Q (.dat (.bool (ys.any fun y => y.eqv p))) m
 | _, _, _, _ => False
theorem od_inD (hu : X.A.units + 100 < cLine) : OpD X (compareOp .In) aInD := by
 intro pins s σ H Z m x y dx dy v u R Q I ok rx ry r1 r2 h k; unfold aInD at h
 split at h
 ·rename_i p ys; obtain ⟨h1, h2, h3, h4⟩ := h; obtain ⟨as, ra⟩ := RP.reads I p x v r1 rx; obtain ⟨bs, rb⟩ := RP.reads I _ y u r2 ry; exact SeqAt.in_list_reads rb ra h1 h2 (by omega) ⟨.bl _, H, I, rfl, k _ m _ H h4 Ext.refl ok .ofBl⟩
 ·rename_i p ys; obtain ⟨h1, h2, h3, h4⟩ := h; obtain ⟨as, ra⟩ := RP.reads I p x v r1 rx; obtain ⟨bs, rb⟩ := RP.reads I _ y u r2 ry; exact SeqAt.in_tuple_reads rb ra h1 h2 (by omega) ⟨.bl _, H, I, rfl, k _ m _ H h4 Ext.refl ok .ofBl⟩
 ·exact h.elim
end
end DL
namespace DL
open PySem PySem.Spec PyProof.Rows L2
@[simp] def keysD : List D → Option (List Key)
 | [] => some []
 | x :: xs => match keyD x, keysD xs with
  | some k, some ks => some (k :: ks)
  | _, _ => none
theorem RDs.keys {K : PySem.W.Frag} {Z : Addr → Prop} {m : Mu} {H : Hp} : ∀ {xs : List D} {vs : List V} {ks : List Key}, RDs K Z m H xs vs → keysD xs = some ks → vs = ks.map kV
 | [], vs, ks, h, e => by
  cases e
  exact h
 | x :: xs, vs, ks, h, e => by
  obtain ⟨v, r, rfl, h1, h2⟩ := h; unfold keysD at e
  cases e1 : keyD x with
  | none => rw [e1] at e; cases e
  | some k =>
   cases e2 : keysD xs with
   | none => rw [e1, e2] at e; cases e
   | some ks' =>
    rw [e1, e2] at e
    cases e
    rw [h1.key e1, RDs.keys h2 e2]; rfl
end DL
namespace DL
open PySem PySem.Spec PyProof.Rows L2
def KTEnt (K : PySem.W.Frag) (w : World) : List DictEntry → List (List Str × Addr × V) → Prop
 | [], [] => True
 | e :: es, (zs, a, v) :: xs => e.hash = reduceHash (Builtin.Tuple.tupleHashOf (zs.map (PyData.keyHash w.params))) ∧ e.key = .ref a ∧ RelV v e.val ∧ KT K a zs ∧ KTEnt K w es xs
 | _, _ => False
def KTDt (K : PySem.W.Frag) (w : World) (c : Addr) (xs : List (List Str × Addr × V)) : Prop :=
 ∃ (o : Obj) (es : Array DictEntry) (ep : Nat), K.lookup c = some o ∧ o.cls = .type "dict" ∧ o.dict = none ∧ o.slots = #[] ∧ o.data = .dict es ep ∧ KTEnt K w es.toList xs ∧ (xs.map (·.1)).Nodup ∧ (c == sysModules) = false
theorem kV_strs (zs : List Str) : (zs.map (Sum.inr : Str → Key)).map kV = zs.map V.str := by
 rw [List.map_map]; rfl
section
variable {X : Cx} {pins : List (Addr × Obj)} {σ : L2.St} {H : Hp} {s : Shared}
theorem key_sq {a : Addr} {zs : List Str} (I : Inv X pins σ H s) (h : SqT X.K H a (zs.map V.str)) : (tupleKind (mixKind X.prog X.w)).is s.heap (zs.map Sum.inr) a := by
 obtain ⟨its, r, ⟨o, h1, h2, n, h3⟩, _⟩ := I.tuple h; rw [← kV_strs] at r; exact ⟨o, its.toArray, n, h1, h2, h3, by simpa using items_are r⟩
theorem KTEnt.out (I : Inv X pins σ H s) : ∀ {es : List DictEntry} {xs : List (List Str × Addr × V)}, KTEnt X.K X.w es xs → ∃ ys : List (List Key × Addr × Value), es = ys.map (entryOfKey (tupleKind (mixKind X.prog X.w))) ∧ (∀ y ∈ ys, (tupleKind (mixKind X.prog X.w)).is s.heap y.1 y.2.1) ∧ ys.map (·.1) = xs.map (fun x => x.1.map Sum.inr) ∧
  ∀ zs : List Str, RelO (valV (xs.map fun x => (x.1, x.2.2)) zs) ((atKey ys (zs.map Sum.inr)).map (·.2))
 | [], [], _ => ⟨[], rfl, by simp, rfl, fun _ => True.intro⟩
 | e :: es, (zs, a, v) :: xs, ⟨h1, h2, h3, h4, h5⟩ => by
  obtain ⟨ys, q1, q2, q3, q4⟩ := KTEnt.out I h5; refine ⟨(zs.map Sum.inr, a, e.val) :: ys, ?_, fun y hy => ?_, by simp [q3], fun z => ?_⟩
  ·rw [List.map_cons, ← q1]
   congr 1
   obtain ⟨eh, ek, ev⟩ := e; simp only at h1 h2; subst h1 h2; unfold entryOfKey
   congr 1
   show _ = reduceHash (Builtin.Tuple.tupleHashOf ((zs.map Sum.inr).map (mixKind X.prog X.w).hash))
   rw [List.map_map]; rfl
  ·rcases List.mem_cons.mp hy with rfl | hy
   ·exact key_sq I h4.sq
   ·exact q2 y hy
  ·by_cases c : zs = z
   ·subst c; unfold valV atKey; simp only [List.map_cons, List.find?_cons, decide_true, Option.map_some]; exact h3
   ·have c' : ¬ zs.map (Sum.inr : Str → Key) = z.map Sum.inr := fun h => c ((List.map_inj_right (fun _ _ q => Sum.inr.inj q)).mp h)
    have := q4 z
    unfold valV atKey at this ⊢; simp only [List.map_cons, List.find?_cons, decide_eq_false c, decide_eq_false c']; exact this
 | [], _ :: _, h => h.elim
 | _ :: _, [], h => h.elim
theorem KTDt.out {c : Addr} {xs : List (List Str × Addr × V)} (I : Inv X pins σ H s) (q : KTDt X.K X.w c xs) : (c == sysModules) = false ∧ ∃ ys : List (List Key × Addr × Value), s.heap.DictOfH (tupleKind (mixKind X.prog X.w)) c ys ∧
  ∀ zs : List Str, RelO (valV (xs.map fun x => (x.1, x.2.2)) zs) ((atKey ys (zs.map Sum.inr)).map (·.2)) := by
 obtain ⟨o, es, ep, h1, h2, h3, h4, h5, h6, h7, h8⟩ := q; obtain ⟨ys, q1, q2, q3, q4⟩ := KTEnt.out I h6; refine ⟨h8, ys, ⟨o, es, ep, I.kIn _ _ h1, ⟨h2, h3, h4⟩, h5, q1, q2, ?_⟩, q4⟩; rw [q3]; have e : xs.map (fun x => x.1.map (Sum.inr : Str → Key)) = (xs.map (·.1)).map (fun z => z.map Sum.inr) := by simp
 rw [e]; exact List.Pairwise.map _ (fun a b hab h => hab ((List.map_inj_right (fun _ _ q => Sum.inr.inj q)).mp h)) h7
end
theorem KT.rp {K : PySem.W.Frag} {a : Addr} {zs : List Str} {Z : Addr → Prop} {m : Mu} {H : Hp} (h : KT K a zs) : RP K Z m H (.tuple (zs.map PyData.str)) (.ref a) := by
 simp only [RP]; exact ⟨a, _, rfl, h.sq, strs_rps zs⟩
end DL
namespace DL
open PySem PySem.Spec PyProof.Rows L2
def Ite (K : PySem.W.Frag) (l : Addr) (n : Nat) : It :=
 ⟨fun i H => i < n ∧ ∃ xs, SqL K H l xs ∧ n = xs.length, fun i H v H' => ∃ p x, v = .ref p ∧ H p = none ∧ H' = upd H p (.tup [.int i, x]) ∧ ∀ xs, SqL K H l xs → xs[i]? = some x,
  fun i H => i = n ∧ ∃ xs, SqL K H l xs ∧ n = xs.length⟩
abbrev Est (h : Heap) (e it l : Addr) (i : Nat) : Prop := (∃ old, IsEnum h e it i old) ∧ h.IsListIter it l i
theorem turn_enum {P : Program} {w : World} {K : PySem.W.Frag} {elts : List Expr} {j : Nat} {pos : Pos} {e it l : Addr} {n : Nat} (hei : e ≠ it) :
  Turn P w K (.Tuple elts j pos) (Ite K l n) [e, it] e (fun i h => Est h e it l i) where
 mem := by simp
 obj := fun i h st b hb => by
  obtain ⟨⟨old, h1⟩, ⟨o2, e2, _, d2⟩⟩ := st; simp only [List.mem_cons, List.not_mem_nil, or_false] at hb; rcases hb with rfl | rfl
  ·exact ⟨_, h1, fun v q => nomatch q⟩
  ·exact ⟨_, e2, fun v q => by rw [d2] at q; cases q⟩
 keep := fun i h h' st k => by
  obtain ⟨⟨old, h1⟩, h2⟩ := st; exact ⟨⟨old, k e (by simp) _ h1⟩, h2.at fun o q => k it (by simp) o q⟩
 item := by
  intro X hP hw hK hc i pins s σ H E I hf st hg; subst hP hw hK; obtain ⟨hi, xs, q1, hn⟩ := hg; obtain ⟨its, r1, p1, l1⟩ := I.list q1; obtain ⟨⟨old, he⟩, hit⟩ := st; have e1 : xs[i]? = some (xs[i]'(by omega)) := List.getElem?_eq_getElem (by omega)
  obtain ⟨u1, hu1, ru1⟩ := r1.get e1; have hp : H s.heap.objs.size = none := I.hok.fresh (Nat.le_refl _)
  refine wpAny_pyNext_enum_item he hit p1.isList (by simpa using hu1) hei fun h' ho hit' hT hsz k => ?_
  refine ⟨_, rfl, ?_⟩; refine wpAny_letOwnedTupleGo_enum (s := { s with heap := h', toks := s.toks + 1 }) ho fun h2 z2 c2 => ?_; have I1 : Inv X pins σ (upd H s.heap.objs.size (.tup [_, _])) { s with heap := s.heap.push { cls := .type "tuple", data := .seq #[.int i s.toks, u1] } } :=
   I.laid (t' := s.toks) (fun b o e => Heap.get?_push_of_some _ e) (Nat.le_refl _) (show ObjOk X.prog X.w _ _ _ (.tup [.int i, xs[i]'(by omega)]) from ⟨⟨by show 2 ≤ sizeLine; rw [sizeLine_eq]; decide, NoD.new _ _ _⟩, [.int i s.toks, u1], .cons ⟨_, rfl⟩ (.cons ru1 .nil), IsTup.new _ _⟩)
  have lt : ∀ {c o}, s.heap.get? c = some o → c ≠ s.heap.objs.size := fun e => Nat.ne_of_lt (Heap.lt_size e)
  have hf' : ∀ b ∈ [e, it], FpOk X pins (upd H s.heap.objs.size (.tup [.int i, xs[i]'(by omega)])) b := fun b hb => by
   obtain ⟨f0, f1, f2, f3, f4, f5⟩ := hf b hb; refine ⟨?_, f1, f2, f3, f4, f5⟩; rw [upd_ne]
   ·exact f0
   ·obtain ⟨o4, e4, _⟩ := hit; simp only [List.mem_cons, List.not_mem_nil, or_false] at hb; rcases hb with rfl | rfl
    ·exact lt he
    ·exact lt e4
  have kk : ∀ b o, b ∉ [e, it] → (s.heap.push { cls := .type "tuple", data := .seq #[.int i s.toks, u1] }).get? b = some o → h2.get? b = some o := fun b o hb q => by
   simp only [List.mem_cons, List.not_mem_nil, or_false, not_or] at hb; refine c2.extBut _ _ hb.1 ?_; rcases Heap.get?_push_cases q with ⟨rfl, rfl⟩ | q
   ·exact hT
   ·exact k b o hb.1 hb.2 q
  have I2 := turns (s := { s with heap := s.heap.push { cls := .type "tuple", data := .seq #[.int i s.toks, u1] } }) (h' := h2) (t' := s.toks + 1) (ch := [e, it]) I1 kk hf'
  refine ⟨.ref s.heap.objs.size, upd H s.heap.objs.size (.tup [.int i, xs[i]'(by omega)]), I2, rfl, ⟨_, _, rfl, hp, rfl, fun xs' g1 => ?_⟩, ?_, fun b hb => (hf' b hb).1⟩
  ·rw [I.list_inj g1 q1]; exact e1
  ·exact ⟨⟨_, z2⟩, hit'.at fun o q => c2.extBut _ _ (Ne.symm hei) q⟩
 done := by
  intro X hP hw hK hc i pins s σ H E I hf st hg; subst hP hw hK; obtain ⟨hi, xs, q1, hn⟩ := hg; obtain ⟨its, r1, p1, l1⟩ := I.list q1; obtain ⟨⟨old, he⟩, hit⟩ := st; have m1 := r1.length
  refine wpAny_pyNext_enum_end (I.ok.hd hc) he hit p1.isList (by simp; omega) fun h' k => ?_
  refine ⟨rfl, turns (t' := s.toks) (ch := [e, it]) I (fun b o hb q => ?_) hf⟩; simp only [List.mem_cons, List.not_mem_nil, or_false, not_or] at hb; exact k b o hb.2 q
 self := fun _ _ _ _ _ st h => by
  obtain ⟨⟨old, he⟩, _⟩ := st; exact wpAny_pyIter_enum he h
theorem boot_enum_ : bootBuiltins "enumerate" = some (.type "enumerate") := by decide +kernel
def numD (ps : List PyData) : List D := ps.zipIdx.map fun z => .dat (.tuple [.int z.2, z.1])
@[simp] def dEnumI (f : DE) : DI := fun d m Q => f d m fun x m1 => ∃ ps, x = .dat (.list ps) ∧ Q (numD ps) m1
section
variable {X : Cx} {a : Expr} {elts : List Expr} {j : Nat} {f : DE} {pos p p2 : Pos}
theorem li_enum (hg : Gl X "enumerate") (hm : X.mg "enumerate" = none) (ha : PE X a (LE X.K f)) (hs : starEach [a] X.env = [(false, eval a X.env)] := by rfl) :
  PI X (.Tuple elts j p2) (.Call (.Name "enumerate" p) [a] [] pos) (LI X.K (dEnumI f)) := by
 intro pins s σ H R I h; obtain ⟨Z, d, m, ZZ, ok, rs, h, k⟩ := h; have hA := la_cons (X := X) ha la_nil (by rw [hs]; rfl) pos pins s σ H (fun vs H1 => ∃ a1 xs ps m1, vs = [.ref a1] ∧ (m1 a1 = none ∧ ¬ Z a1) ∧ SqL X.K H1 a1 xs ∧ RPs X.K Z m1 H1 ps xs ∧
   ZZ (numD ps) m1 ∧ Ext X.K Z m H m1 H1 ∧ Ok X.K Z m1 H1) I ⟨Z, d, m, fun ds m1 => match ds with | [x] => ∃ ps, x = .dat (.list ps) ∧ ZZ (numD ps) m1 | _ => False, ok, rs, h, fun xs m1 vs H1 q e1 ok1 rd => ?_⟩
 ·refine Call_ (ld_blt I hg hm boot_enum_ (PyProof.Rows.callWith_type1 (thn hA fun us s1 ⟨vs, H1, I1, r1, q1⟩ => ?_) (by rw [hs]; rfl) (by rfl)))
  obtain ⟨a1, xs, ps, m1, e, h0, h1, rp, q, e1, ok1⟩ := q1; subst e; obtain ⟨u1, rfl, ru1⟩ := vals1 r1
  cases ru1
  obtain ⟨its1, rv1, pt1, l1⟩ := I1.list h1; refine call_enumerate_list pt1.isList fun h' he hit hsz kp => ?_; refine wpAny_pyIter_enum (s := { s1 with heap := h' }) he ?_; refine ⟨s1.heap.objs.size + 1, [s1.heap.objs.size + 1, s1.heap.objs.size], _, _, H1, rfl, I1.kept (t' := s1.toks) kp, turn_enum (l := a1) (n := xs.length) (Nat.succ_ne_self _), ⟨⟨_, he⟩, hit⟩, fun c hc => ?_, k _ m1 H1 _ q e1 ok1 ?_⟩
  ·have hle : s1.heap.objs.size ≤ c := by
    simp only [List.mem_cons, List.not_mem_nil, or_false] at hc; rcases hc with rfl | rfl
    ·exact Nat.le_add_right _ 1
    ·exact Nat.le_refl _
   exact I1.fpOk hle (I1.hok.fresh hle)
  ·intro m2 H2 e2; obtain ⟨_, q1⟩ := e2.l a1 xs h0 h1; have lp := rp.length
   refine ⟨fun i x hx => ?_, ?_, xs, q1, rfl⟩
   ·unfold numD at hx; rw [List.getElem?_map, List.getElem?_zipIdx] at hx
    cases ez : ps[i]? with
    | none => rw [ez] at hx; cases hx
    | some z =>
     rw [ez] at hx; simp at hx; subst hx; obtain ⟨v1, hv1, rv1'⟩ := rp.get ez; have b1 := (List.getElem?_eq_some_iff.mp hv1).1
     refine ⟨⟨by omega, xs, q1, rfl⟩, fun v H3 ⟨pp, x', ev, hp, eH, al⟩ => ?_⟩
     have w1 := al xs q1
     rw [hv1] at w1
     cases w1
     refine .inr ⟨pp, [.int i, z], [_, _], rfl, ev, hp, eH, ?_⟩; simp only [RPs]; exact ⟨_, _, rfl, by simp only [RP], _, _, rfl, rv1', rfl⟩
   ·show (numD ps).length = xs.length
    unfold numD; rw [List.length_map, List.length_zipIdx, lp]
 ·match xs, q, rd with
  | [], q, _ => exact q.elim
  | _ :: _ :: _, q, _ => exact q.elim
  | [x], q, rd =>
  obtain ⟨ps, rfl, q⟩ := q; obtain ⟨v, rfl, g1⟩ := rd.one; simp only [RD, RP] at g1; obtain ⟨a1, xs, rfl, h0, h1, h2⟩ := g1; exact ⟨a1, xs, ps, m1, rfl, h0, h1, h2, q, e1, ok1⟩
end
end DL
namespace DL
open PySem PySem.Spec PyProof.Rows L2
def Itl (K : PySem.W.Frag) (t1 t2 : Addr) (n : Nat) : It :=
 ⟨fun i H => i < n ∧ ∃ xs ys, SqL K H t1 xs ∧ SqT K H t2 ys ∧ n = min xs.length ys.length, fun i H v H' => ∃ p x y, v = .ref p ∧ H p = none ∧ H' = upd H p (.tup [x, y]) ∧ ∀ xs ys, SqL K H t1 xs → SqT K H t2 ys → xs[i]? = some x ∧ ys[i]? = some y,
  fun i H => i = n ∧ ∃ xs ys, SqL K H t1 xs ∧ SqT K H t2 ys ∧ n = min xs.length ys.length⟩
end DL
namespace DL
open PySem PySem.Spec PyProof.Rows L2
section
variable {K : PySem.W.Frag} {Z : Addr → Prop} {m m' : Mu} {H : Hp}
def offM (m : Mu) (a : Addr) : Mu := fun b => if b = a then none else m b
theorem off_none {a b : Addr} (h : m b = none) : offM m a b = none := by unfold offM; split <;> first | rfl | exact h
theorem cel_view {a : Addr} {xs : List PyData} {v : V} (ok : Ok K Z m H) (hm : m a = some (.l xs)) (r : RD K Z m H (.cel a) v) : RP K Z (offM m a) H (.list xs) v := by
 obtain ⟨rfl, _⟩ := r; obtain ⟨vs, h1, h2⟩ := ok.l hm; simp only [RP]; refine ⟨a, vs, rfl, ⟨by unfold offM; rw [if_pos rfl], fun z => by have := (ok.z a z).1; rw [hm] at this; cases this⟩, .inl (.inl h1), RPs.tr (fun _ _ q => q) (fun b ws q1 q2 => ⟨⟨off_none q1.1, q1.2⟩, q2⟩) _ _ h2⟩
end
section
variable {X : Cx} {a : Expr} {f : DE} {pos p2 : Pos}
@[simp] def bReprC : DC
 | [.cel c], m, Q => ∃ xs, m c = some (.l xs) ∧ (PyData.list xs).showable = true ∧ (PyData.list xs).shown.length ≤ sizeLine ∧ (PyData.list xs).depth ≤ 100 ∧ Q (.dat (.str (PyData.list xs).shown)) m
 | _, _, _ => False
theorem cd_reprC (hu : X.A.units + 200 < cLine) (hg : X.A.guards = some []) : CallD X (.builtin "repr") bReprC := by
 intro pins s σ H Z m xs ds us R Q I ok rv rd h k; unfold bReprC at h
 split at h
 ·obtain ⟨xs, hm, h1, h2, h3, h4⟩ := h; obtain ⟨v, rfl, r1⟩ := rd.one; obtain ⟨u, rfl, ru⟩ := vals1 rv; have r2 := cel_view ok hm r1
  obtain ⟨rfl, _⟩ := r1
  cases ru
  have nd := RP.noDict X.K _ _ r2 h1
  obtain ⟨as, rd⟩ := RP.reads I _ _ (.ref _) r2 rfl; exact repr_of_reads' rd h1 (PyData.noDict_hsm nd) hg (by omega) (fun _ _ e => e) (fun h' u tk kp => ⟨.str _, H, I.kept kp, ⟨_, rfl⟩, k _ m _ H h4 Ext.refl ok .ofStr⟩) h2
 ·exact h.elim
end
end DL
namespace DL
open PySem PySem.Spec PyProof.Rows L2
section
variable {X : Cx} {pins : List (Addr × Obj)} {σ : L2.St}
def PairsH (H : Hp) (xs ys : List V) (ps : List Addr) : Prop := ∀ (j : Nat) (p : Addr), ps[j]? = some p → ∃ x y, xs[j]? = some x ∧ ys[j]? = some y ∧ H p = some (.tup [x, y])
theorem PairsH.same {H H' : Hp} {xs ys : List V} {ps : List Addr} (h : PairsH H xs ys ps) (e : Same H H') : PairsH H' xs ys ps := fun j p q => let ⟨x, y, h1, h2, h3⟩ := h j p q; ⟨x, y, h1, h2, e _ _ h3⟩
theorem PairsH.snoc {H : Hp} {xs ys : List V} {ps : List Addr} {a : Addr} {x y : V} (h : PairsH H xs ys ps) (hx : xs[ps.length]? = some x) (hy : ys[ps.length]? = some y) (ha : H a = some (.tup [x, y])) : PairsH H xs ys (ps ++ [a]) := fun j p q => by
 rcases Nat.lt_or_ge j ps.length with c | c
 ·rw [List.getElem?_append_left c] at q; exact h j p q
 ·rw [List.getElem?_append_right c] at q; have : j - ps.length = 0 := by
   rcases Nat.eq_zero_or_pos (j - ps.length) with z | z
   ·exact z
   ·rw [List.getElem?_eq_none (by simp; omega)] at q; cases q
  rw [this] at q
  cases q
  have e : j = ps.length := by omega
  subst e; exact ⟨x, y, hx, hy, ha⟩
end
end DL
namespace DL
open PySem PySem.Spec PyProof.Rows L2
section
variable {X : Cx} {o e : Expr} {f g : DE}
@[simp] def isN : PyData → Bool
 | .none => true
 | _ => false
@[simp] def aIsN : D2
 | .dat p, .dat .none, m, Q => Q (.dat (.bool (isN p))) m
 | _, _, _, _ => False
theorem rp_non {K : PySem.W.Frag} {Z : Addr → Prop} {m : Mu} {H : Hp} {p : PyData} {x : V} (h : RP K Z m H p x) : decide (x = .non) = isN p := by
 cases p with
 | none => simp only [RP] at h; subst h; rfl
 | bool b => simp only [RP] at h; subst h; rfl
 | int i => simp only [RP] at h; subst h; rfl
 | str z => simp only [RP] at h; subst h; rfl
 | tuple xs => simp only [RP] at h; obtain ⟨a, vs, rfl, _⟩ := h; rfl
 | list xs => simp only [RP] at h; obtain ⟨a, vs, rfl, _⟩ := h; rfl
 | dict _ => simp only [RP] at h; obtain ⟨a, _, _, _, rfl, _⟩ := h; rfl
theorem od_isN : OpD X (compareOp .Is) aIsN := by
 intro pins s σ H Z m x y dx dy v u R Q I ok rx ry r1 r2 h k; unfold aIsN at h
 split at h
 ·have e : y = .non := by simpa only [RD, RP] using r2
  refine op_isN pins s σ H _ _ v u Q I rx ry ⟨e, ?_⟩; rw [rp_non r1]; exact k _ m _ H h Ext.refl ok .ofBl
 ·exact h.elim
@[simp] def aMulC : D2
 | .cel c, .dat (.int k), m, Q => ∃ xs, m c = some (.l xs) ∧ 0 ≤ k ∧ k ≤ 1000 ∧ xs.length * k.toNat ≤ sizeLine ∧ Q (.dat (.list (List.replicate k.toNat xs).flatten)) m
 | _, _, _, _ => False
theorem rps_rep {K : PySem.W.Frag} {Z : Addr → Prop} {m : Mu} {H : Hp} {xs : List PyData} {vs : List V} (h : RPs K Z m H xs vs) : ∀ n : Nat, RPs K Z m H (List.replicate n xs).flatten (List.replicate n vs).flatten
 | 0 => by simp [RPs]
 | n + 1 => by
  rw [List.replicate_succ, List.replicate_succ, List.flatten_cons, List.flatten_cons]; exact h.append (rps_rep h n)
theorem od_mulC : OpD X (binaryOp .Mult) aMulC := by
 intro pins s σ H Z m x y dx dy v u R Q I ok rx ry r1 r2 h k; unfold aMulC at h
 split at h
 ·rename_i c kk; obtain ⟨xs, hm, k0, k1, hz, q⟩ := h; obtain ⟨rfl, _⟩ := r1
  cases r2.int
  obtain ⟨vs, h1, h2⟩ := ok.l hm; refine op_rep pins s σ H _ _ v u Q I rx ry ⟨_, _, vs, rfl, rfl, h1, by omega, by omega, by rw [h2.length]; exact hz, fun p hp => ?_⟩
  have sm : Same H (upd H p (.lst (List.replicate kk.toNat vs).flatten)) := same_new hp
  refine k _ m _ _ q (ok.ext sm) (ok.grow sm) ?_; simp only [RD, RP]; exact ⟨p, _, rfl, ok_none ok hp, .inl (.inl upd_same), RPs.ext (ok.ext sm) _ _ (rps_rep h2 _)⟩
 ·exact h.elim
end
end DL
namespace DL
open PySem PySem.Spec PyProof.Rows L2
section
variable {K : PySem.W.Frag} {Z : Addr → Prop} {m m1 : Mu} {H H1 : Hp}
theorem Ok.off {a : Addr} (ok : Ok K Z m H) : Ok K Z (offM m a) H :=
 ⟨fun b c h => by
  unfold offM at h
  split at h
  ·cases h
  ·obtain ⟨o, h1, h2⟩ := ok.g b c h; exact ⟨o, h1, h2.lift fun p v q => RP.tr (fun _ _ q => q) (fun b ws q1 q2 => ⟨⟨off_none q1.1, q1.2⟩, q2⟩) p v q⟩, fun b hz => ⟨off_none (ok.z b hz).1, (ok.z b hz).2⟩⟩
theorem Ext.off {a : Addr} (e : Ext K Z m H m1 H1) (h : m a = none) : Ext K Z m H (offM m1 a) H1 :=
 ⟨e.t, fun b vs h1 h2 => let ⟨q1, q2⟩ := e.l b vs h1 h2; ⟨off_none q1, q2⟩, e.z, fun b hb => by
  unfold offM
  split
  ·rename_i q; rw [q, h] at hb; cases hb
  ·exact e.c b hb, e.fz, fun b hb => by
  unfold offM
  split
  ·rename_i q; rw [q, h] at hb; cases hb
  ·exact e.fm b hb, e.ll⟩
end
section
variable {X : Cx} {e : Expr} {f : DE}
@[simp] def dFrz (f : DE) : DE := fun d m Q => f d m fun x m1 => ∃ c xs, x = .cel c ∧ m c = none ∧ m1 c = some (.l xs) ∧ Q (.dat (.list xs)) (offM m1 c)
theorem le_frz (he : PE X e (LE X.K f)) : PE X e (LE X.K (dFrz f)) := PE.imp he fun s H Q h => by
 obtain ⟨Z, d, m, R, ok, rs, h, k⟩ := h; refine ⟨Z, d, m, _, ok, rs, h, fun x m1 v H1 q e1 ok1 rd => ?_⟩; obtain ⟨c, xs, rfl, hc, hm, q⟩ := q; exact k _ _ v H1 q (e1.off hc) ok1.off (cel_view ok1 hm rd)
end
end DL
namespace DL
open PySem PySem.Spec PyProof.Rows L2
section
variable {X : Cx} {a b c : Expr} {f g h : DE} {pos : Pos}
@[simp] def dChain (r r' : D2) (f g h : DE) : DE := fun d m Q => f d m fun x m1 => g d m1 fun y m2 => r x y m2 fun z m3 => ∃ k, z = .dat (.bool k) ∧ (if k = true then h d m3 fun w m4 => r' y w m4 Q else Q (.dat (.bool false)) m3)
theorem le_chain {op op' : CmpOp} {r r' : D2} (ho : OpD X (compareOp op) r) (ho' : OpD X (compareOp op') r') (ha : PE X a (LE X.K f)) (hb : PE X b (LE X.K g)) (hc : PE X c (LE X.K h))
  (hm : lastMarks [op, op'] [b, c] = false := by with_unfolding_all rfl) : PE X (.Compare a [op, op'] [b, c] pos) (LE X.K (dChain r r' f g h)) := by
 intro pins s σ H Q I hh; obtain ⟨Z, d, m, R, ok, rs, hf, k⟩ := hh; refine Compare_chain (thn (ha pins s σ H (fun x H1 => ∃ (dx : D) (m1 : Mu), RD X.K Z m1 H1 dx x ∧ (g d m1 fun y m2 => r dx y m2 fun z m3 => ∃ k, z = .dat (.bool k) ∧ (if k = true then h d m3 fun w m4 => r' y w m4 R else R (.dat (.bool false)) m3)) ∧ Ext X.K Z m H m1 H1 ∧ Ok X.K Z m1 H1) I
  ⟨Z, d, m, _, ok, rs, hf, fun x m1 v H1 q e1 ok1 rd => ⟨x, m1, rd, q, e1, ok1⟩⟩) fun v s1 ⟨x, H1, I1, r1, dx, m1, rd, q, e1, ok1⟩ => chain_link (thn (hb pins s1 σ H1 (fun y H2 => ∃ (dy : D) (m2 : Mu), RD X.K Z m2 H2 dy y ∧ (r dx dy m2 fun z m3 => ∃ k, z = .dat (.bool k) ∧ (if k = true then h d m3 fun w m4 => r' dy w m4 R else R (.dat (.bool false)) m3)) ∧ Ext X.K Z m1 H1 m2 H2 ∧ Ok X.K Z m2 H2) I1
  ⟨Z, d, m1, _, ok1, rs.ext e1, q, fun y m2 w H2 q2 e2 ok2 rd2 => ⟨y, m2, rd2, q2, e2, ok2⟩⟩) fun u s2 ⟨y, H2, I2, r2, dy, m2, rd2, q2, e2, ok2⟩ =>
  thn (ho pins s2 σ H2 Z m2 x y dx dy v u _ (fun z H3 => ∃ (kk : Bool) (m3 : Mu), z = .bl kk ∧ (if kk = true then h d m3 fun w m4 => r' dy w m4 R else R (.dat (.bool false)) m3) ∧ Ext X.K Z m2 H2 m3 H3 ∧ Ok X.K Z m3 H3) I2 ok2 r1 r2 (rd.ext e2) rd2 q2 (fun z m3 v3 H3 ⟨kk, ez, q3⟩ e3 ok3 rd3 => by subst ez; exact ⟨kk, m3, by simpa only [RD, RP] using rd3, q3, e3, ok3⟩))
   fun cv s3 ⟨z, H3, I3, r3, kk, m3, ez, q3, e3, ok3⟩ => ?_)) hm
 subst ez
 cases r3
 refine wpAny_truthy_bool ?_
 cases kk with
 | false => exact ite_ff ⟨.bl false, H3, I3, rfl, k _ m3 _ H3 (by simpa using q3) (e1.trans (e2.trans e3)) ok3 .ofBl⟩
 | true =>
  refine ite_tt (chain_last (thn (hc pins s3 σ H3 (fun w H4 => ∃ (dw : D) (m4 : Mu), RD X.K Z m4 H4 dw w ∧ r' dy dw m4 R ∧ Ext X.K Z m3 H3 m4 H4 ∧ Ok X.K Z m4 H4) I3 ⟨Z, d, m3, _, ok3, ((rs.ext e1).ext e2).ext e3, by simpa using q3, fun w m4 v4 H4 q4 e4 ok4 rd4 => ⟨w, m4, rd4, q4, e4, ok4⟩⟩)
   fun w' s4 ⟨z', H4, I4, r4, dw, m4, rd4, q4, e4, ok4⟩ => ?_))
  exact ho' pins s4 σ H4 Z m4 y z' dy dw u w' R Q I4 ok4 r2 r4 (rd2.ext (e3.trans e4)) rd4 q4 fun d' m' v' H' h1 h2 h3 h4 => k d' m' v' H' h1 (e1.trans (e2.trans (e3.trans (e4.trans h2)))) h3 h4
theorem lt_chain {op op' : CmpOp} {r r' : D2} (ho : OpD X (compareOp op) r) (ho' : OpD X (compareOp op') r') (ha : PE X a (LE X.K f)) (hb : PE X b (LE X.K g)) (hc : PE X c (LE X.K h))
  (hm : lastMarks [op, op'] [b, c] = false := by with_unfolding_all rfl) : PT X (.Compare a [op, op'] [b, c] pos) (LT X.K (dTst (dChain r r' f g h))) := by
 intro pins s σ H Q I hh; obtain ⟨Z, d, m, R, ok, rs, hf, k⟩ := hh.le; refine isTrue_chain (thn (ha pins s σ H (fun x H1 => ∃ (dx : D) (m1 : Mu), RD X.K Z m1 H1 dx x ∧ (g d m1 fun y m2 => r dx y m2 fun z m3 => ∃ k, z = .dat (.bool k) ∧ (if k = true then h d m3 fun w m4 => r' y w m4 R else R (.dat (.bool false)) m3)) ∧ Ext X.K Z m H m1 H1 ∧ Ok X.K Z m1 H1) I
  ⟨Z, d, m, _, ok, rs, hf, fun x m1 v H1 q e1 ok1 rd => ⟨x, m1, rd, q, e1, ok1⟩⟩) fun v s1 ⟨x, H1, I1, r1, dx, m1, rd, q, e1, ok1⟩ => test_link (thn (hb pins s1 σ H1 (fun y H2 => ∃ (dy : D) (m2 : Mu), RD X.K Z m2 H2 dy y ∧ (r dx dy m2 fun z m3 => ∃ k, z = .dat (.bool k) ∧ (if k = true then h d m3 fun w m4 => r' dy w m4 R else R (.dat (.bool false)) m3)) ∧ Ext X.K Z m1 H1 m2 H2 ∧ Ok X.K Z m2 H2) I1
  ⟨Z, d, m1, _, ok1, rs.ext e1, q, fun y m2 w H2 q2 e2 ok2 rd2 => ⟨y, m2, rd2, q2, e2, ok2⟩⟩) fun u s2 ⟨y, H2, I2, r2, dy, m2, rd2, q2, e2, ok2⟩ =>
  thn (ho pins s2 σ H2 Z m2 x y dx dy v u _ (fun z H3 => ∃ (kk : Bool) (m3 : Mu), z = .bl kk ∧ (if kk = true then h d m3 fun w m4 => r' dy w m4 R else R (.dat (.bool false)) m3) ∧ Ext X.K Z m2 H2 m3 H3 ∧ Ok X.K Z m3 H3) I2 ok2 r1 r2 (rd.ext e2) rd2 q2 (fun z m3 v3 H3 ⟨kk, ez, q3⟩ e3 ok3 rd3 => by subst ez; exact ⟨kk, m3, by simpa only [RD, RP] using rd3, q3, e3, ok3⟩))
   fun cv s3 ⟨z, H3, I3, r3, kk, m3, ez, q3, e3, ok3⟩ => ?_)) hm
 subst ez
 cases r3
 refine wpAny_truthy_bool ?_
 cases kk with
 | false =>
  obtain ⟨k', e', q'⟩ := k (.dat (.bool false)) m3 (.bl false) H3 (by simpa using q3) (e1.trans (e2.trans e3)) ok3 .ofBl
  cases e'
  exact ite_ff ⟨H3, I3, q'⟩
 | true =>
  refine ite_tt (test_last (thn (hc pins s3 σ H3 (fun w H4 => ∃ (dw : D) (m4 : Mu), RD X.K Z m4 H4 dw w ∧ r' dy dw m4 R ∧ Ext X.K Z m3 H3 m4 H4 ∧ Ok X.K Z m4 H4) I3 ⟨Z, d, m3, _, ok3, ((rs.ext e1).ext e2).ext e3, by simpa using q3, fun w m4 v4 H4 q4 e4 ok4 rd4 => ⟨w, m4, rd4, q4, e4, ok4⟩⟩)
   fun w' s4 ⟨z', H4, I4, r4, dw, m4, rd4, q4, e4, ok4⟩ => ?_))
  refine thn (ho' pins s4 σ H4 Z m4 y z' dy dw u w' R (fun x H' => ∃ k, x = .bl k ∧ Q k H') I4 ok4 r2 r4 (rd2.ext (e3.trans e4)) rd4 q4 fun d' m' v' H' h1 h2 h3 h4 => k d' m' v' H' h1 (e1.trans (e2.trans (e3.trans (e4.trans h2)))) h3 h4) fun d' s5 ⟨z2, H5, I5, r5, k2, e5, q5⟩ => ?_; subst e5
  cases r5
  exact wpAny_truthy_bool ⟨H5, I5, q5⟩
@[simp] def aInS : D2
 | .dat (.str x), .dat (.str y), m, Q => Q (.dat (.bool (Txt.contains y x))) m
 | _, _, _, _ => False
theorem od_inS : OpD X (compareOp .In) aInS := by
 intro pins s σ H Z m x y dx dy v u R Q I ok rx ry r1 r2 h k; unfold aInS at h
 split at h
 ·cases r1.str
  cases r2.str
  obtain ⟨t, rfl⟩ := rx; obtain ⟨t', rfl⟩ := ry; exact PySem.SB.contains (h := ⟨.bl _, H, I, rfl, k _ m _ H h Ext.refl ok .ofBl⟩)
 ·exact h.elim
theorem le_gint {x : Str} {i : Int} {t : Tok} (hg : Gl X x) (hm : X.mg x = some (.int i t)) (hd : (x == ("__debug__" : Str)) = false := by decide) : PE X (.Name x pos) (LE X.K (dCon (.int i))) :=
 PE.imp (pe_glob (v := .int i) hg hm ⟨t, rfl⟩ hd) fun s H Q h => by
  obtain ⟨Z, d, m, R, ok, rs, h, k⟩ := h; exact k _ m _ H h Ext.refl ok (by simp only [RD, RP])
theorem le_gstr {x : Str} {z : Str} {t : Tok} (hg : Gl X x) (hm : X.mg x = some (.str z t)) (hd : (x == ("__debug__" : Str)) = false := by decide) : PE X (.Name x pos) (LE X.K (dCon (.str z))) :=
 PE.imp (pe_glob (v := .str z) hg hm ⟨t, rfl⟩ hd) fun s H Q h => by
  obtain ⟨Z, d, m, R, ok, rs, h, k⟩ := h; exact k _ m _ H h Ext.refl ok (by simp only [RD, RP])
end
end DL
namespace DL
open PySem PySem.Spec PyProof.Rows L2
@[simp] def ofC (m : Mu) : D → Option PyData
 | .dat p => some p
 | .cel c => match m c with
  | some (.l xs) => some (.list xs)
  | _ => none
section
variable {K : PySem.W.Frag} {Z : Addr → Prop} {m : Mu} {H : Hp}
theorem ofC_view {x : D} {p : PyData} {v : V} (ok : Ok K Z m H) (e : ofC m x = some p) (r : RD K Z m H x v) : ∃ m', RP K Z m' H p v := by
 cases x with
 | dat q => cases e; exact ⟨m, r⟩
 | cel c =>
  simp only [ofC] at e
  split at e
  ·rename_i xs hm
   cases e
   exact ⟨_, cel_view ok hm r⟩
  ·cases e
end
section
variable {X : Cx}
@[simp] def aNeX : D2 := fun x y m Q => ∃ p q, ofC m x = some p ∧ ofC m y = some q ∧ p.canLay0 = true ∧ q.canLay0 = true ∧ p.depth ≤ 100 ∧ Q (.dat (.bool (!PyData.eqv p q))) m
theorem od_neX (hu : X.A.units + 100 < cLine) : OpD X (compareOp .NotEq) aNeX := by
 intro pins s σ H Z m x y dx dy v u R Q I ok rx ry r1 r2 h k; obtain ⟨p, q, e1, e2, h1, h2, h3, h4⟩ := h; obtain ⟨m1, w1⟩ := ofC_view ok e1 r1; obtain ⟨m2, w2⟩ := ofC_view ok e2 r2; obtain ⟨as, ra⟩ := RP.reads I _ x v w1 rx; obtain ⟨bs, rb⟩ := RP.reads I _ y u w2 ry; exact SeqAt.compareNe_reads ra rb h1 h2 (by omega) ⟨.bl _, H, I, rfl, k _ m _ H h4 Ext.refl ok .ofBl⟩
end
end DL
namespace DL
open PySem PySem.Spec PyProof.Rows L2
theorem Paired.at {α β : Type} {r : α → β → Prop} : ∀ {xs : List α} {ys : List β} {i : Nat} {x : α}, Paired r xs ys → xs[i]? = some x → ∃ y, ys[i]? = some y ∧ r x y
 | _, _, _, _, .nil, e => by simp at e
 | _, _, 0, x, .cons h _, e => by
  simp at e; subst e; exact ⟨_, rfl, h⟩
 | _, _, i + 1, x, .cons _ h, e => by
  obtain ⟨y, h1, h2⟩ := Paired.at (i := i) h (by simpa using e)
  exact ⟨y, by simpa using h1, h2⟩
theorem Paired.len {α β : Type} {r : α → β → Prop} : ∀ {xs : List α} {ys : List β}, Paired r xs ys → xs.length = ys.length
 | _, _, .nil => rfl
 | _, _, .cons _ h => by rw [List.length_cons, List.length_cons, Paired.len h]
section
variable {X : Cx} {o : Expr} {es : List Expr} {fo : DE} {fa : DA} {pos ipos : Pos} {j : Nat}
theorem Ok.ft {K : PySem.W.Frag} {Z : Addr → Prop} {m : Mu} {H : Hp} {a : Addr} {xs : List (List Key × PyData)} (ok : Ok K Z m H) (h : m a = some (.ft xs)) : ∃ ob vs, H a = some (.frz ob (.dT vs)) ∧ RKV K Z m H xs vs := by
 obtain ⟨o, h1, h2⟩ := ok.g a _ h
 cases o with
 | frz ob u => cases u <;> first | exact ⟨_, _, h1, h2⟩ | exact h2.elim
 | _ => exact h2.elim
end
end DL
namespace DL
open PySem PySem.Spec PyProof.Rows L2
def kaV (kas : List (Key × Addr)) : List (Key × V) := kas.map fun x => (x.1, V.ref x.2)
theorem Ok.dl {K : PySem.W.Frag} {Z : Addr → Prop} {m : Mu} {H : Hp} {a : Addr} {kas : List (Key × Addr)} (ok : Ok K Z m H) (h : m a = some (.dl kas)) : H a = some (.dK (kaV kas)) := by
 obtain ⟨o, h1, h2⟩ := ok.g a _ h
 cases o <;> first | (cases (show _ = kaV kas from h2); exact h1) | exact h2.elim
end DL
namespace DL
open PySem PySem.Spec PyProof.Rows L2
def many (n lo st : Nat) : Nat := if lo < n then (n - lo - 1) / st + 1 else 0
def places (n lo st : Nat) : List Nat := (List.range (many n lo st)).map fun k => lo + k * st
theorem Vals.at {xs : List V} {us : List Value} : ∀ {i : Nat} {x : V}, Vals xs us → xs[i]? = some x → ∃ u, us[i]? = some u ∧ RelV x u := fun h e => h.get e
end DL
namespace DL
open PySem PySem.Spec PyProof.Rows L2
def TSet (P : Program) (w : World) (h : Heap) (a : Addr) (zs : List Str) : Prop :=
 ∃ o es ep t, h.get? a = some o ∧ o.ExactSet ∧ o.data = .set es ep t ∧ ElemsOf (mixKind P w) es.toList ∧ (∃ vs, StrsAre (es.toList.map (·.2)) vs ∧ vs.Perm zs) ∧ zs.Nodup ∧ es.size < scanBound ∧ t.fits es.size = true ∧ t.led = !w.params.followText "set-order" ∧ (zs ≠ [] → t.plain = false)
theorem StrsAre.snoc : ∀ {l : List Value} {vs : List Str} (z : Str) (tk : Tok), StrsAre l vs → StrsAre (l ++ [.str z tk]) (vs ++ [z])
 | _, _, z, tk, .nil => .cons z tk .nil
 | _, _, z, tk, .cons x t h => .cons x t (StrsAre.snoc z tk h)
section
variable {P : Program} {w : World} {A : Around} {E : Value → Shared → Prop} {s : Shared} {a : Addr} {zs : List Str} {z : Str} {tk : Tok}
theorem TSet.len {h : Heap} (T : TSet P w h a zs) : ∃ o es ep t, h.get? a = some o ∧ o.data = .set es ep t ∧ es.size = zs.length := by
 obtain ⟨o, es, ep, t, h1, _, h3, _, ⟨vs, h5, h6⟩, _⟩ := T; refine ⟨o, es, ep, t, h1, h3, ?_⟩; have q1 := congrArg List.length h5.strs
 have q2 := h6.length_eq
 simp at q1; omega
end
end DL
namespace DL
open PySem PySem.Spec PyProof.Rows L2
section
variable {P : Program} {w : World} {A : Around} {R : Result → Shared → Prop} {I : Addr} {fp wr : List Addr} {G : Array GenState → Array GenState → Prop} {n : Nat} {Pv : Nat → Value → Prop} {St : Nat → Shared → Prop}
theorem TSet.at {h h' : Heap} {a : Addr} {zs : List Str} (T : TSet P w h a zs) (k : ∀ o, h.get? a = some o → h'.get? a = some o) : TSet P w h' a zs := by
 obtain ⟨o, es, ep, t, ho, rest⟩ := T; exact ⟨o, es, ep, t, k o ho, rest⟩
end
end DL
namespace DL
open PySem PySem.Spec PyProof.Rows L2
section
variable {P : Program} {w : World} {A : Around} {E : Value → Shared → Prop} {s : Shared} {S : Addr} {zs : List Str}
theorem TSet.type {h : Heap} (T : TSet P w h S zs) : ∃ o, h.get? S = some o ∧ o.cls = .type "set" := let ⟨o, _, _, _, ho, hx, _⟩ := T; ⟨o, ho, hx.1⟩
end
end DL
namespace DL
open PySem PySem.Spec PyProof.Rows L2
def Its (z : Str) : It := ⟨fun i _ => i < z.cps.size, fun i H v H' => H' = H ∧ ∃ c, z.cps[i]? = some c ∧ v = .str ⟨#[c]⟩, fun i _ => i = z.cps.size⟩
theorem turn_str {P : Program} {w : World} {K : PySem.W.Frag} {tg : Expr} (it : Addr) (z : Str) (t : Tok) (ty : String) (hty : ty = "str_ascii_iterator" ∨ ty = "str_iterator") : Turn P w K tg (Its z) [it] it (fun i h => h.IsStrIter it ty z t i) where
 mem := by simp
 obj := fun i h st b hb => by
  have e : b = it := by simpa using hb
  subst e; obtain ⟨o, e, _, d⟩ := st; exact ⟨o, e, fun v q => by rw [d] at q; cases q⟩
 keep := fun i h h' st k => by
  obtain ⟨o, e, q⟩ := st; exact ⟨o, k it (by simp) o e, q⟩
 item := by
  intro X hP hw hK hc i pins s σ H E I hf st hg; subst hP hw hK; have hg : i < z.cps.size := hg
  obtain ⟨f0, f1, f2, f3, f4, f5⟩ := hf it (by simp)
  have hx : z.cps[i]? = some z.cps[i] := Array.getElem?_eq_getElem hg
  have fin : ∀ h', h'.IsStrIter it ty z t (i + 1) → Heap.SameBut it s.heap h' → ∃ u, some (Value.str ⟨#[z.cps[i]]⟩ s.toks) = some u ∧ wpAny (model X.prog X.w) X.A (letOwnedTupleGo tg (.ref it) u) (fun _ s2 => ∃ x H', Inv X pins σ H' s2 ∧ RelV x u ∧ (Its z).yld i H x H' ∧ s2.heap.IsStrIter it ty z t (i + 1) ∧ ∀ b ∈ [it], H' b = none) E { s with heap := h', toks := s.toks + 1 } := fun h' st' sb => by
   have I1 : Inv X pins σ H { s with heap := h', toks := s.toks + 1 } := I.turned (fun b o hb e => (sb.2 b hb).trans e) f0 f1 f3 f4 f5
   obtain ⟨o, e, c, d⟩ := id st'; refine ⟨_, rfl, go_of (s := { s with heap := h', toks := s.toks + 1 }) e c d (by rcases hty with rfl | rfl <;> decide) ⟨.str ⟨#[z.cps[i]]⟩, H, I1, ⟨_, rfl⟩, ⟨rfl, _, hx, rfl⟩, st', fun b hb => (hf b hb).1⟩⟩
  rcases hty with rfl | rfl
  ·exact wpAny_pyNext_ascii_item st hx fun h' st' sb => fin h' st' sb
  ·exact wpAny_pyNext_wide_item st hx fun h' st' sb => fin h' st' sb
 done := by
  intro X hP hw hK hc i pins s σ H E I hf st hg; subst hP hw hK; have hg : i = z.cps.size := hg
  obtain ⟨f0, f1, f2, f3, f4, f5⟩ := hf it (by simp)
  rcases hty with rfl | rfl
  ·exact wpAny_pyNext_ascii_end (I.ok.hd hc) st (by simp [hg]) fun h' eb => ⟨rfl, I.turned (t' := s.toks) (fun b o hb e => eb b o hb e) f0 f1 f3 f4 f5⟩
  ·exact wpAny_pyNext_wide_end (I.ok.hd hc) st (by simp [hg]) fun h' eb => ⟨rfl, I.turned (t' := s.toks) (fun b o hb e => eb b o hb e) f0 f1 f3 f4 f5⟩
 self := fun _ _ _ _ _ st h => by
  rcases hty with rfl | rfl
  ·exact wpAny_pyIter_striter_ascii st h
  ·exact wpAny_pyIter_striter_wide st h
@[simp] def sgnS (z : Str) : List PyData := z.cps.toList.map fun c => .str ⟨#[c]⟩
@[simp] def dStrI (f : DE) : DI := fun d m Q => f d m fun x m1 => ∃ z : Str, x = .dat (.str z) ∧ Q ((sgnS z).map .dat) m1
section
variable {X : Cx} {a : Expr} {tg : Expr} {f : DE}
theorem li_str (ha : PE X a (LE X.K f)) : PI X tg a (LI X.K (dStrI f)) := by
 intro pins s σ H R I h; obtain ⟨Z, d, m, ZZ, ok, rs, h, k⟩ := h; refine thn (ha pins s σ H (fun x H1 => ∃ (m1 : Mu) (z : Str), x = .str z ∧ ZZ ((sgnS z).map .dat) m1 ∧ Ext X.K Z m H m1 H1 ∧ Ok X.K Z m1 H1) I
  ⟨Z, d, m, _, ok, rs, h, fun x m1 v H1 ⟨z, ex, q⟩ e1 ok1 rd => by subst ex; exact ⟨m1, z, rd.str, q, e1, ok1⟩⟩) fun u s1 ⟨x, H1, I1, r1, m1, z, ex, q, e1, ok1⟩ => ?_
 subst ex; obtain ⟨t, rfl⟩ := r1; have yl : Yields X.K Z m1 H1 ((sgnS z).map .dat) (Its z) := by
  intro m3 H3 ey; refine ⟨fun i x hx => ?_, ?_⟩
  ·have lt : i < z.cps.size := by
    have := (List.getElem?_eq_some_iff.mp hx).1
    simpa using this
   refine ⟨lt, fun v H4 y => .inl ⟨y.1, ?_⟩⟩; obtain ⟨_, c, hc, rfl⟩ := y; rw [List.getElem?_map] at hx; unfold sgnS at hx; rw [List.getElem?_map, Array.getElem?_toList, hc] at hx
   cases hx
   exact .ofStr
  ·show _ = z.cps.size
   simp
 have go : ∀ (o : Obj) (ty : String), (ty = "str_ascii_iterator" ∨ ty = "str_iterator") → (s1.heap.push o).IsStrIter s1.heap.objs.size ty z t 0 → PIE X pins σ tg R (.ref s1.heap.objs.size) { s1 with heap := s1.heap.push o } := fun o ty hty st => by
  refine ⟨s1.heap.objs.size, [s1.heap.objs.size], _, _, H1, rfl, I1.kept (t' := s1.toks) fun b o e => Heap.get?_push_of_some _ e, turn_str _ z t ty hty, st, fun b hb => ?_, k _ m1 H1 _ q e1 ok1 yl⟩; have e : b = s1.heap.objs.size := by simpa using hb
  subst e; exact I1.fpOk (Nat.le_refl _) (I1.hok.fresh (Nat.le_refl _))
 cases ha : z.cps.all (· < 128)
 ·exact wpAny_pyIter_wide ha (go _ _ (.inr rfl) ⟨_, Heap.get?_push_size _ rfl, rfl, rfl⟩)
 ·exact wpAny_pyIter_ascii ha (go _ _ (.inl rfl) ⟨_, Heap.get?_push_size _ rfl, rfl, rfl⟩)
end
end DL
namespace DL
open PySem PySem.Spec PyProof.Rows L2
@[simp] def aLeS : D2
 | .dat (.str a), .dat (.str b), m, Q => Q (.dat (.bool (!(b.cps.toList < a.cps.toList)))) m
 | _, _, _, _ => False
section
variable {X : Cx}
theorem od_leS : OpD X (compareOp .LtE) aLeS := by
 intro pins s σ H Z m x y dx dy v u R Q I ok rx ry r1 r2 h k; unfold aLeS at h
 split at h
 ·cases r1.str; cases r2.str
  obtain ⟨t1, rfl⟩ := rx; obtain ⟨t2, rfl⟩ := ry; refine PySem.P.le_str ?_; exact ⟨.bl _, H, I, rfl, k _ m _ H h Ext.refl ok .ofBl⟩
 ·exact h.elim
end
end DL
namespace DL
open PySem PySem.Spec PyProof.Rows L2
section
variable {X : Cx}
theorem op_catK : OpR X (binaryOp .Add) (fun x y H Q => ∃ a b xs ys, x = .ref a ∧ y = .ref b ∧ SqL X.K H a xs ∧ SqL X.K H b ys ∧ xs.length + ys.length ≤ sizeLine ∧ ∀ p, H p = none → X.K.lookup p = none → Q (.ref p) (upd H p (.lst (xs ++ ys)))) := by
 intro pins s σ H x y v u Q I rx ry h; obtain ⟨a, b, xs, ys, rfl, rfl, ha, hb, hz, q⟩ := h
 cases rx
 cases ry
 obtain ⟨its, r1, p1, _⟩ := I.list ha; obtain ⟨its2, r2, p2, _⟩ := I.list hb; obtain ⟨⟨cls, dd, data, sl⟩, ho, hc, n, hd⟩ := id p1.isList; obtain ⟨⟨cls2, dd2, data2, sl2⟩, ho2, hc2, n2, hd2⟩ := id p2.isList; simp only at hc hd hc2 hd2; subst hc hd hc2 hd2; have l1 := r1.length
 have l2 := r2.length
 have e : its.toArray ++ its2.toArray = (its ++ its2).toArray := by simp
 have hk : X.K.lookup s.heap.objs.size = none := by
  cases e : X.K.lookup s.heap.objs.size with
  | none => rfl
  | some o => exact absurd (Heap.lt_size (I.kIn _ o e)) (Nat.lt_irrefl _)
 refine concat_meets ⟨_, ho, rfl⟩ ⟨_, ho2, rfl⟩ noFill_list_add seq_list_add PySem.F.slot_list_add PySem.F.entry_list_add (PySem.F.args_list_add_2 _ _)
   (list_addW a b its.toArray its2.toArray n n2 dd dd2 sl sl2 (by rw [List.size_toArray, List.size_toArray]; omega)) ⟨ho, ho2, ?_⟩
 rw [e]; exact ⟨.ref s.heap.objs.size, _, I.laid (t' := s.toks) (o := .lst (xs ++ ys)) (fun b ob q => Heap.get?_push_of_some _ q) (Nat.le_refl _) ⟨by rw [List.length_append]; omega, _, 0, r1.append r2, Heap.get?_push_size _ rfl⟩, rfl, q _ (I.hok.fresh (Nat.le_refl _)) hk⟩
end
end DL
namespace DL
open PySem PySem.Spec PyProof.Rows L2
section
variable {K : PySem.W.Frag} {Z : Addr → Prop} {m : Mu} {H : Hp}
theorem RD.rw {x : D} {v : V} (h : RD K Z m H x v) : RW K Z m H x v := by
 cases x with
 | dat p => exact h
 | cel a => exact h.1
theorem RW.rd {x : D} {v : V} (h : RW K Z m H x v) (hc : ∀ a, x = .cel a → (m a).isSome = true) : RD K Z m H x v := by
 cases x with
 | dat p => exact h
 | cel a => exact ⟨h, hc a rfl⟩
theorem RKW.length {κ : Type} : ∀ {fs : List (κ × D)} {vs : List (κ × V)}, RKW K Z m H fs vs → vs.length = fs.length
 | [], _, h => by cases (show _ = [] from h); rfl
 | (_, _) :: _, _, ⟨v, r, h1, _, h3⟩ => by subst h1; rw [List.length_cons, List.length_cons, h3.length]
theorem RKW.look {f : Str} : ∀ {fs : List (Str × D)} {vs : List (Str × V)}, RKW K Z m H fs vs → (∀ x, fs.lookup f = some x → ∃ v, vs.lookup f = some v ∧ RW K Z m H x v) ∧ (fs.lookup f = none → vs.lookup f = none)
 | [], _, h => by cases (show _ = [] from h); exact ⟨fun x e => (nomatch e), fun _ => rfl⟩
 | (g, y) :: fs, _, ⟨v, r, h1, h2, h3⟩ => by
  subst h1; obtain ⟨i1, i2⟩ := h3.look (f := f)
  by_cases e : f = g
  ·have b : (f == g) = true := beq_iff_eq.mpr e
   simp only [List.lookup, b]; exact ⟨fun x q => by cases q; exact ⟨v, rfl, h2⟩, fun q => (nomatch q)⟩
  ·have b : (f == g) = false := beq_eq_false_iff_ne.mpr e
   simp only [List.lookup, b]; exact ⟨i1, i2⟩
theorem Ok.o {a : Addr} {N : Str} {fs : List (Str × D)} (ok : Ok K Z m H) (h : m a = some (.o N fs)) : ∃ C dx vs, H a = some (.ins C dx vs) ∧ PySem.W.nsIn K mainGlobals N = some (some (.ref C)) ∧ RKW K Z m H fs vs := by
 obtain ⟨o, h1, h2⟩ := ok.g a _ h
 cases o <;> first | exact ⟨_, _, _, h1, h2⟩ | exact h2.elim
end
end DL
namespace DL
open PySem PySem.Spec PyProof.Rows L2
section
variable {κ β : Type} [DecidableEq κ]
def valG (kvs : List (κ × β)) (k : κ) : Option β := (kvs.find? fun kv => decide (kv.1 = k)).map (·.2)
def putG (kvs : List (κ × β)) (k : κ) (v : β) : List (κ × β) :=
 if (kvs.any fun kv => decide (kv.1 = k)) = true then kvs.map (fun kv => if kv.1 = k then (kv.1, v) else kv) else kvs ++ [(k, v)]
theorem valG_pos {p : κ × β} {r : List (κ × β)} {k : κ} (e : p.1 = k) : valG (p :: r) k = some p.2 := by simp [valG, List.find?_cons, e]
theorem valG_neg {p : κ × β} {r : List (κ × β)} {k : κ} (e : ¬ p.1 = k) : valG (p :: r) k = valG r k := by simp [valG, List.find?_cons, e]
end
section
variable {κ : Type} [DecidableEq κ] {K : PySem.W.Frag} {Z : Addr → Prop} {m : Mu} {H : Hp}
theorem RKW.val {k : κ} : ∀ {kvs : List (κ × D)} {vs : List (κ × V)}, RKW K Z m H kvs vs → (∀ x, valG kvs k = some x → ∃ v, valV vs k = some v ∧ RW K Z m H x v) ∧ (valG kvs k).isSome = (valV vs k).isSome
 | [], _, h => by cases (show _ = [] from h); exact ⟨fun x e => (nomatch e), rfl⟩
 | (g, y) :: fs, _, ⟨v, r, h1, h2, h3⟩ => by
  subst h1; obtain ⟨i1, i2⟩ := h3.val (k := k)
  by_cases e : g = k
  ·rw [valG_pos (p := (g, y)) e, valV_pos (p := (g, v)) e]; exact ⟨fun x q => by cases q; exact ⟨v, rfl, h2⟩, rfl⟩
  ·rw [valG_neg (p := (g, y)) e, valV_neg (p := (g, v)) e]; exact ⟨i1, i2⟩
theorem RKW.any {k : κ} : ∀ {kvs : List (κ × D)} {vs : List (κ × V)}, RKW K Z m H kvs vs → (vs.any fun kv => decide (kv.1 = k)) = (kvs.any fun kv => decide (kv.1 = k))
 | [], _, h => by cases (show _ = [] from h); rfl
 | (g, y) :: fs, _, ⟨v, r, h1, h2, h3⟩ => by subst h1; rw [List.any_cons, List.any_cons, h3.any]
theorem RKW.repl {k : κ} {x : D} {v : V} (hx : RW K Z m H x v) : ∀ {kvs : List (κ × D)} {vs : List (κ × V)}, RKW K Z m H kvs vs → RKW K Z m H (kvs.map fun kv => if kv.1 = k then (kv.1, x) else kv) (vs.map fun kv => if kv.1 = k then (kv.1, v) else kv)
 | [], _, h => by cases (show _ = [] from h); rfl
 | (g, y) :: fs, _, ⟨w, r, h1, h2, h3⟩ => by
  subst h1; rw [List.map_cons, List.map_cons]
  by_cases e : g = k
  ·rw [if_pos (show ((g, y) : κ × D).1 = k from e), if_pos (show ((g, w) : κ × V).1 = k from e)]; exact ⟨v, _, rfl, hx, h3.repl hx⟩
  ·rw [if_neg (show ¬ ((g, y) : κ × D).1 = k from e), if_neg (show ¬ ((g, w) : κ × V).1 = k from e)]; exact ⟨w, _, rfl, h2, h3.repl hx⟩
theorem RKW.snoc {k : κ} {x : D} {v : V} (hx : RW K Z m H x v) : ∀ {kvs : List (κ × D)} {vs : List (κ × V)}, RKW K Z m H kvs vs → RKW K Z m H (kvs ++ [(k, x)]) (vs ++ [(k, v)])
 | [], _, h => by cases (show _ = [] from h); exact ⟨v, [], rfl, hx, rfl⟩
 | (g, y) :: fs, _, ⟨w, r, h1, h2, h3⟩ => by subst h1; exact ⟨w, _, rfl, h2, h3.snoc hx⟩
theorem RKW.put {k : κ} {x : D} {v : V} {kvs : List (κ × D)} {vs : List (κ × V)} (h : RKW K Z m H kvs vs) (hx : RW K Z m H x v) : RKW K Z m H (putG kvs k x) (putK vs k v) := by
 unfold putG putK; rw [h.any]
 split
 ·exact h.repl hx
 ·exact h.snoc hx
theorem Ok.n {a : Addr} {kvs : List (List PyData × D)} (ok : Ok K Z m H) (h : m a = some (.n kvs)) : ∃ vs, H a = some (.dN K vs) ∧ RKW K Z m H kvs vs := by
 obtain ⟨o, h1, h2⟩ := ok.g a _ h
 cases o <;> first | (obtain ⟨rfl, h2⟩ := h2; exact ⟨_, h1, h2⟩) | exact h2.elim
end
section
variable {X : Cx} {pins : List (Addr × Obj)} {σ : L2.St} {H : Hp} {s : Shared}
mutual
theorem NKV.reads (I : Inv X pins σ H s) : ∀ (p : PyData) (v : V) (u : Value), NKV X.K H p v → RelV v u → ∃ as, Reads s.heap u p as
 | .int i, v, u, h, r => by simp only [NKV] at h; subst h; obtain ⟨t, rfl⟩ := r; exact ⟨_, .int i t⟩
 | .str x, v, u, h, r => by simp only [NKV] at h; subst h; obtain ⟨t, rfl⟩ := r; exact ⟨_, .str x t⟩
 | .tuple xs, v, u, h, r => by
  simp only [NKV] at h; obtain ⟨a, vs, rfl, h2, h3⟩ := h
  cases r
  obtain ⟨its, rv, ⟨o, e, c, n, d⟩, _⟩ := I.tuple h2; obtain ⟨as, q⟩ := NKVs.reads I xs vs its h3 rv; exact ⟨_, .tuple e c d (by simpa using q)⟩
 | .none, _, _, h, _ | .bool _, _, _, h, _ | .list _, _, _, h, _ | .dict _, _, _, h, _ => by simp only [NKV] at h
theorem NKVs.reads (I : Inv X pins σ H s) : ∀ (xs : List PyData) (vs : List V) (us : List Value), NKVs X.K H xs vs → Vals vs us → ∃ as, ReadsAll s.heap us xs as
 | [], vs, us, h, r => by simp only [NKVs] at h; subst h; cases r; exact ⟨_, .nil⟩
 | x :: xs, vs, us, h, r => by
  simp only [NKVs] at h; obtain ⟨v, w, rfl, h1, h2⟩ := h
  cases r with
  | cons r1 r2 =>
   obtain ⟨as, q1⟩ := NKV.reads I x v _ h1 r1; obtain ⟨bs, q2⟩ := NKVs.reads I xs w _ h2 r2; exact ⟨_, .cons q1 q2⟩
end
abbrev KN (K : PySem.W.Frag) (H : Hp) : List (List PyData × V) → List (List PyData × Addr × Value) → Prop :=
 Paired fun p q => p.1 = q.1 ∧ (L2.isKs p.1 = true ∧ PyData.depthAll p.1 ≤ 6 ∧ NKV K H (.tuple p.1) (.ref q.2.1)) ∧ RelV p.2 q.2.2
theorem KN.val {K : PySem.W.Frag} {kvs : List (List PyData × V)} {xs : List (List PyData × Addr × Value)} (r : KN K H kvs xs) (k : List PyData) : RelO (valV kvs k) ((atKey xs k).map (·.2)) := by
 induction r with
 | nil => exact True.intro
 | @cons p q ps qs h t ih =>
  obtain ⟨h1, _, h2⟩ := h
  by_cases e : p.1 = k
  ·have e' : q.1 = k := h1.symm.trans e
   have b : atKey (q :: qs) k = some q.2 := by simp [atKey, List.find?_cons, e']
   rw [valV_pos e, b]; exact h2
  ·have e' : ¬ q.1 = k := fun z => e (h1.trans z)
   have b : atKey (q :: qs) k = atKey qs k := by simp [atKey, List.find?_cons, e']
   rw [valV_neg e, b]; exact ih
theorem KN.repl {K : PySem.W.Frag} {kvs : List (List PyData × V)} {xs : List (List PyData × Addr × Value)} (r : KN K H kvs xs) (k : List PyData) {y : V} {u : Value} (ry : RelV y u) :
  KN K H (kvs.map fun kv => if kv.1 = k then (kv.1, y) else kv) (xs.map (putAt k u)) := by
 induction r with
 | nil => exact .nil
 | @cons p q ps qs h t ih =>
  rw [List.map_cons, List.map_cons]; refine .cons ?_ ih; obtain ⟨h1, h2, h3⟩ := h; unfold putAt
  by_cases e : p.1 = k
  ·rw [if_pos e, if_pos (h1.symm.trans e)]; exact ⟨h1, h2, ry⟩
  ·rw [if_neg e, if_neg (fun z => e (h1.trans z))]; exact ⟨h1, h2, h3⟩
theorem KN.put {K : PySem.W.Frag} {kvs : List (List PyData × V)} {xs : List (List PyData × Addr × Value)} (r : KN K H kvs xs) (k : List PyData) {b : Addr} {y : V} {u : Value} (hb : L2.isKs k = true ∧ PyData.depthAll k ≤ 6 ∧ NKV K H (.tuple k) (.ref b)) (ry : RelV y u) :
  KN K H (putK kvs k y) (storedH xs k b u) := by
 have e : (kvs.any fun kv => decide (kv.1 = k)) = (atKey xs k).isSome := by
  rw [valV_any, (r.val k).isSome_eq, Option.isSome_map]
 unfold putK storedH; rw [e]
 by_cases q : (atKey xs k).isSome = true
 ·rw [if_pos q, if_pos q]; exact r.repl k ry
 ·rw [if_neg q, if_neg q]; exact Paired.snoc r ⟨rfl, hb, ry⟩
end
end DL
namespace DL
open PySem PySem.Spec PyProof.Rows L2
def tabB (sl : List Int → List Nat) (led : Bool) (zs : List Int) : SetTable := { mask := 7, place := (sl zs).toArray, dummies := #[], finger := 0, led := led, moves := 0, plain := true }
def es3 (zs : List Int) (tks : List Tok) : Array (Int × Value) := (List.zipWith (fun z t => (hashInt z, Value.int z t)) zs tks).toArray
structure SD where
 dom : List Int
 sub : List Int → Prop
 sl : List Int → List Nat
 to : List Int → Int → Nat
 ins : List Int → Int → List Int
 cap : Nat
 nil : sub []
 nil' : sl [] = []
 len : ∀ zs, sub zs → zs.length ≤ 3 ∧ (∀ led, (tabB sl led zs).fits zs.length = true)
 free : ∀ led zs, sub zs → ∀ z ∈ dom, z ∉ zs → zs.length < cap → (tabB sl led zs).freeSlot (hashInt z) = some (to zs z, false) ∧ (tabB sl led zs).put (to zs z) = (tabB sl led (ins zs z), SetTable.below (sl zs).toArray (to zs z)) ∧ (tabB sl led (ins zs z)).fits (zs.length + 1) = true ∧
  ins zs z = zs.take (SetTable.below (sl zs).toArray (to zs z)) ++ z :: zs.drop (SetTable.below (sl zs).toArray (to zs z)) ∧ sub (ins zs z) ∧ (tabB sl led (ins zs z)).tooFull = false
 old : ∀ zs, sub zs → ∀ z ∈ zs, ins zs z = zs
 st : ∀ zs, sub zs → ∀ i j : Nat, ((sl zs).toArray)[i]? = some j → SetTable.below (sl zs).toArray (j + 1) = i + 1
 bel : ∀ zs, sub zs → SetTable.below (sl zs).toArray 0 = 0
def ISetB (B : SD) (P : Program) (w : World) (h : Heap) (a : Addr) (zs : List Int) : Prop :=
 ∃ o tks ep, h.get? a = some o ∧ o.ExactSet ∧ B.sub zs ∧ tks.length = zs.length ∧ o.data = .set (es3 zs tks) ep (tabB B.sl (!w.params.followText "set-order") zs)
theorem ISetB.at {B : SD} {P : Program} {w : World} {h h' : Heap} {a : Addr} {zs : List Int} (T : ISetB B P w h a zs) (k : ∀ o, h.get? a = some o → h'.get? a = some o) : ISetB B P w h' a zs := by
 obtain ⟨o, tks, ep, ho, rest⟩ := T; exact ⟨o, tks, ep, k o ho, rest⟩
section
variable {P : Program} {w : World} {A : Around} {E : Value → Shared → Prop} {s : Shared} {S : Addr} {zs : List Int} {B : SD}
theorem ISetB.type {h : Heap} (T : ISetB B P w h S zs) : ∃ o, h.get? S = some o ∧ o.cls = .type "set" := let ⟨o, _, _, ho, hx, _⟩ := T; ⟨o, ho, hx.1⟩
end
def slotZ (z : Int) : Nat := if z = -1 then 6 else z.toNat
def SUB3 : List (List Int) := [[], [0], [1], [-1], [0, 1], [0, -1], [1, -1], [0, 1, -1]]
theorem st3 : ∀ zs ∈ SUB3, ∀ i : Fin 3, (match ((zs.map slotZ).toArray)[i.val]? with | none => true | some j => decide (SetTable.below (zs.map slotZ).toArray (j + 1) = i.val + 1)) = true := by decide +kernel
end DL
namespace DL
open PySem PySem.Spec PyProof.Rows L2
section
variable {X : Cx} {elt tg iter : Expr} {ifs : List Expr} {scope : Scope} {NC : List Str} {fi : DI} {g : DG} {t : DT} {f : DE} {pos : Pos}
theorem vals_ints : ∀ {vs : List Value} {ys : List Int}, IntsAre vs ys → Vals (ys.map V.int) vs
 | _, _, .nil => .nil
 | _, _, .cons z t h => .cons ⟨t, rfl⟩ (vals_ints h)
end
end DL
namespace DL
open PySem PySem.Spec PyProof.Rows L2
mutual
@[simp] def keq : PyData → PyData → Bool
 | .int i, .int j => decide (i = j)
 | .str x, .str y => decide (x = y)
 | .tuple xs, .tuple ys => keqs xs ys
 | _, _ => false
@[simp] def keqs : List PyData → List PyData → Bool
 | [], [] => true
 | x :: xs, y :: ys => keq x y && keqs xs ys
 | _, _ => false
end
def valF {β : Type} (kvs : List (PyData × β)) (k : PyData) : Option β := (kvs.find? fun kv => keq kv.1 k).map (·.2)
theorem valF_cons {β : Type} {p : PyData × β} {r : List (PyData × β)} {k : PyData} : valF (p :: r) k = if keq p.1 k = true then some p.2 else valF r k := by
 unfold valF; rw [List.find?_cons]
 cases keq p.1 k <;> rfl
section
variable {K : PySem.W.Frag} {Z : Addr → Prop} {m : Mu} {H : Hp}
theorem RPd.val {k p : PyData} : ∀ {kvs : List (PyData × PyData)} {vs : List (PyData × V)}, RPd K Z m H kvs vs → valF kvs k = some p → ∃ v, valF vs k = some v ∧ RP K Z m H p v
 | [], _, _, e => nomatch e
 | (j, q) :: xs, _, h, e => by
  simp only [RPd] at h; obtain ⟨v, r, rfl, h2, h3⟩ := h; rw [valF_cons] at e ⊢
  split at e
  ·rename_i c; rw [if_pos c]
   cases e
   exact ⟨v, rfl, h2⟩
  ·rename_i c; rw [if_neg c]; exact RPd.val h3 e
theorem RPd.keys : ∀ {kvs : List (PyData × PyData)} {vs : List (PyData × V)}, RPd K Z m H kvs vs → vs.map (·.1) = kvs.map (·.1)
 | [], _, h => by simp only [RPd] at h; subst h; rfl
 | (j, q) :: xs, _, h => by
  simp only [RPd] at h; obtain ⟨v, r, rfl, h2, h3⟩ := h; rw [List.map_cons, List.map_cons, RPd.keys h3]
end
end DL
namespace DL
open PySem PySem.Spec PyProof.Rows L2
section
variable {X : Cx} {pins : List (Addr × Obj)} {σ : L2.St} {H : Hp} {s : Shared}
mutual
theorem NKV.rp {K : PySem.W.Frag} {Z : Addr → Prop} {m : Mu} : ∀ (p : PyData) (v : V), NKV K H p v → RP K Z m H p v
 | .int _, _, h => by simp only [NKV] at h; simp only [RP]; exact h
 | .str _, _, h => by simp only [NKV] at h; simp only [RP]; exact h
 | .tuple xs, _, h => by
  simp only [NKV] at h; simp only [RP]; obtain ⟨a, vs, e, h1, h2⟩ := h; exact ⟨a, vs, e, h1, NKVs.rp xs vs h2⟩
 | .none, _, h | .bool _, _, h | .list _, _, h | .dict _, _, h => by simp only [NKV] at h
theorem NKVs.rp {K : PySem.W.Frag} {Z : Addr → Prop} {m : Mu} : ∀ (ps : List PyData) (vs : List V), NKVs K H ps vs → RPs K Z m H ps vs
 | [], _, h => by simp only [NKVs] at h; simp only [RPs]; exact h
 | p :: ps, _, h => by
  simp only [NKVs] at h; simp only [RPs]; obtain ⟨v, r, e, h1, h2⟩ := h; exact ⟨v, r, e, NKV.rp p v h1, NKVs.rp ps r h2⟩
end
end
section
variable {X : Cx} {a tg : Expr} {f : DE}
theorem Ok.fd {K : PySem.W.Frag} {Z : Addr → Prop} {m : Mu} {H : Hp} {a : Addr} {xs : List (Key × PyData)} (ok : Ok K Z m H) (h : m a = some (.fd xs)) : ∃ ob vs, H a = some (.frz ob (.dK vs)) ∧ RKV K Z m H xs vs := by
 obtain ⟨o, h1, h2⟩ := ok.g a _ h
 cases o with
 | frz ob u => cases u <;> first | exact ⟨_, _, h1, h2⟩ | exact h2.elim
 | _ => exact h2.elim
end
end DL
namespace DL
open PySem PySem.Spec PyProof.Rows L2
def noC (c : Addr) (d : St2) : Prop := ∀ x ∈ d, x ≠ some (.cel c)
section
variable {K : PySem.W.Frag} {Z : Addr → Prop} {m m2 : Mu} {H H' : Hp} {c : Addr} {xs : List PyData}
theorem rsv_tr (hm : m c = some (.l xs)) : ∀ a (vs : List V), (m a = none ∧ ¬ Z a) → SqL K H a vs → (offM m c a = none ∧ ¬ rsv Z c a) ∧ SqL K H a vs := fun a vs h1 h2 =>
 ⟨⟨off_none h1.1, fun z => z.elim h1.2 fun e => by rw [e, hm] at h1; cases h1.1⟩, h2⟩
theorem rsv_ok (ok : Ok K Z m H) (hm : m c = some (.l xs)) : Ok K (rsv Z c) (offM m c) H := by
 refine ⟨fun a cl h => ?_, fun a h => ?_⟩
 ·unfold offM at h
  split at h
  ·cases h
  ·obtain ⟨o, h1, h2⟩ := ok.g a cl h; exact ⟨o, h1, h2.lift fun p v q => RP.tr (fun _ _ q => q) (rsv_tr hm) p v q⟩
 ·rcases h with h | h
  ·exact ⟨off_none (ok.z a h).1, (ok.z a h).2⟩
  ·subst h; obtain ⟨o, h1, _⟩ := ok.g a _ hm; exact ⟨by unfold offM; rw [if_pos rfl], by rw [h1]; exact fun e => nomatch e⟩
theorem back_tr : ∀ a (vs : List V), (m2 a = none ∧ ¬ rsv Z c a) → SqL K H' a vs → (updM m2 c (.l xs) a = none ∧ ¬ Z a) ∧ SqL K H' a vs := fun a vs q1 q2 =>
 ⟨⟨by rw [updM_ne fun z => q1.2 (.inr z)]; exact q1.1, fun z => q1.2 (.inl z)⟩, q2⟩
theorem back_ok {vs : List V} (ok : Ok K (rsv Z c) m2 H') (nz : ¬ Z c) (hH : H' c = some (.lst vs)) (hr : RPs K (rsv Z c) m2 H' xs vs) : Ok K Z (updM m2 c (.l xs)) H' := by
 refine ⟨fun a cl q => ?_, fun a q => ?_⟩
 ·by_cases e : a = c
  ·subst e; rw [updM_same] at q
   cases q
   exact ⟨_, hH, RPs.tr (fun _ _ q => q) back_tr _ _ hr⟩
  ·rw [updM_ne e] at q; obtain ⟨o, q1, q2⟩ := ok.g a cl q; exact ⟨o, q1, q2.lift fun p v q3 => RP.tr (fun _ _ q => q) back_tr p v q3⟩
 ·have ne : a ≠ c := fun e => nz (e ▸ q)
  obtain ⟨q1, q2⟩ := ok.z a (.inl q); exact ⟨by rw [updM_ne ne]; exact q1, q2⟩
theorem back_ext (e : Ext K (rsv Z c) (offM m c) H m2 H') (hm : m c = some (.l xs)) (nz : ¬ Z c) : Ext K Z m H (updM m2 c (.l xs)) H' := by
 refine ⟨e.t, fun a vs h1 h2 => ?_, fun a h => e.z a (.inl h), fun a h => ?_, e.fz, fun a h => ?_, fun a vs h1 h2 => e.ll a vs ⟨off_none h1.1, fun z => z.elim h1.2 fun q => by rw [q, hm] at h1; cases h1.1⟩ h2⟩
 ·obtain ⟨⟨q0, q1⟩, q2⟩ := rsv_tr (Z := Z) hm a vs h1 h2; obtain ⟨q3, q4⟩ := e.l a vs ⟨q0, q1⟩ q2; exact ⟨by rw [updM_ne fun z => q1 (.inr z)]; exact q3, q4⟩
 ·by_cases ea : a = c
  ·subst ea; rw [updM_same]; rfl
  ·rw [updM_ne ea]; refine e.c a ?_; unfold offM; rw [if_neg ea]; exact h
 ·have ne : a ≠ c := by rintro rfl; rw [hm] at h; cases h
  have q := e.fm a (by unfold offM; rw [if_neg ne]; exact h)
  rw [updM_ne ne, q]; unfold offM; rw [if_neg ne]
theorem yields_rsv {vs : List V} (hH : H c = some (.lst vs)) (hr : RPs K (rsv Z c) m H xs vs) : YieldsE K (rsv Z c) m H (xs.map .dat) (L2.Itl K c) := by
 intro m2 H2 e; have q1 : SqL K H2 c vs := .inl (.inl ((e.z c (.inr rfl)).trans hH))
 refine ⟨fun i x hx => ?_, ⟨vs, q1, by rw [hr.length, List.length_map]; exact Nat.le_refl _⟩⟩
 obtain ⟨p, hp, rfl⟩ := get_map hx; obtain ⟨v, hv, rv⟩ := hr.get hp; refine ⟨⟨vs, v, q1, hv⟩, fun v' H3 y => .inl ⟨y.1, ?_⟩⟩; have := y.2 vs q1
 rw [hv] at this
 cases this
 exact rv
open Classical in
def hideC (c : Addr) (d : St2) : St2 := d.map fun x => if x = some (.cel c) then none else x
open Classical in
theorem hide_get {d : St2} {j : Nat} : ((hideC c d)[j]?).join = if (d[j]?).join = some (.cel c) then none else (d[j]?).join := by
 unfold hideC; rw [List.getElem?_map]
 cases e : d[j]? with
 | none => simp
 | some x => simp only [Option.map_some, Option.join_some]
theorem hide_src {src : List (Option Nat)} {d : St2} (h : noC c (srcOf src d)) : srcOf src (hideC c d) = srcOf src d := by
 unfold srcOf at h ⊢; refine List.map_congr_left fun o ho => ?_; have hx := h _ (List.mem_map_of_mem ho)
 cases o with
 | none => rfl
 | some j =>
  simp only [Option.bind_some] at hx ⊢; rw [hide_get, if_neg hx]
theorem hide_rs {d : St2} {σ : L2.St} (rs : RS K Z m H d σ) (hm : m c = some (.l xs)) : RS K (rsv Z c) (offM m c) H (hideC c d) σ := by
 refine ⟨by unfold hideC; rw [List.length_map]; exact rs.1, fun i x hx => ?_⟩
 have e := hide_get (c := c) (d := d) (j := i)
 rw [hx] at e; simp only [Option.join_some] at e
 split at e
 ·cases e
 ·rename_i ne; have hd : d[i]? = some (some x) := by
   cases q : d[i]? with
   | none => rw [q] at e; cases e
   | some y => rw [q] at e; simp only [Option.join_some] at e; rw [e]
  obtain ⟨v, q1, q2⟩ := rs.2 i x hd; refine ⟨v, q1, ?_⟩
  cases x with
  | dat p => exact RP.tr (fun _ _ q => q) (rsv_tr hm) p v q2
  | cel b =>
   refine ⟨q2.1, ?_⟩; have nb : b ≠ c := by rintro rfl; rw [hd] at ne; exact ne rfl
   unfold offM; rw [if_neg nb]; exact q2.2
end
section
variable {X : Cx} {elt tg : Expr} {ifs : List Expr} {scope : Scope} {NC : List Str} {g : DG} {t : DT} {f : DE} {pos npos : Pos}
@[simp] def dLCR (i : Nat) (src : List (Option Nat)) (g : DG) (t : DT) (f : DE) : DE := fun d m Q => ∃ c xs, d[i]? = some (some (.cel c)) ∧ m c = some (.l xs) ∧ noC c (srcOf src d) ∧ loopC g t f (xs.map .dat) [] (srcOf src d) (offM m c) fun ps m2 => Q (.dat (.list ps)) (updM m2 c (.l xs))
theorem le_lcRB (i : Nat) {x : Str} (NC : List Str) (src : List (Option Nat)) (hc : X.calm = true)
  (hg : ∀ cl C s2 H2 pins fp, PG (cyOf X scope cl C NC s2 H2 pins fp) tg (LG X.K g)) (ht : ∀ cl C s2 H2 pins fp, PF (cyOf X scope cl C NC s2 H2 pins fp) ifs (LT X.K t)) (he : ∀ cl C s2 H2 pins fp, PE (cyOf X scope cl C NC s2 H2 pins fp) elt (LE X.K f))
  (hN : X.N[i]? = some x := by rfl) (hv : Vis X.env.scope x := by first | exact Or.inl rfl | exact Or.inr (Or.inl rfl) | exact Or.inr (Or.inr rfl)) (hd : (x == ("__debug__" : Str)) = false := by decide)
  (hcd : (x == ("__classdict__" : Str)) = false := by decide)
  (hkind : scope.kind = .function := by rfl) (hB : chkB scope X.env = true := by rfl) (hS : chkS X.N scope X.env NC src = true := by rfl)
  (hs : ∀ v, foldedSetIterable (.Name x npos) X.env v = pure v := by intro _; rfl) : PE X (.ListComp elt [⟨tg, .Name x npos, ifs, 0⟩] scope pos) (LE X.K (dLCR i src g t f)) := by
 intro pins s σ H Q I h; obtain ⟨Z, d, m, R, ok, rs, ⟨c, xs, hdc, hm, nc, lp⟩, k⟩ := h; obtain ⟨vs, hH, rp⟩ := ok.l hm; have nz : ¬ Z c := fun z => by have := (ok.z c z).1; rw [hm] at this; cases this
 have ok' := rsv_ok ok hm
 have rs' := hide_rs rs hm
 have rp' : RPs X.K (rsv Z c) (offM m c) H xs vs := RPs.tr (fun _ _ q => q) (rsv_tr hm) _ _ rp
 obtain ⟨v, hσ, hv2⟩ := rs.2 i _ hdc; obtain ⟨rfl, _⟩ := hv2; rw [eval_ListComp]; refine lc_coreL (NC := NC) src hc (pi_seq (pe_var (pos := npos) hN hv hd hcd)) hg ht he hkind (chkB.ok hB).1 (chkB.ok hB).2.1 (chkB.ok hB).2.2 (chkS.ok hS) hs (use := none) (QQ := EP X pins σ Q) (RL := fun ps m2 => R (.dat (.list ps)) (updM m2 c (.l xs))) (Z := rsv Z c) (d := hideC c d) (m := offM m c) I ok' rs' ?_ ?_
 ·exact ⟨.ref c, hσ, .inl ⟨c, rfl, ⟨vs, .inl (.inl hH)⟩, xs.map .dat, offM m c, Ext.refl, ok', yields_rsv hH rp', by rw [hide_src nc]; exact lp⟩⟩
 ·intro s5 C D H' m2 ps q e ok2 rd ⟨mm, hns⟩ I5 off _; have hH' : H' c = some (.lst vs) := (e.z c (.inr rfl)).trans hH
  refine ⟨mm, hns, fun h' hs' => ⟨.ref D, H', off.inv I5 hs', rfl, k _ (updM m2 c (.l xs)) _ H' q (back_ext e hm nz) (back_ok ok2 nz hH' (RPs.ext e _ _ rp')) ?_⟩⟩; exact RP.tr (fun _ _ q => q) back_tr _ _ rd
end
end DL
namespace DL
open PySem PySem.Spec PyProof.Rows L2
mutual
theorem reads_old {h h' : Heap} (hk : ∀ b o, h.get? b = some o → h'.get? b = some o) : ∀ (p : PyData) (v : Value) (as : List Addr), L2.isK p = true → Reads h v p as → Reads h' v p as
 | .int _, _, _, _, r => by cases r; exact .int _ _
 | .str _, _, _, _, r => by cases r; exact .str _ _
 | .tuple xs, _, _, hi, r => by
  cases r with
  | tuple h1 h2 h3 h4 => exact .tuple (hk _ _ h1) h2 h3 (readsAll_old hk xs _ _ hi h4)
 | .none, _, _, h, _ | .bool _, _, _, h, _ | .list _, _, _, h, _ | .dict _, _, _, h, _ => by simp [L2.isK] at h
theorem readsAll_old {h h' : Heap} (hk : ∀ b o, h.get? b = some o → h'.get? b = some o) : ∀ (ps : List PyData) (vs : List Value) (as : List Addr), L2.isKs ps = true → ReadsAll h vs ps as → ReadsAll h' vs ps as
 | [], _, _, _, r => by cases r; exact .nil
 | x :: xs, _, _, hi, r => by
  simp only [L2.isKs, Bool.and_eq_true] at hi
  cases r with
  | cons r1 r2 => exact .cons (reads_old hk x _ _ hi.1 r1) (readsAll_old hk xs _ _ hi.2 r2)
end
section
variable {prog : Program} {w : World} {A : Around} {E : Value → Shared → Prop} {s : Shared}
theorem nest_old {h h' : Heap} {k : List PyData} {a : Addr} (hk : ∀ b o, h.get? b = some o → h'.get? b = some o) (x : (nestKind prog w).is h k a) : (nestKind prog w).is h' k a := by
 obtain ⟨k1, k2, as, r⟩ := x; exact ⟨k1, k2, as, reads_old hk _ _ _ k1 r⟩
def RawN (prog : Program) (w : World) (hb h : Heap) (d : Addr) (xs : List (List PyData × Addr × Value)) : Prop :=
 (∃ o es ep, h.get? d = some o ∧ o.ExactDict ∧ o.data = .dict es ep ∧ es.toList = xs.map (entryOfKey (nestKind prog w)) ∧ (xs.map (·.1)).Nodup) ∧ ∀ x ∈ xs, (nestKind prog w).is hb x.1 x.2.1
theorem RawN.of {hb h : Heap} {d : Addr} {xs : List (List PyData × Addr × Value)} (r : RawN prog w hb h d xs) (hk : ∀ b o, hb.get? b = some o → h.get? b = some o) : h.DictOfH (nestKind prog w) d xs := by
 obtain ⟨⟨o, es, ep, h1, h2, h3, h4, h5⟩, h6⟩ := r; exact ⟨o, es, ep, h1, h2, h3, h4, fun x hx => nest_old hk (h6 x hx), h5⟩
theorem RawN.at {hb h h' : Heap} {d : Addr} {xs : List (List PyData × Addr × Value)} (r : RawN prog w hb h d xs) (hk : ∀ o, h.get? d = some o → h'.get? d = some o) : RawN prog w hb h' d xs := by
 obtain ⟨⟨o, es, ep, h1, rest⟩, h6⟩ := r; exact ⟨⟨o, es, ep, hk _ h1, rest⟩, h6⟩
end
end DL
namespace DL
open PySem PySem.Spec PyProof.Rows L2
def res8 (z : Int) : Nat := z.toNat % 8
def nxt8 (r : Nat) : Nat := (5 * r + 1) % 8
def sl2 : List Int → List Nat
 | [a, b] => if res8 a ≠ res8 b then [res8 a, res8 b] else if res8 a < nxt8 (res8 a) then [res8 a, nxt8 (res8 a)] else [nxt8 (res8 a), res8 a]
 | zs => zs.map res8
def ok2 (a b : Int) : Bool := decide (a ≠ b) && (match sl2 [a, b] with | [i, j] => decide (i < j) | _ => false)
end DL
namespace DL
open PySem PySem.W PyProof.Rows
section
variable {α β : Type} {n : Nat} {lt : Nat → Nat → Bool}
structure Ord (lt : Nat → Nat → Bool) : Prop where
 irr : ∀ a, lt a a = false
 tr : ∀ {a b c}, lt a b = true → lt b c = true → lt a c = true
 neg : ∀ {a b c}, lt a c = true → lt a b = true ∨ lt b c = true
theorem Ord.le_tr (O : Ord lt) {a b c : Nat} (h1 : lt b a = false) (h2 : lt c b = false) : lt c a = false := by
 cases e : lt c a with
 | false => rfl
 | true => rcases O.neg (b := b) e with h | h <;> simp_all
def Srt (lt : Nat → Nat → Bool) (p : Array Nat) (k : Nat) : Prop := ∀ i j, i < j → j < k → lt (p.getD j 0) (p.getD i 0) = false
def EqR (lt : Nat → Nat → Bool) (p : Array Nat) (m q : Nat) : Prop := ∀ i j, m - (q + 1) ≤ i → i < m → m - (q + 1) ≤ j → j < m → lt (p.getD i 0) (p.getD j 0) = false
def Pm (n : Nat) (p : Array Nat) : Prop := p.toList.Perm (List.range n)
theorem Pm.size {p : Array Nat} (h : Pm n p) : p.size = n := by have := h.length_eq; simpa using this
theorem Pm.at {p : Array Nat} (h : Pm n p) (hn : 1 ≤ n) (i : Nat) : p.getD i 0 < n := by
 by_cases hi : i < p.size
 ·have : p.getD i 0 ∈ p.toList := by
   rw [Array.getD, dif_pos hi]; exact Array.getElem_mem_toList hi
  exact List.mem_range.mp (h.mem_iff.mp this)
 ·rw [Array.getD, dif_neg hi]; omega
variable (O : Ord lt)
include O
theorem Srt.snoc {p : Array Nat} {a : Nat} (h : Srt lt p a) (h1 : 1 ≤ a) (hl : lt (p.getD a 0) (p.getD (a - 1) 0) = false) : Srt lt p (a + 1) := by
 intro i j hi hj
 by_cases e : j < a
 ·exact h i j hi e
 ·obtain rfl : j = a := by omega
  by_cases e2 : i = j - 1
  ·subst e2; exact hl
  ·exact O.le_tr (h i (j - 1) (by omega) (by omega)) hl
theorem EqR.one {p : Array Nat} {m : Nat} : EqR lt p m 0 := by
 intro i j h1 h2 h3 h4; obtain rfl : i = j := by omega
 exact O.irr _
end
end DL
namespace DL
open PySem PySem.Spec PyProof.Rows L2
def StrM (name : Str) (F : Str → Str → Str) : Prop := ∀ {prog : Program} {w : World} {A : Around} {E : Value → Shared → Prop} {s : Shared} {x : Str} {t : Tok} {pos : Pos} {a : Sem Value} {Q : Value → Shared → Prop},
   wpAny (model prog w) A a (fun v s₁ => ∃ y u, v = .str y u ∧ ∀ t' k, Q (.str (F x y) t') { s₁ with toks := k }) E s → x.length ≤ sizeLine → MethodOnS prog w A E name (.str x t) pos [(false, a)] Q s
theorem sm_strip : StrM "strip" Txt.stripChars := fun h hx => SB.stripChars h hx
theorem sm_lstrip : StrM "lstrip" Txt.lstripChars := fun h hx => SB.lstripChars h hx
theorem sm_rempre : StrM "removeprefix" Txt.removeprefix := fun h hx => SB.removeprefix h hx
@[simp] def dStrM (F : Str → Str → Str) (f g : DE) : DE := fun d m Q => f d m fun x m1 => ∃ z : Str, x = .dat (.str z) ∧ z.length ≤ sizeLine ∧ g d m1 fun y m2 => ∃ z2 : Str, y = .dat (.str z2) ∧ Q (.dat (.str (F z z2))) m2
section
variable {X : Cx} {o e : Expr} {f g : DE} {apos cpos : Pos}
theorem le_strM {name : Str} {F : Str → Str → Str} (hM : StrM name F) (ho : PE X o (LE X.K f)) (he : PE X e (LE X.K g)) (hbase : attributeBase o name X.env (eval o X.env) = eval o X.env := by rfl)
  (hs : starEach [e] X.env = [(false, eval e X.env)] := by rfl) (hline : (apos.endLine == cpos.line) = true := by rfl) : PE X (.Call (.Attribute o name apos) [e] [] cpos) (LE X.K (dStrM F f g)) := by
 intro pins s σ H Q I h; obtain ⟨Z, d, m, R, ok, rs, h, k⟩ := h; refine Call_method1 hbase hs hline (thn (ho pins s σ H (fun v H1 => ∃ z : Str, v = .str z ∧ z.length ≤ sizeLine ∧ LE X.K g σ H1 fun v2 H2 => ∃ y : Str, v2 = .str y ∧ Q (.str (F z y)) H2) I ⟨Z, d, m, _, ok, rs, h, fun x m1 v H1 ⟨z, ex, hz, hq⟩ e1 ok1 r1 => ?_⟩) fun v s1 ⟨x, H1, I1, rx, z, ex, hz, q1⟩ => ?_)
 ·subst ex
  cases r1.str
  refine ⟨z, rfl, hz, Z, d, m1, _, ok1, rs.ext e1, hq, fun y m2 v2 H2 ⟨yy, ey, q⟩ e2 ok2 r2 => ?_⟩; subst ey
  cases r2.str
  exact ⟨yy, rfl, k _ m2 _ H2 q (e1.trans e2) ok2 .ofStr⟩
 ·subst ex; obtain ⟨t, rfl⟩ := rx; refine hM (thn (he pins s1 σ H1 _ I1 q1) fun v2 s2 ⟨x2, H2, I2, rx2, y, ey, q2⟩ => ?_) hz; subst ey; obtain ⟨u, rfl⟩ := rx2; exact ⟨y, u, rfl, fun t' k' => ⟨.str _, H2, I2.tok _, ⟨_, rfl⟩, q2⟩⟩
@[simp] def dSIdx (f g : DE) : DE := fun d m Q => f d m fun x m1 => ∃ z : Str, x = .dat (.str z) ∧ g d m1 fun y m2 => ∃ z2 : Str, y = .dat (.str z2) ∧ Txt.contains z z2 = true ∧ Q (.dat (.int (Txt.find z z2))) m2
theorem le_sidx (ho : PE X o (LE X.K f)) (he : PE X e (LE X.K g)) (hbase : attributeBase o "index" X.env (eval o X.env) = eval o X.env := by rfl)
  (hs : starEach [e] X.env = [(false, eval e X.env)] := by rfl) (hline : (apos.endLine == cpos.line) = true := by rfl) : PE X (.Call (.Attribute o "index" apos) [e] [] cpos) (LE X.K (dSIdx f g)) := by
 intro pins s σ H Q I h; obtain ⟨Z, d, m, R, ok, rs, h, k⟩ := h; refine Call_method1 hbase hs hline (thn (ho pins s σ H (fun v H1 => ∃ z : Str, v = .str z ∧ LE X.K g σ H1 fun v2 H2 => ∃ y : Str, v2 = .str y ∧ Txt.contains z y = true ∧ Q (.int (Txt.find z y)) H2) I ⟨Z, d, m, _, ok, rs, h, fun x m1 v H1 ⟨z, ex, hq⟩ e1 ok1 r1 => ?_⟩) fun v s1 ⟨x, H1, I1, rx, z, ex, q1⟩ => ?_)
 ·subst ex
  cases r1.str
  refine ⟨z, rfl, Z, d, m1, _, ok1, rs.ext e1, hq, fun y m2 v2 H2 ⟨yy, ey, hc, q⟩ e2 ok2 r2 => ?_⟩; subst ey
  cases r2.str
  exact ⟨yy, rfl, hc, k _ m2 _ H2 q (e1.trans e2) ok2 .ofInt⟩
 ·subst ex; obtain ⟨t, rfl⟩ := rx; refine SB.indexFound (thn (he pins s1 σ H1 _ I1 q1) fun v2 s2 ⟨x2, H2, I2, rx2, y, ey, hc, q2⟩ => ?_); subst ey; obtain ⟨u, rfl⟩ := rx2; exact ⟨y, u, rfl, hc, .int _, H2, I2.tok _, ⟨_, rfl⟩, q2⟩
end
theorem mt_part (x y : Str) (t u : Tok) (hy : (y.length == 0) = false) (hsz : x.length ≤ sizeLine) : Meets (Builtin.«str.partition» ⟨[.str x t, .str y u], []⟩) (fun _ R s =>
  ∀ t1 t2 t3 k, R (.ok (.ret (.ref s.heap.objs.size))) { s with toks := k, heap := s.heap.push { cls := .type "tuple", data := .seq [.str (Txt.partition x y).1 t1, .str (Txt.partition x y).2.1 t2, .str (Txt.partition x y).2.2 t3].toArray } }) := by
 obtain ⟨raising, ht⟩ := partition_tree x y t u; refine .of_wp fun prog w A R s h => ?_; rw [ht, hy]; unfold Txt.partition at h; simp only [Bool.false_eq_true, if_false]
 revert h
 cases Builtin.Str.occurrences x y 0 x.length 1 with
 | nil => exact fun h => wpAny_bind (wpAny_rule (wpAny_bind (wpAny_mkStr (wpAny_bind (wpAny_newTuple (wpAny_pure ⟨_, rfl, h _ _ _ _⟩) (by show 3 ≤ sizeLine; decide))) (by decide))))
 | cons i r => exact fun h => wpAny_bind (wpAny_mkStr (wpAny_bind (wpAny_mkStr (wpAny_bind (wpAny_newTuple (wpAny_pure ⟨_, rfl, h _ _ _ _⟩) (by show 3 ≤ sizeLine; decide))) (Nat.le_trans (strSub_length_le ..) hsz))) (Nat.le_trans (strSub_length_le ..) hsz))
section
variable {X : Cx} {o e : Expr} {f g : DE} {apos cpos : Pos}
theorem part_on {prog : Program} {w : World} {A : Around} {E : Value → Shared → Prop} {s : Shared} {x : Str} {t : Tok} {pos : Pos} {a : Sem Value} {Q : Value → Shared → Prop} (hx : x.length ≤ sizeLine)
  (h : wpAny (model prog w) A a (fun v s₁ => ∃ y u, v = .str y u ∧ (y.length == 0) = false ∧ ∀ t1 t2 t3 k, Q (.ref s₁.heap.objs.size) { s₁ with toks := k, heap := s₁.heap.push { cls := .type "tuple", data := .seq [.str (Txt.partition x y).1 t1, .str (Txt.partition x y).2.1 t2, .str (Txt.partition x y).2.2 t3].toArray } }) E s) :
  MethodOnS prog w A E "partition" (.str x t) pos [(false, a)] Q s :=
 ⟨"str", _, PySem.F.plainAttrs_str, PySem.F.slot_str_partition, PySem.F.type_str_partition, typeIs_str _ _ _, (fun _ e => nomatch e), method1_meets PySem.F.slot_str_partition PySem.F.entry_str_partition (thn h fun v s1 ⟨y, u, ev, hy, q⟩ => by
  subst ev; exact ⟨typeIs_str _ _ _, PySem.F.args_str_partition_2 _ _, _, mt_part x y t u hy hx, q⟩)⟩
@[simp] def dPartn (f g : DE) : DE := fun d m Q => f d m fun x m1 => ∃ z : Str, x = .dat (.str z) ∧ z.length ≤ sizeLine ∧ g d m1 fun y m2 => ∃ z2 : Str, y = .dat (.str z2) ∧ (z2.length == 0) = false ∧ Q (.dat (.tuple [.str (Txt.partition z z2).1, .str (Txt.partition z z2).2.1, .str (Txt.partition z z2).2.2])) m2
theorem le_partn (ho : PE X o (LE X.K f)) (he : PE X e (LE X.K g)) (hbase : attributeBase o "partition" X.env (eval o X.env) = eval o X.env := by rfl)
  (hs : starEach [e] X.env = [(false, eval e X.env)] := by rfl) (hline : (apos.endLine == cpos.line) = true := by rfl) : PE X (.Call (.Attribute o "partition" apos) [e] [] cpos) (LE X.K (dPartn f g)) := by
 intro pins s σ H Q I h; obtain ⟨Z, d, m, R, ok, rs, h, k⟩ := h; refine Call_method1 hbase hs hline (thn (ho pins s σ H (fun v H1 => ∃ z : Str, v = .str z ∧ z.length ≤ sizeLine ∧ LE X.K g σ H1 fun v2 H2 => ∃ y : Str, v2 = .str y ∧ (y.length == 0) = false ∧ ∀ p, H2 p = none → Q (.ref p) (upd H2 p (.tup [.str (Txt.partition z y).1, .str (Txt.partition z y).2.1, .str (Txt.partition z y).2.2]))) I ⟨Z, d, m, _, ok, rs, h, fun x m1 v H1 ⟨z, ex, hz, hq⟩ e1 ok1 r1 => ?_⟩) fun v s1 ⟨x, H1, I1, rx, z, ex, hz, q1⟩ => ?_)
 ·subst ex
  cases r1.str
  refine ⟨z, rfl, hz, Z, d, m1, _, ok1, rs.ext e1, hq, fun y m2 v2 H2 ⟨yy, ey, hy, q⟩ e2 ok2 r2 => ?_⟩; subst ey
  cases r2.str
  refine ⟨yy, rfl, hy, fun p hp => ?_⟩; have sm : Same H2 (upd H2 p (.tup [.str (Txt.partition z yy).1, .str (Txt.partition z yy).2.1, .str (Txt.partition z yy).2.2])) := same_new hp
  refine k _ m2 _ _ q ((e1.trans e2).trans (ok2.ext sm)) (ok2.grow sm) ?_; simp only [RD, RP]; refine ⟨p, _, rfl, .inl (.inl upd_same), ?_⟩; simp only [RPs, RP]; exact ⟨_, _, rfl, rfl, _, _, rfl, rfl, _, _, rfl, rfl, rfl⟩
 ·subst ex; obtain ⟨t, rfl⟩ := rx; refine part_on hz (thn (he pins s1 σ H1 _ I1 q1) fun v2 s2 ⟨x2, H2, I2, rx2, y, ey, hy, q2⟩ => ?_); subst ey; obtain ⟨u, rfl⟩ := rx2; refine ⟨y, u, rfl, hy, fun t1 t2 t3 k' => ⟨.ref s2.heap.objs.size, _, I2.laid (t' := k') (fun b u e => Heap.get?_push_of_some _ e) (Nat.le_refl _) ?_, rfl, q2 _ I2.fresh⟩⟩; exact ⟨⟨by show 3 ≤ sizeLine; decide, NoD.new _ _ _⟩, _, .cons ⟨_, rfl⟩ (.cons ⟨_, rfl⟩ (.cons ⟨_, rfl⟩ .nil)), ⟨_, Heap.get?_push_size _ rfl, rfl, _, rfl⟩⟩
theorem split_on {prog : Program} {w : World} {A : Around} {E : Value → Shared → Prop} {s : Shared} {x : Str} {t : Tok} {pos : Pos} {a : Sem Value} {Q : Value → Shared → Prop} (hx : x.length ≤ 1048576)
  (h : wpAny (model prog w) A a (fun v s₁ => ∃ y u, v = .str y u ∧ (y.length == 0) = false ∧ ∀ l k, l.map (·.1) = Txt.split x y → Q (.ref s₁.heap.objs.size) { s₁ with toks := k, heap := s₁.heap.push { cls := .type "list", data := .seq (strValues l).toArray } }) E s) :
  MethodOnS prog w A E "split" (.str x t) pos [(false, a)] Q s := by
 refine ⟨"str", _, PySem.F.plainAttrs_str, PySem.F.slot_str_split, PySem.F.type_str_split, typeIs_str _ _ _, (fun _ e => nomatch e), method1_meets PySem.F.slot_str_split PySem.F.entry_str_split (thn h fun v s1 ⟨y, u, ev, hy, q⟩ => ?_)⟩; subst ev; refine ⟨typeIs_str _ _ _, PySem.F.args_str_split_2 _ _, ?_⟩; have hn : (Builtin.Str.partsBetween x (Builtin.Str.occurrences x y 0 x.length (x.length + 1)) y.length).length ≤ sizeLine := by
  have := StrLaws.occ_length_le_len x y 0 x.length (x.length + 1)
  unfold Builtin.Str.partsBetween; simp only [List.length_map, List.length_zip, List.length_cons, List.length_append, List.length_nil]; exact Nat.le_trans (Nat.min_le_left _ _) (Nat.le_trans (by omega : _ ≤ 1048578) (by decide))
 cases c1 : (decide (x.length < y.length) || decide (Builtin.Str.strKind x < Builtin.Str.strKind y)) with
 | true => exact ⟨_, meets_str_split_cannot_occur x y t u c1, q [(x, t)] _ (by unfold Txt.split; rw [if_pos c1]; rfl)⟩
 | false =>
  cases c2 : (Builtin.Str.occurrences x y 0 x.length (x.length + 1)).isEmpty with
  | true => exact ⟨_, meets_str_split_not_found x y t u c1 hy c2, q [(x, t)] _ (by unfold Txt.split; rw [if_neg (by rw [c1]; decide), if_pos c2]; rfl)⟩
  | false =>
   refine ⟨_, meets_str_split_sep x y t u c1 hy c2 (Nat.le_trans hx (by decide)) hn, ?_⟩
   have q' := q (numbered s1.toks (Builtin.Str.partsBetween x (Builtin.Str.occurrences x y 0 x.length (x.length + 1)) y.length)) (s1.toks + (Builtin.Str.partsBetween x (Builtin.Str.occurrences x y 0 x.length (x.length + 1)) y.length).length) (by rw [numbered_texts]; unfold Txt.split; rw [if_neg (by rw [c1]; decide), if_neg (by rw [c2]; decide)])
   rw [← strsFrom_eq] at q'; exact q'
theorem vals_sv : ∀ l : List (Str × Tok), Vals ((l.map (·.1)).map V.str) (strValues l)
 | [] => .nil
 | (x, t) :: r => .cons ⟨t, rfl⟩ (vals_sv r)
theorem rps_of_strs {K : PySem.W.Frag} {Z : Addr → Prop} {m : Mu} {H : Hp} : ∀ zs : List Str, RPs K Z m H (zs.map PyData.str) (zs.map V.str)
 | [] => by simp only [List.map_nil, RPs]
 | z :: zs => by
  simp only [List.map_cons, RPs, RP]; exact ⟨_, _, rfl, rfl, rps_of_strs zs⟩
@[simp] def dSplit (f g : DE) : DE := fun d m Q => f d m fun x m1 => ∃ z : Str, x = .dat (.str z) ∧ z.length ≤ 1048576 ∧ g d m1 fun y m2 => ∃ z2 : Str, y = .dat (.str z2) ∧ (z2.length == 0) = false ∧ (Txt.split z z2).length ≤ sizeLine ∧ Q (.dat (.list ((Txt.split z z2).map .str))) m2
theorem le_split (ho : PE X o (LE X.K f)) (he : PE X e (LE X.K g)) (hbase : attributeBase o "split" X.env (eval o X.env) = eval o X.env := by rfl)
  (hs : starEach [e] X.env = [(false, eval e X.env)] := by rfl) (hline : (apos.endLine == cpos.line) = true := by rfl) : PE X (.Call (.Attribute o "split" apos) [e] [] cpos) (LE X.K (dSplit f g)) := by
 intro pins s σ H Q I h; obtain ⟨Z, d, m, R, ok, rs, h, k⟩ := h; refine Call_method1 hbase hs hline (thn (ho pins s σ H (fun v H1 => ∃ z : Str, v = .str z ∧ z.length ≤ 1048576 ∧ LE X.K g σ H1 fun v2 H2 => ∃ y : Str, v2 = .str y ∧ (y.length == 0) = false ∧ (Txt.split z y).length ≤ sizeLine ∧ ∀ p, H2 p = none → Q (.ref p) (upd H2 p (.lst ((Txt.split z y).map V.str)))) I ⟨Z, d, m, _, ok, rs, h, fun x m1 v H1 ⟨z, ex, hz, hq⟩ e1 ok1 r1 => ?_⟩) fun v s1 ⟨x, H1, I1, rx, z, ex, hz, q1⟩ => ?_)
 ·subst ex
  cases r1.str
  refine ⟨z, rfl, hz, Z, d, m1, _, ok1, rs.ext e1, hq, fun y m2 v2 H2 ⟨yy, ey, hy, hl, q⟩ e2 ok2 r2 => ?_⟩; subst ey
  cases r2.str
  refine ⟨yy, rfl, hy, hl, fun p hp => ?_⟩; have sm : Same H2 (upd H2 p (.lst ((Txt.split z yy).map V.str))) := same_new hp
  refine k _ m2 _ _ q ((e1.trans e2).trans (ok2.ext sm)) (ok2.grow sm) ?_; simp only [RD, RP]; exact ⟨p, _, rfl, ok_none ok2 hp, .inl (.inl upd_same), rps_of_strs _⟩
 ·subst ex; obtain ⟨t, rfl⟩ := rx; refine split_on hz (thn (he pins s1 σ H1 _ I1 q1) fun v2 s2 ⟨x2, H2, I2, rx2, y, ey, hy, hl, q2⟩ => ?_); subst ey; obtain ⟨u, rfl⟩ := rx2; refine ⟨y, u, rfl, hy, fun l k' hl' => ⟨.ref s2.heap.objs.size, _, I2.lnew (t' := k') (ys := (Txt.split z y).map V.str) (its := strValues l) (by rw [← hl']; exact vals_sv l) (by rw [List.length_map]; exact hl), rfl, q2 _ I2.fresh⟩⟩
end
@[simp] def bIntT : DC
 | [.dat (.int i)], m, Q => Q (.dat (.int i)) m
 | [.dat (.bool b)], m, Q => Q (.dat (.int (if b then 1 else 0))) m
 | [.dat (.str z)], m, Q => z.length ≤ 640 ∧ ∃ n, PySem.intText? z = some n ∧ Q (.dat (.int n)) m
 | _, _, _ => False
theorem cd_intT {X : Cx} : CallD X (.type "int") bIntT := by
 intro pins s σ H Z m xs ds us R Q I ok rv rd h k; unfold bIntT at h
 split at h
 ·obtain ⟨v, rfl, r1⟩ := rd.one
  cases r1.int
  exact call_int1 pins s σ H _ us Q I rv (.inl ⟨_, rfl, k _ m _ H h Ext.refl ok .ofInt⟩)
 ·obtain ⟨v, rfl, r1⟩ := rd.one
  cases r1.bl
  exact call_int1 pins s σ H _ us Q I rv (.inr ⟨_, rfl, k _ m _ H h Ext.refl ok .ofInt⟩)
 ·obtain ⟨v, rfl, r1⟩ := rd.one
  cases r1.str
  obtain ⟨hz, n, hn, q⟩ := h; obtain ⟨u, rfl, t, rfl⟩ := vals1 rv; exact PySem.W.KIN.call_text hn hz ⟨.int n, H, I.tok _, ⟨_, rfl⟩, k _ m _ H q Ext.refl ok .ofInt⟩
 ·exact h.elim
@[simp] def dFv (f : DE) : DE := fun d m Q => f d m fun x m1 => (∃ i : Int, x = .dat (.int i) ∧ i.natAbs.log2 < 1920 ∧ Q (.dat (.str (toString i))) m1) ∨ (∃ z : Str, x = .dat (.str z) ∧ z.length ≤ sizeLine ∧ Q (.dat (.str z)) m1)
@[simp] def dJs : Str → List DE → DE
 | acc, [] => fun _ m Q => Q (.dat (.str acc)) m
 | acc, f :: fs => fun d m Q => f d m fun x m1 => ∃ z : Str, x = .dat (.str z) ∧ (acc ++ z).length ≤ sizeLine ∧ dJs (acc ++ z) fs d m1 Q
section
variable {X : Cx} {e : Expr} {f : DE} {pos : Pos}
theorem le_fv (he : PE X e (LE X.K f)) : PE X (.FormattedValue e (-1) none pos) (LE X.K (dFv f)) := by
 intro pins s σ H Q I h; obtain ⟨Z, d, m, R, ok, rs, h, k⟩ := h; refine wpAny_FormattedValue_plain (thn (he pins s σ H (fun v H1 => (∃ i : Int, v = .int i ∧ i.natAbs.log2 < 1920 ∧ Q (.str (toString i)) H1) ∨ (∃ z : Str, v = .str z ∧ z.length ≤ sizeLine ∧ Q (.str z) H1)) I ⟨Z, d, m, _, ok, rs, h, fun x m1 v H1 hx e1 ok1 r1 => ?_⟩) fun v s1 ⟨x, H1, I1, rx, hx⟩ => ?_)
 ·rcases hx with ⟨i, rfl, hi, q⟩ | ⟨z, rfl, hz, q⟩
  ·cases r1.int
   exact .inl ⟨i, rfl, hi, k _ m1 _ H1 q e1 ok1 .ofStr⟩
  ·cases r1.str
   exact .inr ⟨z, rfl, hz, k _ m1 _ H1 q e1 ok1 .ofStr⟩
 ·rcases hx with ⟨i, rfl, hi, q⟩ | ⟨z, rfl, hz, q⟩
  ·obtain ⟨t, rfl⟩ := rx; exact wpAny_formatField_int hi ⟨.str _, H1, I1.tok _, ⟨_, rfl⟩, q⟩
  ·obtain ⟨t, rfl⟩ := rx; exact wpAny_formatField_str ⟨.str z, H1, I1, ⟨_, rfl⟩, q⟩ ⟨.str z, H1, I1.tok _, ⟨_, rfl⟩, q⟩ hz
inductive PJ (X : Cx) : List Expr → List DE → Prop
 | nil : PJ X [] []
 | cons {e : Expr} {f : DE} {es : List Expr} {fs : List DE} (h : PE X e (LE X.K f)) (r : PJ X es fs) : PJ X (e :: es) (f :: fs)
theorem lj_nil : PJ X [] [] := .nil
theorem lj_cons {es : List Expr} {fs : List DE} (h : PE X e (LE X.K f)) (r : PJ X es fs) : PJ X (e :: es) (f :: fs) := .cons h r
theorem joins_of {es : List Expr} {fs : List DE} (h : PJ X es fs) : ∀ {acc : Str} {pins : List (Addr × Obj)} {s : Shared} {σ : L2.St} {H : Hp} {Q : VK}, Inv X pins σ H s → LE X.K (dJs acc fs) σ H Q → acc.length ≤ sizeLine →
  Joins (model X.prog X.w) X.A X.xe (evalEach es X.env) acc (fun out s1 => ∃ H1, Inv X pins σ H1 s1 ∧ out.length ≤ sizeLine ∧ Q (.str out) H1) s := by
 induction h with
 | nil =>
  intro acc pins s σ H Q I h hz; obtain ⟨Z, d, m, R, ok, rs, h, k⟩ := h; exact ⟨H, I, hz, k (.dat (.str acc)) m (.str acc) H h Ext.refl ok .ofStr⟩
 | cons he r ih =>
  rename_i e f es fs; intro acc pins s σ H Q I h hz; obtain ⟨Z, d, m, R, ok, rs, h, k⟩ := h; show wpAny _ _ (eval e X.env) _ _ _
  refine thn (he pins s σ H (fun v H1 => ∃ z : Str, v = .str z ∧ (acc ++ z).length ≤ sizeLine ∧ LE X.K (dJs (acc ++ z) fs) σ H1 Q) I ⟨Z, d, m, _, ok, rs, h, fun x m1 v H1 ⟨z, ex, hl, q⟩ e1 ok1 r1 => ?_⟩) fun v s1 ⟨x, H1, I1, rx, z, ex, hl, q1⟩ => ?_
  ·subst ex
   cases r1.str
   exact ⟨z, rfl, hl, Z, d, m1, R, ok1, rs.ext e1, q, fun y m2 v2 H2 q2 e2 ok2 r2 => k y m2 v2 H2 q2 (e1.trans e2) ok2 r2⟩
  ·subst ex; obtain ⟨t, rfl⟩ := rx; exact ⟨z, t, rfl, hl, ih I1 q1 hl⟩
theorem joins_mono {M : Model} {A : Around} {E : Value → Shared → Prop} {Q R : Str → Shared → Prop} (h : ∀ x s, Q x s → R x s) : ∀ (ps : List (Sem Value)) (acc : Str) (s : Shared), Joins M A E ps acc Q s → Joins M A E ps acc R s
 | [], acc, s, j => h acc s j
 | p :: ps, acc, s, j => thn j fun v s1 ⟨y, t, e, hl, q⟩ => ⟨y, t, e, hl, joins_mono h ps _ s1 q⟩
theorem le_js {e2 : Expr} {es : List Expr} {fs : List DE} (h : PJ X (e :: e2 :: es) fs) : PE X (.JoinedStr (e :: e2 :: es) pos) (LE X.K (dJs Str.empty fs)) := fun pins s σ H Q I q =>
 wpAny_JoinedStr (joins_mono (fun out s1 ⟨H1, I1, hz, q1⟩ => ⟨hz, .str out, H1, I1.tok _, ⟨_, rfl⟩, q1⟩) _ _ _ (joins_of h I q (by decide)))
theorem le_js1 (h : PE X e (LE X.K f)) : PE X (.JoinedStr [e] pos) (LE X.K f) := fun pins s σ H Q I q => wpAny_JoinedStr_one (h pins s σ H Q I q)
end
end DL
namespace DL
open PySem PySem.Spec PyProof.Rows L2
section
variable {X : Cx} {st : Stmt} {o e : Expr} {f g : DE} {p apos cpos : Pos}
@[simp] def dNevS : DS := fun _ _ _ => False
theorem ls_never : PS X st (LS X.K dNevS) := by
 intro pins s σ H Q I h; obtain ⟨Z, d, m, R, ok, rs, h, k⟩ := h; exact h.elim
end
end DL
namespace DL
open PySem PySem.Spec PyProof.Rows L2
section
variable {X : Cx} {e : Expr} {f g : DE}
mutual
def nlP : PyData → Bool
 | .tuple xs => nlPs xs
 | .list _ => false
 | .dict _ => false
 | _ => true
def nlPs : List PyData → Bool
 | [] => true
 | x :: xs => nlP x && nlPs xs
end
mutual
theorem RP.nl {K : PySem.W.Frag} {Z Z' : Addr → Prop} {m m' : Mu} {H : Hp} : ∀ (p : PyData) (v : V), nlP p = true → RP K Z m H p v → RP K Z' m' H p v
 | .none, v, _, h => by simpa only [RP] using h
 | .bool _, v, _, h => by simpa only [RP] using h
 | .int _, v, _, h => by simpa only [RP] using h
 | .str _, v, _, h => by simpa only [RP] using h
 | .tuple xs, v, n, h => by
  simp only [RP] at h ⊢; obtain ⟨a, vs, h1, h2, h3⟩ := h; exact ⟨a, vs, h1, h2, RPs.nl xs vs (by simpa only [nlP] using n) h3⟩
 | .list _, v, n, h => by simp [nlP] at n
 | .dict _, v, n, h => by simp [nlP] at n
theorem RPs.nl {K : PySem.W.Frag} {Z Z' : Addr → Prop} {m m' : Mu} {H : Hp} : ∀ (xs : List PyData) (vs : List V), nlPs xs = true → RPs K Z m H xs vs → RPs K Z' m' H xs vs
 | [], vs, _, h => by simpa only [RPs] using h
 | x :: xs, vs, n, h => by
  simp only [nlPs, Bool.and_eq_true] at n; simp only [RPs] at h ⊢; obtain ⟨v, r, h1, h2, h3⟩ := h; exact ⟨v, r, h1, RP.nl x v n.1 h2, RPs.nl xs r n.2 h3⟩
end
@[simp] def aAddN : D2
 | .dat (.list a), .dat (.list b), m, Q => a.length + b.length ≤ sizeLine ∧ ∀ p, m p = none → Q (.cel p) (updM m p (.l (a ++ b)))
 | _, _, _, _ => False
theorem od_addN : OpD X (binaryOp .Add) aAddN := by
 intro pins s σ H Z m x y dx dy v u R Q I ok rx ry r1 r2 h k; unfold aAddN at h
 split at h
 ·obtain ⟨hz, hq⟩ := h; simp only [RD, RP] at r1 r2; obtain ⟨q1, vs, rfl, _, g0, g3⟩ := r1; obtain ⟨q, ws, rfl, _, g1, g2⟩ := r2; have l1 := g3.length
  have l2 := g2.length
  refine op_catK pins s σ H _ _ v u Q I rx ry ⟨q1, q, vs, ws, rfl, rfl, g0, g1, by omega, fun t ht hk => ?_⟩
  refine k _ _ _ _ (hq t (ok_none ok ht).1) (Ext.cell ok ht hk) (ok.cell ht hk (show RPs _ _ _ _ _ _ from g3.append g2)) ⟨rfl, ?_⟩
  rw [updM_same]; rfl
 ·exact h.elim
end
end DL
namespace DL
open PySem PySem.Spec PyProof.Rows L2
section
variable {X : Cx} {o e i : Expr} {f g h : DE}
def rIns : V → List V → Hp → VK → Prop := fun x vs H Q => ∃ l xs y, ∃ i : Nat, x = .ref l ∧ vs = [.int i, y] ∧ H l = some (.lst xs) ∧ i ≤ xs.length ∧ xs.length < 1000000 ∧ Q .non (upd H l (.lst (xs.take i ++ y :: xs.drop i)))
theorem mt_ins : MtM X "list.insert" rIns := by
 intro pins s σ H x vs v us Q I rx rv h; obtain ⟨l, xs, y, i, rfl, ev, hH, h1, h2, q⟩ := h; obtain ⟨j, hj⟩ : ∃ j : Int, j = (i : Int) := ⟨_, rfl⟩; rw [← hj] at ev; subst ev
 cases rx
 cases rv with
 | cons r1 rv =>
 obtain ⟨u, rfl, ru⟩ := L2.Vals.one (show Vals _ _ from rv)
 obtain ⟨t, rfl⟩ := r1; obtain ⟨z, its, n, r, hl, e⟩ := I.lstM hH; have sz : (1000000 : Nat) ≤ sizeLine := by rw [sizeLine_eq]; decide
 have hf : ¬ (!Builtin.List.listFitsIndex j) = true := by
  rw [fitsIndex_both (by omega) (by omega)]
  exact Bool.false_ne_true
 have hsz : its.toArray.size ≤ sizeLine := by rw [List.size_toArray]; omega
 refine call_meets F.slot_list_insert ⟨_, e, rfl⟩ F.entry_list_insert (F.args_list_insert_3 _ _ _) (PySem.AutoSeq1.list_insert_list_int_val_1 l its.toArray n j t u hf hsz) ⟨e, ?_⟩; refine ⟨.non, _, I.lset (its' := its.take i ++ u :: its.drop i) hH e ?_ ((r.take i).append (.cons ru (r.drop i))) ?_, rfl, q⟩
 ·have e1 : ¬ (j < 0) := by omega
  have e2 : j.toNat = i := by omega
  show (its.toArray.extract 0 (if j < 0 then (j + (its.toArray.size : Int)).toNat else min j.toNat its.toArray.size)).push u ++ its.toArray.extract (if j < 0 then (j + (its.toArray.size : Int)).toNat else min j.toNat its.toArray.size) = _
  rw [if_neg e1, e2, List.size_toArray, Nat.min_eq_left (by omega)]
  apply Array.ext'
  simp
  first | done | (rw [List.take_of_length_le (by simp)])
 ·simp; omega
@[simp] def dIns (fo gi g : DE) : DE := fun d m Q => fo d m fun o m1 => ∃ c, o = .cel c ∧ (∃ ys, m1 c = some (.l ys)) ∧ gi d m1 fun x m2 => g d m2 fun y m3 => ∃ (xs : List PyData) (i : Nat) (p : PyData), x = .dat (.int i) ∧ y = .dat p ∧ m3 c = some (.l xs) ∧ i ≤ xs.length ∧ xs.length < 1000000 ∧ Q (.dat .none) (updM m3 c (.l (xs.take i ++ p :: xs.drop i)))
theorem le_ins {apos cpos : Pos} (ho : PE X o (LE X.K f)) (hi : PE X i (LE X.K h)) (he : PE X e (LE X.K g)) (hbase : attributeBase o "insert" X.env (eval o X.env) = eval o X.env := by rfl)
  (hfew : ((backTo cpos (starEach [i, e] X.env)).all (fun x => !x.1) && (backToKw cpos (keywordEach [] X.env)).all (fun x => x.1.isSome) && decide ([i, e].length + ([] : List Keyword).length + (if ([] : List Keyword).isEmpty then 0 else 1) < 30)) = true := by rfl)
  (hline : (apos.endLine == cpos.line) = true := by rfl) (hs : starEach [i, e] X.env = (false, eval i X.env) :: starEach [e] X.env := by rfl) (hs2 : starEach [e] X.env = (false, eval e X.env) :: starEach [] X.env := by rfl) (hpl : (backTo cpos (starEach [e] X.env)).any (·.1) = false := by rfl) : PE X (.Call (.Attribute o "insert" apos) [i, e] [] cpos) (LE X.K (dIns f h g)) :=
 PE.imp (pe_bm (T := "list") (id := "list.insert") (name := "insert") PySem.F.plainAttrs_list PySem.F.slot_list_insert PySem.F.type_list_insert mt_ins ho (pa_cons hi (pa_cons he pa_nil hs2) hs) hbase hfew hline hs hpl) fun s H Q h => by
  obtain ⟨Z, d, m, R, ok, rs, h, k⟩ := h; refine ⟨Z, d, m, _, ok, rs, h, fun x m1 v H1 ⟨c, ex, ⟨xs0, hx0⟩, q⟩ e1 ok1 rd => ?_⟩; subst ex; obtain ⟨rfl, hc⟩ := rd; obtain ⟨vs0, g0, _⟩ := ok1.l hx0; refine ⟨.inl ⟨rfl, vs0, .inl (.inl g0)⟩, Z, d, m1, _, ok1, rs.ext e1, q, fun x m2 w H2 q2 e2 ok2 rd2 => ⟨Z, d, m2, _, ok2, (rs.ext e1).ext e2, q2, fun y m3 w3 H3 ⟨xs, i, p, ex, ey, hm, hi, hl, q3⟩ e3 ok3 rd3 => ?_⟩⟩; subst ex ey; have r2 := rd2.ext e3
  cases r2.int
  obtain ⟨vs, g1, g2⟩ := ok3.l hm; refine ⟨c, vs, w3, i, rfl, rfl, g1, by rw [g2.length]; exact hi, by rw [g2.length]; exact hl, ?_⟩
  have e4 : Ext X.K Z m3 H3 (updM m3 c (.l (xs.take i ++ p :: xs.drop i))) (upd H3 c (.lst (vs.take i ++ w3 :: vs.drop i))) := Ext.put ok3 hm g1
  refine k _ _ _ _ q3 (e1.trans (e2.trans (e3.trans e4))) (ok3.put hm g1 (show RPs _ _ _ _ _ _ from (g2.take i).append ?_)) (by simp only [RD, RP])
  simp only [RPs]; exact ⟨w3, _, rfl, rd3, g2.drop i⟩
end
section
variable {X : Cx} {tg iter tg2 iter2 elt : Expr} {ifs ifs2 : List Expr} {scope : Scope} {fi fi2 : DI} {g g2 : DG} {t t2 : DT} {f : DE} {pos : Pos}
theorem ls_lc2B (i : Nat) {y : Str} {py spos : Pos} (NC : List Str) (src : List (Option Nat)) (hc : X.calm = true) (hN : X.N.Nodup) (hi : PI X tg iter (LI X.K fi))
  (hg : ∀ cl C s2 H2 pins fp, PG (cyOf X scope cl C NC s2 H2 pins fp) tg (LG X.K g)) (ht : ∀ cl C s2 H2 pins fp, PF (cyOf X scope cl C NC s2 H2 pins fp) ifs (LT X.K t))
  (hi2 : ∀ cl C s2 H2 pins fp, PI (cyOf X scope cl C NC s2 H2 pins fp) tg2 iter2 (LI X.K fi2)) (hg2 : ∀ cl C s2 H2 pins fp, PG (cyOf X scope cl C NC s2 H2 pins fp) tg2 (LG X.K g2)) (ht2 : ∀ cl C s2 H2 pins fp, PF (cyOf X scope cl C NC s2 H2 pins fp) ifs2 (LT X.K t2))
  (he : ∀ cl C s2 H2 pins fp, PE (cyOf X scope cl C NC s2 H2 pins fp) elt (LE X.K f))
  (hkind : scope.kind = .function := by rfl) (hB : chkB scope X.env = true := by rfl) (hS : chkS X.N scope X.env NC src = true := by rfl)
  (hs2 : ∀ cl C x, foldedSetIterable iter2 (compEnvC scope cl C X.env) x = pure x := by intro _ _ _; rfl)
  (hii : X.N[i]? = some y := by rfl) (hx : Loc X.env.scope y := by first | exact Or.inl rfl | exact Or.inr rfl) (hf : X.fn y = true ∨ X.env.scope.names.lookup y = some .local := by first | exact .inl rfl | exact .inr rfl)
  (hsw : swapsWith (.ListComp elt [⟨tg, iter, ifs, 0⟩, ⟨tg2, iter2, ifs2, 0⟩] scope pos) (some (.Name y py)) spos.line X.env = pure true := by rfl)
  (hs : ∀ x, foldedSetIterable iter X.env x = pure x := by intro _; rfl) : PS X (.Assign [.Name y py] (.ListComp elt [⟨tg, iter, ifs, 0⟩, ⟨tg2, iter2, ifs2, 0⟩] scope pos) spos) (LS X.K (dSet i (dLC2 src fi g t fi2 g2 t2 f))) := by
 intro pins s σ H E I h; obtain ⟨Z, d, m, R, ok, rs, h, k, _⟩ := h; rw [exec_Assign_Name_used _ _ _ _ hsw]; refine wpAny_bind (wpAny_standAt (wpAny_bind ?_)); rw [arm_evalThenUse_ListComp]; refine wpAny_bind ?_; refine thn (lc2_core src hc hi hg ht hi2 hg2 ht2 he hs2 hkind (chkB.ok hB).1 (chkB.ok hB).2.1 (chkB.ok hB).2.2 (chkS.ok hS) hs (use := some (assign (.Name y py) X.env)) (QQ := fun _ s' => SP X pins E .next s') (RL := fun ps m2 => R.nx (d.set i (some (.dat (.list ps)))) m2) I ok rs h ?_) (fun _ s' q => wpAny_pure (wpAny_pure q)); intro s5 C D H' m' ps q e ok' rd ⟨mm, hns⟩ I5 off; show wpAny _ X.A (assign (.Name y py) X.env (.ref D)) _ _ s5
 refine wpAny_assign_Name (store_ok2 I5 hN hii hx (v := .ref D) rfl (fun s6 I6 ⟨a, hs6, ha⟩ => ?_) hf); have ne : C ≠ a := by
  rcases ha with rfl | ha
  ·exact off.l
  ·exact Ne.symm (off.c _ _ ha)
 refine ⟨mm, hns.sameBut hs6 ne, fun h' hs' => ?_⟩; exact ⟨_, H', off.inv I6 hs', k _ m' _ H' q e ok' ((rs.ext e).set rd)⟩
end
end DL
namespace DL
open PySem PySem.Spec PyProof.Rows L2
section
variable {X : Cx} {o e : Expr} {f g : DE}
def rIdxD (K : PySem.W.Frag) : V → List V → Hp → VK → Prop := fun x xs H Q => ∃ (Z : Addr → Prop) (m : Mu) (y : V) (ys : List PyData) (p : PyData) (j : Nat), xs = [y] ∧ RP K Z m H (.list ys) x ∧ RP K Z m H p y ∧ PyData.canLayAll0 ys = true ∧ p.canLay0 = true ∧ p.depth ≤ 50 ∧ j < 1000000 ∧
 (∃ z, ys[j]? = some z ∧ z.eqv p = true) ∧ (∀ i z, i < j → ys[i]? = some z → z.eqv p = false) ∧ Q (.int j) H
theorem mt_idxD (hu : X.A.units + 100 < cLine) : MtR X "list.index" (rIdxD X.K) := by
 intro pins s σ H x xs v us Q I rx rs ⟨Z, m, y, ys, p, j, e2, r1, r2, c1, c2, c3, hj, ⟨z, hz, hzp⟩, hno, q⟩; subst e2; obtain ⟨u, rfl, ru⟩ := vals1 rs; obtain ⟨bs, rb⟩ := RP.reads I p y u r2 ru; have r1' := r1
 simp only [RP] at r1'; obtain ⟨a, vs, rfl, _, sq, rp⟩ := r1'
 cases rx
 obtain ⟨as, ra⟩ := RP.reads I (.list ys) (.ref a) (.ref a) r1 rfl (PyData.hasDict_of_canLay _ (by assumption))
 obtain ⟨its, rv, pl, hsz⟩ := I.list sq
 cases ra with
 | list h1 h2 h3 h4 =>
 rename_i ob its' n' as'; obtain ⟨⟨cl, dd, dt, sl⟩, n, p1, p2, p3, p4⟩ := id pl; rw [p1] at h1
 cases h1
 simp only at p2 p4 h2 h3; subst p2; subst p4
 cases h3
 have hr := SeqAt.readsAll_map ys _ _ c1 h4
 have hlt : j < ys.length := (List.getElem?_eq_some_iff.mp hz).1
 have hlen : its.length = ys.length := by rw [← hr]; simp
 have at_ : ∀ (i : Nat) (hi : i < its.toArray.size), ∃ z, ys[i]? = some z ∧ SeqAt.readOf s.heap its.toArray[i] = z := fun i hi => by
  refine ⟨_, ?_, rfl⟩; rw [← hr]; simp at hi; simp [hi]
 refine call_meets PySem.F.slot_list_index pl.isList.typeIs PySem.F.entry_list_index (PySem.F.args_list_index_2 _ _) (SeqAt.list_indexAt a its.toArray _ dd sl u (fun y => PyData.eqv (SeqAt.readOf s.heap y) p) j (by rw [List.size_toArray]; omega) (by omega) ?_ ?_) ⟨p1, ?_, ?_⟩
 ·obtain ⟨z', hz', e⟩ := at_ j (by rw [List.size_toArray]; omega)
  rw [hz] at hz'
  cases hz'
  rw [e]; exact hzp
 ·intro i hi hlt'; obtain ⟨z', hz', e⟩ := at_ i hi; rw [e]; exact hno i z' hlt' hz'
 ·exact SeqAt.items_eqAt h4 rb c1 c2 (by omega)
 ·exact ⟨.int _, H, I.tok _, ⟨_, rfl⟩, q⟩
@[simp] def dIdxD (f g : DE) : DE := fun d m Q => f d m fun x m1 => ∃ ys : List PyData, x = .dat (.list ys) ∧ g d m1 fun y m2 => ∃ (p : PyData) (j : Nat), y = .dat p ∧ PyData.canLayAll0 ys = true ∧ p.canLay0 = true ∧ p.depth ≤ 50 ∧ j < 1000000 ∧ (∃ z, ys[j]? = some z ∧ z.eqv p = true) ∧ (∀ i z, i < j → ys[i]? = some z → z.eqv p = false) ∧ Q (.dat (.int (j : Nat))) m2
theorem le_idxD {apos cpos : Pos} (hu : X.A.units + 100 < cLine) (ho : PE X o (LE X.K f)) (he : PE X e (LE X.K g)) (hbase : attributeBase o "index" X.env (eval o X.env) = eval o X.env := by rfl)
  (hfew : ((backTo cpos (starEach [e] X.env)).all (fun x => !x.1) && (backToKw cpos (keywordEach [] X.env)).all (fun x => x.1.isSome) && decide ([e].length + ([] : List Keyword).length + (if ([] : List Keyword).isEmpty then 0 else 1) < 30)) = true := by rfl)
  (hline : (apos.endLine == cpos.line) = true := by rfl) (hs : starEach [e] X.env = (false, eval e X.env) :: starEach [] X.env := by rfl) : PE X (.Call (.Attribute o "index" apos) [e] [] cpos) (LE X.K (dIdxD f g)) :=
 PE.imp (pe_bm (T := "list") (id := "list.index") (name := "index") PySem.F.plainAttrs_list PySem.F.slot_list_index PySem.F.type_list_index (mt_idxD hu) ho (pa_cons he pa_nil hs) hbase hfew hline hs rfl) fun s H Q h => by
  obtain ⟨Z, d, m, R, ok, rs, h, k⟩ := h; refine ⟨Z, d, m, _, ok, rs, h, fun x m1 v H1 ⟨ys, ex, q⟩ e1 ok1 rd => ?_⟩; subst ex; have rd' := rd
  simp only [RD, RP] at rd'; obtain ⟨a, vs, rfl, _, sq, _⟩ := rd'; refine ⟨.inl ⟨rfl, vs, sq⟩, Z, d, m1, _, ok1, rs.ext e1, q, fun y m2 w H2 ⟨p, j, ey, c1, c2, c3, hj, hz, hno, q2⟩ e2 ok2 rd2 => ?_⟩; subst ey; exact ⟨Z, m2, w, ys, p, j, rfl, RP.ext e2 _ _ rd, rd2, c1, c2, c3, hj, hz, hno, k _ m2 _ H2 q2 (e1.trans e2) ok2 .ofInt⟩
end
end DL
namespace DL
open PySem PySem.Spec PyProof.Rows L2
section
variable {prog : Program} {w : World} {A : Around} {E : Value → Shared → Prop} {s : Shared}
theorem setItem_slice {l b sl : Addr} {items new : Array Value} {n k : Nat} {vl vu : Value} {lo hi : Nat} {Q : Unit → Shared → Prop} (hl : s.heap.get? l = some { cls := .type "list", data := .seq items n }) (hb : s.heap.IsList b new) (hne : l ≠ b)
  (hs : s.heap.IsSliceOf sl vl vu .none) (pl : IsPart vl (some (lo : Int))) (pu : IsPart vu (some (hi : Int))) (h1 : lo ≤ hi) (h2 : hi ≤ items.size) (h3 : items.size ≤ 1000000) (h4 : new.size ≤ 1000000)
  (h : Q () { s with heap := s.heap.update l (Obj.mapSeq fun xs => xs.extract 0 lo ++ new ++ xs.extract hi) }) : wpAny (model prog w) A (setItem (.ref l) (.ref sl) (.ref b)) Q E s := by
 have sz : (10000000 : Nat) ≤ sizeLine := by rw [sizeLine_eq]; decide
 have hll : s.heap.IsList l items := ⟨_, hl, rfl, _, rfl⟩
 obtain ⟨ob, hob, hcb, nb, hdb⟩ := id hb; obtain ⟨os, hos, hcs, hds⟩ := id hs; have hTs : s.TypeIs (.ref sl) "slice" := ⟨os, hos, hcs⟩
 unfold setItem
 try with_reducible refine wpAny_holding ?_
 first | refine wpAny_bind (wpAny_pure ?_) | skip
 refine wpAny_bind (wpAny_sequenceKey hll.typeIs (by decide) ?_)
 refine wpAny_bind (wpAny_callSpecial?_slot (name := Str.ofString "__setitem__") hll.typeIs PySem.slot_list_setitem
  (wpAny_call_entry PySem.slot_list_setitem hll.typeIs PySem.entry_list_setitem ?_ (PySem.args_list_setitem _ _ _)))
 show wpAny _ _ (Builtin.List.listSubscript? (.ref sl) >>= _) _ _ s
 refine wpAny_bind ?_; unfold Builtin.List.listSubscript?; refine wpAny_bind (wpAny_specialOf hTs slice_no_index ?_); simp only [Option.isNone_none, if_true]; refine wpAny_pure ?_; show wpAny _ _ (typeOf (.ref sl) >>= _) _ _ s
 refine wpAny_bind (wpAny_typeOf hTs ?_); rw [if_neg (by decide)]
 rw [listSliceParts_eq]; refine wpAny_bind (wpAny_bind (wpAny_field hos hds (x := .none) rfl (wpAny_bind (wpAny_listPart (k := none) .none ?_)))); rw [if_neg (by exact Bool.false_ne_true)]
 refine wpAny_bind (wpAny_field hos hds (x := vl) rfl (wpAny_bind (wpAny_listPart pl ?_))); refine wpAny_bind (wpAny_field hos hds (x := vu) rfl (wpAny_bind (wpAny_listPart pu (wpAny_pure ?_)))); have hsr : Builtin.List.listSameRef (.ref l) (.ref b) = false := by
  unfold Builtin.List.listSameRef; simpa using hne
 rw [if_neg (by rw [hsr]; exact Bool.false_ne_true)]
 refine wpAny_bind ?_; unfold Builtin.List.listAllItems; refine wpAny_bind (wpAny_typeOf hb.typeIs ?_); rw [if_pos (by rfl)]
 have it : ∀ (c : Addr) (o : Obj) (xs : Array Value) (n : Nat) (R : Array Value → Shared → Prop), s.heap.get? c = some o → o.data = .seq xs n → R xs s → wpAny (model prog w) A.in1 (Builtin.List.listItems (.ref c)) R E s := fun c o xs n R e1 e2 q => by
  unfold Builtin.List.listItems; exact wpAny_bind (wpAny_seqItems e1 e2 (wpAny_pure q))
 first | refine it _ _ _ _ _ hob hdb ?_ | refine wpAny_bind (it _ _ _ _ _ hob hdb ?_)
 refine wpAny_bind (m := Builtin.List.listItems (.ref l)) (it _ _ _ _ _ hl rfl ?_); refine wpAny_bind (wpAny_of_eq (sliceIndices_raw (some (lo : Int)) (some (hi : Int)) none items.size (by simp)) ?_)
 have eb : sliceBounds (some (lo : Int)) (some (hi : Int)) none items.size = ((lo : Int), (hi : Int), 1) := by
  unfold sliceBounds; have q1 : ¬ ((lo : Int) < 0) := by omega
  have q2 : ¬ ((hi : Int) < 0) := by omega
  simp [q1, q2]; omega
 rw [eb]; dsimp only; rw [if_pos (by rfl)]
 refine wpAny_bind (wpAny_rule ?_); have hlong : Builtin.List.listTooLong (items.size + new.size) = false := by
  unfold Builtin.List.listTooLong; simp; omega
 rw [if_neg (by rw [hlong]; exact Bool.false_ne_true)]
 have em : (max (lo : Int) (hi : Int)).toNat = hi := by omega
 rw [em, Int.toNat_natCast]; refine wpAny_bind (m := updateSeq l fun xs => xs.extract 0 lo ++ new ++ xs.extract hi) (wpAny_updateSeq hl rfl ?_ (by omega) (by simp; omega))
 exact wpAny_bind (wpAny_letGo (wpAny_pure ⟨.none, rfl, wpAny_pure h⟩))
end
section
variable {X : Cx} {o e : Expr} {f fo : DE} {lo hi : Option Expr} {tl th : DO} {tpos p2 pos : Pos}
def gSlp (to : TE) (tl th : TO) : TG := fun v σ H Q => to σ H fun x H1 => tl σ H1 fun l H2 => th σ H2 fun u H3 => ∃ (c b : Addr) (xs ys : List V) (i j : Nat), x = .ref c ∧ v = .ref b ∧ c ≠ b ∧ H3 c = some (.lst xs) ∧ SqL X.K H3 b ys ∧ l = some (i : Int) ∧ u = some (j : Int) ∧ i ≤ j ∧ j ≤ xs.length ∧ xs.length ≤ 1000000 ∧ ys.length ≤ 1000000 ∧
 Q σ (upd H3 c (.lst (xs.take i ++ ys ++ xs.drop j)))
theorem pg_slp {to : TE} {tl th : TO} (ho : PE X o to) (hl : PO X lo tl) (hu : PO X hi th)
  (ha : ∀ v, assign (.Subscript o (.Slice lo hi none p2) tpos) X.env v = (do
   let ov ← holding [v] (eval o X.env)
   let iv ← holding [v, ov] (eval (.Slice lo hi none p2) X.env)
   standAt tpos
   holding [v, ov, iv] (setItem ov iv v)
   release [iv, v, ov] []) := by intro _; rfl) : PG X (.Subscript o (.Slice lo hi none p2) tpos) (gSlp (X := X) to tl th) := by
 intro pins s σ H v u Q I r h; rw [ha]; refine wpAny_bind (wpAny_holding (thn (ho pins s σ H _ I h) fun ov s1 ⟨x, H1, I1, r1, q1⟩ => ?_)); refine wpAny_bind (wpAny_holding ?_); refine wpAny_Slice (thn (hl pins s1 σ H1 _ I1 q1) fun vl s2 ⟨l, H2, I2, pl, q2⟩ => thn (hu pins s2 σ H2 _ I2 q2) fun vu s3 ⟨u', H3, I3, pu, q3⟩ => ?_); rw [evalPart_none]; refine wpAny_pure ?_; have I4 : Inv X pins σ H3 { s3 with heap := s3.heap.push { cls := .type "slice", data := .fields #[vl, vu, .none] } } := I3.kept (t' := s3.toks) fun b ob q => Heap.get?_push_of_some _ q
 obtain ⟨c, b, xs, ys, i, j, rfl, rfl, hne, hc, sq, rfl, rfl, hij, hj, hx, hy, q4⟩ := q3
 cases r1
 cases r
 obtain ⟨z, its, n, r, hln, ec⟩ := I4.lstM hc; obtain ⟨itb, rb, pb, _⟩ := I4.list sq; have sz : (10000000 : Nat) ≤ sizeLine := by rw [sizeLine_eq]; decide
 have hlb := rb.length
 refine wpAny_bind (wpAny_standAt (wpAny_bind (wpAny_holding (setItem_slice (k := 0) ec pb.isList hne (Heap.IsSliceOf.new ..) pl pu hij (by rw [List.size_toArray]; omega) (by rw [List.size_toArray]; omega) (by rw [List.size_toArray]; omega) (wpAny_release ⟨σ, _, I4.lset (its' := its.take i ++ itb ++ its.drop j) hc ec ?_ (((r.take i).append rb).append (r.drop j)) ?_, q4⟩)))))
 ·apply Array.ext'
  simp; rw [List.take_of_length_le (by simp)]
 ·simp; omega
@[simp] def dSlp (fo : DE) (tl th : DO) (f : DE) : DS := fun E d m => f d m fun v m1 => fo d m1 fun o m2 => tl d m2 fun l m3 => th d m3 fun u m4 => ∃ (c : Addr) (ps xs : List PyData) (i j : Nat), v = .dat (.list ps) ∧ o = .cel c ∧ l = some (i : Int) ∧ u = some (j : Int) ∧ i ≤ j ∧ j ≤ xs.length ∧ xs.length ≤ 1000000 ∧ ps.length ≤ 1000000 ∧ m4 c = some (.l xs) ∧
 E.nx d (updM m4 c (.l (xs.take i ++ ps ++ xs.drop j)))
theorem ls_slp (he : PE X e (LE X.K f)) (ho : PE X o (LE X.K fo)) (hl : PO X lo (LO X.K tl)) (hu : PO X hi (LO X.K th))
  (ha : ∀ v, assign (.Subscript o (.Slice lo hi none p2) tpos) X.env v = (do
   let ov ← holding [v] (eval o X.env)
   let iv ← holding [v, ov] (eval (.Slice lo hi none p2) X.env)
   standAt tpos
   holding [v, ov, iv] (setItem ov iv v)
   release [iv, v, ov] []) := by intro _; rfl)
  (hs : swapsWithSole [.Subscript o (.Slice lo hi none p2) tpos] e pos.line X.env = pure false := by rfl) (hw : swappedStores [.Subscript o (.Slice lo hi none p2) tpos] e X.env = pure none := by rfl)
  (h1 : (assignEach [.Subscript o (.Slice lo hi none p2) tpos] X.env).map (·.2) = [assign (.Subscript o (.Slice lo hi none p2) tpos) X.env] := by rfl) : PS X (.Assign [.Subscript o (.Slice lo hi none p2) tpos] e pos) (LS X.K (dSlp fo tl th f)) :=
 PS.imp (ps_asg he (pg_slp ho hl hu ha) hs hw h1) fun E s H h => by
 obtain ⟨Z, d, m, R, ok, rs, h, k, _⟩ := h; refine ⟨Z, d, m, _, ok, rs, h, fun x m1 v H1 q e1 ok1 r1 => ⟨Z, d, m1, _, ok1, rs.ext e1, q, fun o m2 w H2 q2 e2 ok2 r2 => ⟨Z, d, m2, _, ok2, (rs.ext e1).ext e2, q2, fun l m3 H3 q3 e3 ok3 => ⟨Z, d, m3, _, ok3, ((rs.ext e1).ext e2).ext e3, q3, fun u m4 H4 q4 e4 ok4 => ?_⟩⟩⟩⟩; obtain ⟨c, ps, xs, i, j, rfl, rfl, rfl, rfl, hij, hj, hx, hp, hm, q⟩ := q4; obtain ⟨rfl, hcs⟩ := r2.ext (e3.trans e4); have r1' := r1.ext (e2.trans (e3.trans e4))
 simp only [RD, RP] at r1'; obtain ⟨b, vs, rfl, ⟨hb, _⟩, sq, rp⟩ := r1'; obtain ⟨ws, g1, g2⟩ := ok4.l hm; have hne : c ≠ b := by rintro rfl; rw [hm] at hb; cases hb
 refine ⟨c, b, ws, vs, i, j, rfl, rfl, hne, g1, sq, rfl, rfl, hij, by rw [g2.length]; exact hj, by rw [g2.length]; exact hx, by rw [rp.length]; exact hp, ?_⟩
 have e5 : Ext X.K Z m4 H4 (updM m4 c (.l (xs.take i ++ ps ++ xs.drop j))) (upd H4 c (.lst (ws.take i ++ vs ++ ws.drop j))) := Ext.put ok4 hm g1
 exact k d _ s _ q (e1.trans (e2.trans (e3.trans (e4.trans e5)))) (ok4.put hm g1 (((g2.take i).append rp).append (g2.drop j))) (rs.ext (e1.trans (e2.trans (e3.trans (e4.trans e5)))))
end
end DL
namespace DL
open PySem PySem.Spec PyProof.Rows L2
section
variable {X : Cx} {es : List Expr} {e : Expr} {g : DA} {f : DE} {pos : Pos}
theorem pe_tupK {j : Nat} {t : TA} (h : PA X es t) : PE X (.Tuple es j pos) (fun s H Q => t s H fun xs H1 => xs.length ≤ sizeLine ∧ ∀ p, H1 p = none → X.K.lookup p = none → Q (.ref p) (upd H1 p (.tup xs))) := by
 intro pins s σ H Q I hq; refine wpAny_Tuple_spliced (thn (h pos pins s σ H _ I hq) fun us s1 ⟨xs, H1, I1, r, z, q⟩ => ⟨by rw [← r.length]; exact z, ?_⟩)
 have hf : H1 s1.heap.objs.size = none := I1.hok.fresh (Nat.le_refl _)
 have hk : X.K.lookup s1.heap.objs.size = none := by
  cases e : X.K.lookup s1.heap.objs.size with
  | none => rfl
  | some o => exact absurd (Heap.lt_size (I1.kIn _ o e)) (Nat.lt_irrefl _)
 refine ⟨.ref s1.heap.objs.size, upd H1 s1.heap.objs.size (.tup xs), I1.laid (t' := s1.toks) (fun b u e => Heap.get?_push_of_some _ e) (Nat.le_refl _) ?_, rfl, q _ hf hk⟩; exact ⟨⟨z, NoD.new _ _ _⟩, us, r, ⟨_, Heap.get?_push_size _ rfl, rfl, _, rfl⟩⟩
theorem rds_rkw {K : PySem.W.Frag} {Z : Addr → Prop} {m : Mu} {H : Hp} : ∀ {xs : List D} {vs : List V}, RDs K Z m H xs vs → RKW K Z m H (xs.map fun x => ((), x)) (vs.map fun v => ((), v))
 | [], _, h => by cases (show _ = [] from h); rfl
 | .dat p :: r, _, ⟨v, w, h1, h2, h3⟩ => by subst h1; exact ⟨v, _, rfl, h2, rds_rkw h3⟩
 | .cel a :: r, _, ⟨v, w, h1, h2, h3⟩ => by subst h1; exact ⟨v, _, rfl, h2.1, rds_rkw h3⟩
@[simp] def dTupC (g : DA) : DE := fun d m Q => g d m fun xs m1 => xs.length ≤ sizeLine ∧ ∀ a, m1 a = none → Q (.cel a) (updM m1 a (.tc xs))
theorem le_tupC {j : Nat} (h : PA X es (LA X.K g)) : PE X (.Tuple es j pos) (LE X.K (dTupC g)) :=
 PE.imp (pe_tupK h) fun s H Q ⟨Z, d, m, R, ok, rs, h, k⟩ => ⟨Z, d, m, _, ok, rs, h, fun xs m1 vs H1 ⟨hz, q⟩ e1 ok1 r1 => by
  refine ⟨by rw [r1.length]; exact hz, fun p hp hk => ?_⟩
  exact k _ _ _ _ (q p (ok_none ok1 hp).1) (e1.trans (Ext.cell ok1 hp hk)) (ok1.cell hp hk (show RC _ _ _ _ (.tc xs) (.tup vs) from rds_rkw r1)) ⟨rfl, by rw [updM_same]; rfl⟩⟩
@[simp] def dFrzT (f : DE) : DE := fun d m Q => f d m fun x m1 => ∃ t c xs p, x = .cel t ∧ m t = none ∧ m c = none ∧ c ≠ t ∧ m1 t = some (.tc [.cel c, .dat p]) ∧ m1 c = some (.l xs) ∧ Q (.dat (.tuple [.list xs, p])) (offM (offM m1 t) c)
theorem le_frzT (he : PE X e (LE X.K f)) : PE X e (LE X.K (dFrzT f)) := PE.imp he fun s H Q h => by
 obtain ⟨Z, d, m, R, ok, rs, h, k⟩ := h; refine ⟨Z, d, m, _, ok, rs, h, fun x m1 v H1 q e1 ok1 rd => ?_⟩; obtain ⟨t, c, xs, p, rfl, ht, hc, hne, mt, mc, q⟩ := q; obtain ⟨rfl, _⟩ := rd; obtain ⟨o, h1, h2⟩ := ok1.g t _ mt; have mc' : offM m1 t c = some (.l xs) := by unfold offM; rw [if_neg hne]; exact mc
 have okt : Ok X.K Z (offM m1 t) H1 := ok1.off
 have rl := cel_view okt mc' (v := .ref c) ⟨rfl, by rw [mc']; rfl⟩
 cases o with
 | tup vs =>
  have h3 : RKW X.K Z m1 H1 (([.cel c, .dat p] : List D).map fun x => ((), x)) (vs.map fun v => ((), v)) := h2
  obtain ⟨v1, r1, e2, q1, v2, r2, e3, q2, e4⟩ := h3
  cases (show r2 = [] from e4)
  subst e3
  cases (show v1 = .ref c from q1)
  have ev : vs = [.ref c, v2] := by
   match vs, e2 with
   | [a, b], e => simp at e; rw [e.1, e.2]
  subst ev; refine k _ _ _ H1 q ((e1.off ht).off hc) okt.off ?_; simp only [RD, RP]; refine ⟨t, _, rfl, .inl (.inl h1), ?_⟩; rw [RPs]; refine ⟨.ref c, [v2], rfl, rl, ?_⟩; rw [RPs]; exact ⟨v2, [], rfl, RP.tr (fun _ _ q => q) (fun b ws q1 q2 => ⟨⟨off_none (off_none q1.1), q1.2⟩, q2⟩) p v2 q2, rfl⟩
 | _ => exact h2.elim
end
section
variable {X : Cx}
@[simp] def aMulN : D2
 | .cel c, .dat (.int k), m, Q => ∃ xs, m c = some (.l xs) ∧ 0 ≤ k ∧ k ≤ 1000 ∧ xs.length * k.toNat ≤ sizeLine ∧ ∀ p, m p = none → Q (.cel p) (updM m p (.l (List.replicate k.toNat xs).flatten))
 | _, _, _, _ => False
theorem od_mulN : OpD X (binaryOp .Mult) aMulN := by
 intro pins s σ H Z m x y dx dy v u R Q I ok rx ry r1 r2 h k; unfold aMulN at h
 split at h
 ·rename_i c kk; obtain ⟨xs, hm, k0, k1, hz, q⟩ := h; obtain ⟨rfl, _⟩ := r1
  cases r2.int
  obtain ⟨vs, h1, h2⟩ := ok.l hm; refine thn (op_rep pins s σ H _ _ v u (fun v' H' => ∃ p, H p = none ∧ v' = .ref p ∧ H' = upd H p (.lst (List.replicate kk.toNat vs).flatten)) I rx ry ⟨_, _, vs, rfl, rfl, h1, by omega, by omega, by rw [h2.length]; exact hz, fun p hp => ⟨p, hp, rfl, rfl⟩⟩) fun w s' ⟨v', H', I', r', p, hp, ev, eH⟩ => ?_
  subst ev eH; have hk : X.K.lookup p = none := by
   cases e : X.K.lookup p with
   | none => rfl
   | some o =>
    have := (I'.bs p o (I'.ok.mod.kin p o e)).2
    rw [upd_same] at this
    cases this
  refine ⟨_, _, I', r', k _ _ _ _ (q p (ok_none ok hp).1) (Ext.cell ok hp hk) (ok.cell hp hk (show RPs _ _ _ _ _ _ from rps_rep h2 _)) ⟨rfl, ?_⟩⟩
  rw [updM_same]; rfl
 ·exact h.elim
@[simp] def aMulS : D2
 | .dat (.str z), .dat (.int k), m, Q => z.length ≤ 1000 ∧ 0 ≤ k ∧ k ≤ 1000 ∧ Q (.dat (.str (Txt.mul z k))) m
 | _, _, _, _ => False
theorem od_mulS : OpD X (binaryOp .Mult) aMulS := by
 intro pins s σ H Z m x y dx dy v u R Q I ok rx ry r1 r2 h k; unfold aMulS at h
 split at h
 ·rename_i z kk; obtain ⟨h1, k0, k1, q⟩ := h
  cases r1.str
  cases r2.int
  obtain ⟨t, rfl⟩ := rx; obtain ⟨t2, rfl⟩ := ry; have hlen : z.length * kk.toNat ≤ 1000000 := Nat.le_trans (Nat.mul_le_mul h1 (show kk.toNat ≤ 1000 by omega)) (by decide)
  refine PySem.SB.mul ⟨by simp; omega, fun a b => ?_, fun a b => ?_⟩ fun t' n => ⟨.str _, H, I.tok _, ⟨_, rfl⟩, k _ m _ H q Ext.refl ok .ofStr⟩
  ·have : (2 ^ 63 - 1) / 1000 ≤ ((2 : Int) ^ 63 - 1) / kk := by
    refine Int.le_ediv_of_mul_le (by omega) ?_
    have : ((2 : Int) ^ 63 - 1) / 1000 * kk ≤ ((2 : Int) ^ 63 - 1) / 1000 * 1000 := Int.mul_le_mul_of_nonneg_left (by omega) (by decide)
    omega
   omega
  ·unfold Builtin.Str.tooLong; have := sizeLine_eq
   simp; omega
 ·exact h.elim
end
section
variable {X : Cx} {a e : Expr} {f g : DE} {p p1 p2 pos : Pos}
@[simp] def dIsiX (f : DE) (c : String) : DE := fun d m Q => f d m fun x m1 => ∃ q, ofC m1 x = some q ∧ Q (.dat (.bool (isK q c))) m1
theorem le_isiX {T : Str} {c : String} (hg : Gl X "isinstance") (hm : X.mg "isinstance" = none) (hgT : Gl X T) (hmT : X.mg T = none) (hv : bootBuiltins T = some (.type c)) (hc : c = "int" ∨ c = "bool" ∨ c = "str" ∨ c = "tuple" ∨ c = "list")
  (ha : PE X a (LE X.K f)) (hn : T ≠ "__name__" := by decide) (hd : (T == ("__debug__" : Str)) = false := by decide)
  (he : starEach [a, .Name T p2] X.env = (false, eval a X.env) :: starEach [.Name T p2] X.env := by rfl) :
  PE X (.Call (.Name "isinstance" p1) [a, .Name T p2] [] pos) (LE X.K (dIsiX f c)) := by
 have cr : CallR X (.builtin "isinstance") (fun vs H Q => ∃ Z m q v, RP X.K Z m H q v ∧ vs = [v, .ty c] ∧ Q (.bl (isK q c)) H) := by
  intro pins s σ H xs us Q I rv ⟨Z, m, q, v, rp, e, h⟩; subst e; obtain ⟨u, w, rfl, r1, r2⟩ := vals2 rv
  cases r2
  exact isi_data I rp r1 (kit_data X.K q c hc) fun tk => ⟨.bl _, H, I.tok _, rfl, h⟩
 refine PE.imp (pe_callB cr hg hm boot_isi (pa_cons ha (pa_cons (pe_bltn (v := .ty c) hgT hmT hv rfl hn hd) pa_nil) he) (he := he) (hpl := rfl)) fun s H Q h => ?_; obtain ⟨Z, d, m, R, ok, rs, h, k⟩ := h; refine ⟨Z, d, m, _, ok, rs, h, fun x m1 v H1 ⟨q, e, h1⟩ e1 ok1 rd => ?_⟩; obtain ⟨m2, w⟩ := ofC_view ok1 e rd; exact ⟨Z, m2, q, v, w, rfl, k _ m1 _ H1 h1 e1 ok1 .ofBl⟩
@[simp] def dJoinX (z : Str) (g : DE) : DE := fun d m Q => g d m fun y m1 => ∃ zs : List Str, ofC m1 y = some (.list (zs.map .str)) ∧ z.length ≤ 16 ∧ (zs.map (·.length)).sum + zs.length ≤ 1048576 ∧ Q (.dat (.str (Txt.join z zs))) m1
theorem le_joinX {z : Str} {jc : Nat} {apos cpos : Pos} (he : PE X e (LE X.K g))
  (hbase : attributeBase (.Constant (.str z) jc p) "join" X.env (eval (.Constant (.str z) jc p) X.env) = eval (.Constant (.str z) jc p) X.env := by rfl)
  (hfew : ((backTo cpos (starEach [e] X.env)).all (fun x => !x.1) && (backToKw cpos (keywordEach [] X.env)).all (fun x => x.1.isSome) && decide ([e].length + ([] : List Keyword).length + (if ([] : List Keyword).isEmpty then 0 else 1) < 30)) = true := by rfl)
  (hline : (apos.endLine == cpos.line) = true := by rfl) (hs : starEach [e] X.env = (false, eval e X.env) :: starEach [] X.env := by rfl) : PE X (.Call (.Attribute (.Constant (.str z) jc p) "join" apos) [e] [] cpos) (LE X.K (dJoinX z g)) :=
 PE.imp (pe_bm (T := "str") (id := "str.join") (name := "join") PySem.F.plainAttrs_str PySem.F.slot_str_join PySem.F.type_str_join mt_join pe_str (pa_cons he pa_nil hs) hbase hfew hline hs rfl) fun s H Q h => by
  obtain ⟨Z, d, m, R, ok, rs, h, k⟩ := h; refine ⟨rfl, ?_⟩; refine ⟨Z, d, m, _, ok, rs, h, fun y m1 v H1 ⟨zs, ey, h1, h2, q⟩ e1 ok1 rd => ?_⟩; obtain ⟨m2, w⟩ := ofC_view ok1 ey rd; simp only [RP] at w; obtain ⟨a, vs, rfl, _, hq, hr⟩ := w
  cases rps_strs hr
  exact ⟨z, a, zs, rfl, rfl, hq, h1, h2, k _ m1 _ H1 q e1 ok1 .ofStr⟩
end
end DL
namespace DL
open PySem PySem.Spec PyProof.Rows L2
def tgL : Nat → Expr → List Str
 | 0, .Name x _ => [x]
 | k + 1, .Tuple es _ _ => es.flatMap (tgL k)
 | _, _ => []
def tgN (e : Expr) : List Str := tgL 0 e ++ (tgL 1 e ++ (tgL 2 e ++ tgL 3 e))
def ncT (tgs : List Expr) (src : List (Option Nat)) (N : List Str) : List Str := tgs.flatMap tgN ++ src.filterMap fun o => o.bind fun i => N[i]?
structure QE (X : Cx) (e : Expr) (t : TE) : Prop where
 pe : PE X e t
structure QA (X : Cx) (e : List Expr) (t : TA) : Prop where
 pe : PA X e t
structure QT (X : Cx) (e : Expr) (t : TT) : Prop where
 pe : PT X e t
structure QW (X : Cx) (e : Expr) (t : TT) : Prop where
 pe : PW X e t
structure QS (X : Cx) (e : Stmt) (t : TS) : Prop where
 pe : PS X e t
structure QSs (X : Cx) (e : List Stmt) (t : TS) : Prop where
 pe : PSs X e t
structure QG (X : Cx) (e : Expr) (t : TG) : Prop where
 pe : PG X e t
structure QGs (X : Cx) (e : List Expr) (t : TGs) : Prop where
 pe : PGs X e t
structure QO (X : Cx) (e : Option Expr) (t : TO) : Prop where
 pe : PO X e t
structure QF (X : Cx) (e : List Expr) (t : TT) : Prop where
 pe : PF X e t
structure QJ (X : Cx) (e : List Expr) (t : List DE) : Prop where
 pe : PJ X e t
structure QI (X : Cx) (tg e : Expr) (t : TI) : Prop where
 pe : PI X tg e t
theorem QW.pt {X : Cx} {e : Expr} {t : TT} (h : QW X e t) : QT X e t := ⟨h.pe.pt⟩
section
variable {X : Cx} {pos : Pos}
theorem qle_var (i : Nat) {x : Str} (hN : X.N[i]? = some x := by rfl) (hv : Vis X.env.scope x := by first | exact Or.inl rfl | exact Or.inr (Or.inl rfl) | exact Or.inr (Or.inr rfl)) (hd : (x == ("__debug__" : Str)) = false := by decide) (hcd : (x == ("__classdict__" : Str)) = false := by decide) : QE X (.Name x pos) (LE X.K (dVar i)) := ⟨le_var (i := i) (hN := hN) (hv := hv) (hd := hd) (hcd := hcd)⟩
end
section
variable {X : Cx} {pos : Pos}
theorem qle_int {i : Int} {j : Nat} : QE X (.Constant (.int i) j pos) (LE X.K (dCon (.int i))) := ⟨le_int ⟩
end
section
variable {X : Cx} {pos : Pos}
theorem qle_bl {b : Bool} {j : Nat} : QE X (.Constant (.bool b) j pos) (LE X.K (dCon (.bool b))) := ⟨le_bl ⟩
end
section
variable {X : Cx} {pos : Pos}
theorem qle_non {j : Nat} : QE X (.Constant .none j pos) (LE X.K (dCon .none)) := ⟨le_non ⟩
end
section
variable {X : Cx} {pos : Pos}
theorem qle_str {x : Str} {j : Nat} : QE X (.Constant (.str x) j pos) (LE X.K (dCon (.str x))) := ⟨le_str ⟩
end
section
variable {X : Cx} {a b c : Expr} {f g : DE} {pos : Pos}
theorem qle_bin {op : Operator} {r : D2} (ho : OpD X (binaryOp op) r) (ha : QE X a (LE X.K f)) (hb : QE X b (LE X.K g)) : QE X (.BinOp a op b pos) (LE X.K (dBin r f g)) := ⟨le_bin (ho := ho) (ha := ha.pe) (hb := hb.pe)⟩
end
section
variable {X : Cx} {a b c : Expr} {f g : DE} {pos : Pos}
theorem qle_cmp {op : CmpOp} {r : D2} (ho : OpD X (compareOp op) r) (ha : QE X a (LE X.K f)) (hb : QE X b (LE X.K g)) (hm : behindInMarks op b = false := by exact nomark _) : QE X (.Compare a [op] [b] pos) (LE X.K (dBin r f g)) := ⟨le_cmp (ho := ho) (ha := ha.pe) (hb := hb.pe) (hm := hm)⟩
end
section
variable {X : Cx} {a b c : Expr} {f g : DE} {pos : Pos}
theorem qlt_cmp {op : CmpOp} {r : D2} (ho : OpD X (compareOp op) r) (ha : QE X a (LE X.K f)) (hb : QE X b (LE X.K g)) (hm : behindInMarks op b = false := by exact nomark _) : QT X (.Compare a [op] [b] pos) (LT X.K (dTst (dBin r f g))) := ⟨lt_cmp (ho := ho) (ha := ha.pe) (hb := hb.pe) (hm := hm)⟩
end
section
variable {X : Cx} {a b c : Expr} {f g : DE} {pos : Pos}
theorem qlt_val (h : QE X a (LE X.K f)) (he : ∀ whole, isTrue a X.env whole = (do let v ← whole; standAt a.pos; holding [v] (truthy v)) := by intro _; rfl) : QT X a (LT X.K (dTst f)) := ⟨lt_val (h := h.pe) (he := he)⟩
end
section
variable {X : Cx} {a b c : Expr} {rest : List Expr} {f g : DE} {t u : DT} {pos : Pos}
theorem qlw_and1 (ha : QT X a (LT X.K t)) : QW X (.BoolOp .And [a] pos) (LT X.K t) := ⟨lw_and1 (ha := ha.pe)⟩
end
section
variable {X : Cx} {a b c : Expr} {rest : List Expr} {f g : DE} {t u : DT} {pos : Pos}
theorem qlw_or1 (ha : QT X a (LT X.K t)) : QW X (.BoolOp .Or [a] pos) (LT X.K t) := ⟨lw_or1 (ha := ha.pe)⟩
end
section
variable {X : Cx} {a b c : Expr} {rest : List Expr} {f g : DE} {t u : DT} {pos : Pos}
theorem qlw_and (ha : QT X a (LT X.K t)) (hb : QW X (.BoolOp .And (b :: rest) pos) (LT X.K u)) : QW X (.BoolOp .And (a :: b :: rest) pos) (LT X.K (dAndT t u)) := ⟨lw_and (ha := ha.pe) (hb := hb.pe)⟩
end
section
variable {X : Cx} {a b c : Expr} {rest : List Expr} {f g : DE} {t u : DT} {pos : Pos}
theorem qlw_or (ha : QT X a (LT X.K t)) (hb : QW X (.BoolOp .Or (b :: rest) pos) (LT X.K u)) : QW X (.BoolOp .Or (a :: b :: rest) pos) (LT X.K (dOrT t u)) := ⟨lw_or (ha := ha.pe) (hb := hb.pe)⟩
end
section
variable {X : Cx} {a b c : Expr} {rest : List Expr} {f g : DE} {t u : DT} {pos : Pos}
theorem qlt_not (ha : QT X a (LT X.K t)) : QT X (.UnaryOp .Not a pos) (LT X.K (dNotT t)) := ⟨lt_not (ha := ha.pe)⟩
end
section
variable {X : Cx} {a b c : Expr} {rest : List Expr} {f g : DE} {t u : DT} {pos : Pos}
theorem qle_one {op : BoolOp} (h : QE X a (LE X.K f)) : QE X (.BoolOp op [a] pos) (LE X.K f) := ⟨le_one (h := h.pe)⟩
end
section
variable {X : Cx} {a b c : Expr} {rest : List Expr} {f g : DE} {t u : DT} {pos : Pos}
theorem qle_and (ha : QE X a (LE X.K f)) (hb : QE X (.BoolOp .And (b :: rest) pos) (LE X.K g)) : QE X (.BoolOp .And (a :: b :: rest) pos) (LE X.K (dAnd f g)) := ⟨le_and (ha := ha.pe) (hb := hb.pe)⟩
end
section
variable {X : Cx} {a b c : Expr} {rest : List Expr} {f g : DE} {t u : DT} {pos : Pos}
theorem qle_not (ha : QE X a (LE X.K f)) : QE X (.UnaryOp .Not a pos) (LE X.K (dNot f)) := ⟨le_not (ha := ha.pe)⟩
end
section
variable {X : Cx} {a b c : Expr} {rest : List Expr} {f g : DE} {t u : DT} {pos : Pos}
theorem qle_ite (hc : QT X c (LT X.K t)) (ha : QE X a (LE X.K f)) (hb : QE X b (LE X.K g)) : QE X (.IfExp c a b pos) (LE X.K (dIte t f g)) := ⟨le_ite (hc := hc.pe) (ha := ha.pe) (hb := hb.pe)⟩
end
section
variable {X : Cx} {e : Expr} {es : List Expr} {f : DE} {g : DA} {pos : Pos}
theorem qla_nil  : QA X [] (LA X.K dNil) := ⟨la_nil ⟩
end
section
variable {X : Cx} {e : Expr} {es : List Expr} {f : DE} {g : DA} {pos : Pos}
theorem qla_cons (ha : QE X e (LE X.K f)) (hr : QA X es (LA X.K g)) (hs : starEach (e :: es) X.env = (false, eval e X.env) :: starEach es X.env := by rfl) : QA X (e :: es) (LA X.K (dCons f g)) := ⟨la_cons (ha := ha.pe) (hr := hr.pe) (hs := hs)⟩
end
section
variable {X : Cx} {e : Expr} {es : List Expr} {f : DE} {g : DA} {pos : Pos}
theorem qle_tup {j : Nat} (h : QA X es (LA X.K g)) : QE X (.Tuple es j pos) (LE X.K (dTup g)) := ⟨le_tup (h := h.pe)⟩
end
section
variable {X : Cx} {e : Expr} {es : List Expr} {f : DE} {g : DA} {pos : Pos}
theorem qle_lst (h : QA X es (LA X.K g)) : QE X (.List es pos) (LE X.K (dLst g)) := ⟨le_lst (h := h.pe)⟩
end
section
variable {X : Cx} {e : Expr} {es : List Expr} {f : DE} {g : DA} {pos : Pos}
theorem qle_lstC (h : QA X es (LA X.K g)) : QE X (.List es pos) (LE X.K (dLstC g)) := ⟨le_lstC (h := h.pe)⟩
end
section
variable {X : Cx} {a b c e : Expr} {es : List Expr} {f g : DE} {ga : DA} {pos p2 p : Pos}
theorem qle_neg (ha : QE X a (LE X.K f)) : QE X (.UnaryOp .USub a pos) (LE X.K (dNeg f)) := ⟨le_neg (ha := ha.pe)⟩
end
section
variable {X : Cx} {a b c e : Expr} {es : List Expr} {f g : DE} {ga : DA} {pos p2 p : Pos}
theorem qle_ix (ha : QE X a (LE X.K f)) (hb : QE X b (LE X.K g)) (hs : PlainIx b := by exact fun _ _ => rfl) : QE X (.Subscript a b pos) (LE X.K (dBin aIx f g)) := ⟨le_ix (ha := ha.pe) (hb := hb.pe) (hs := hs)⟩
end
section
variable {X : Cx} {a b c e : Expr} {es : List Expr} {f g : DE} {ga : DA} {pos p2 p : Pos}
theorem qlo_none  : QO X none (LO X.K dNoP) := ⟨lo_none ⟩
end
section
variable {X : Cx} {a b c e : Expr} {es : List Expr} {f g : DE} {ga : DA} {pos p2 p : Pos}
theorem qlo_some (ha : QE X a (LE X.K f)) : QO X (some a) (LO X.K (dPart f)) := ⟨lo_some (ha := ha.pe)⟩
end
section
variable {X : Cx} {a b c e : Expr} {es : List Expr} {f g : DE} {ga : DA} {pos p2 p : Pos}
theorem qle_callB {x : Str} {id : String} {r : DC} (hc : CallD X (.builtin id) r) (hg : Gl X x) (hm : X.mg x = none) (hv : bootBuiltins x = some (.builtin id)) (ha : QA X (e :: es) (LA X.K ga)) (hn : x ≠ "__name__" := by decide) (hdb : (x == ("__debug__" : Str)) = false := by decide) (he : starEach (e :: es) X.env = (false, eval e X.env) :: starEach es X.env := by rfl) (hpl : (backTo pos (starEach es X.env)).any (·.1) = false := by rfl) : QE X (.Call (.Name x p) (e :: es) [] pos) (LE X.K (dCallB r ga)) := ⟨le_callB (hc := hc) (hg := hg) (hm := hm) (hv := hv) (ha := ha.pe) (hn := hn) (hdb := hdb) (he := he) (hpl := hpl)⟩
end
section
variable {X : Cx} {a b c e : Expr} {es : List Expr} {f g : DE} {ga : DA} {pos p2 p : Pos}
theorem qle_callTy {x : Str} {T : String} {r : DC} (hc : CallD X (.type T) r) (hg : Gl X x) (hm : X.mg x = none) (hv : bootBuiltins x = some (.type T)) (ha : QA X (e :: es) (LA X.K ga)) (hn : x ≠ "__name__" := by decide) (hdb : (x == ("__debug__" : Str)) = false := by decide) (he : starEach (e :: es) X.env = (false, eval e X.env) :: starEach es X.env := by rfl) (hpl : (backTo pos (starEach es X.env)).any (·.1) = false := by rfl) : QE X (.Call (.Name x p) (e :: es) [] pos) (LE X.K (dCallB r ga)) := ⟨le_callTy (hc := hc) (hg := hg) (hm := hm) (hv := hv) (ha := ha.pe) (hn := hn) (hdb := hdb) (he := he) (hpl := hpl)⟩
end
section
variable {X : Cx} {st : Stmt} {rest body orelse : List Stmt} {t u b : DS} {e c tg iter : Expr} {f : DE} {tc : DT} {pos : Pos}
theorem qlss_nil  : QSs X [] (LS X.K dNext) := ⟨lss_nil ⟩
end
section
variable {X : Cx} {st : Stmt} {rest body orelse : List Stmt} {t u b : DS} {e c tg iter : Expr} {f : DE} {tc : DT} {pos : Pos}
theorem qlss_cons (h1 : QS X st (LS X.K t)) (h2 : QSs X rest (LS X.K u)) : QSs X (st :: rest) (LS X.K (dSeq t u)) := ⟨lss_cons (h1 := h1.pe) (h2 := h2.pe)⟩
end
section
variable {X : Cx} {st : Stmt} {rest body orelse : List Stmt} {t u b : DS} {e c tg iter : Expr} {f : DE} {tc : DT} {pos : Pos}
theorem qls_expr (he : QE X e (LE X.K f)) (hs : swapsWith e none pos.line X.env = pure false := by rfl) : QS X (.Expr e pos) (LS X.K (dExpr f)) := ⟨ls_expr (he := he.pe) (hs := hs)⟩
end
section
variable {X : Cx} {st : Stmt} {rest body orelse : List Stmt} {t u b : DS} {e c tg iter : Expr} {f : DE} {tc : DT} {pos : Pos}
theorem qls_ret (he : QE X e (LE X.K f)) : QS X (.Return (some e) pos) (LS X.K (dRet f)) := ⟨ls_ret (he := he.pe)⟩
end
section
variable {X : Cx} {st : Stmt} {rest body orelse : List Stmt} {t u b : DS} {e c tg iter : Expr} {f : DE} {tc : DT} {pos : Pos}
theorem qls_if (hc : QT X c (LT X.K tc)) (h1 : QSs X body (LS X.K t)) (h2 : QSs X orelse (LS X.K u)) : QS X (.If c body orelse pos) (LS X.K (dIf tc t u)) := ⟨ls_if (hc := hc.pe) (h1 := h1.pe) (h2 := h2.pe)⟩
end
section
variable {X : Cx} {st : Stmt} {rest body orelse : List Stmt} {t u b : DS} {e c tg iter : Expr} {f : DE} {tc : DT} {pos : Pos}
theorem qls_set (i : Nat) {x : Str} {pos' : Pos} (hN : X.N.Nodup) (he : QE X e (LE X.K f)) (hi : X.N[i]? = some x := by rfl) (hx : Loc X.env.scope x := by first | exact Or.inl rfl | exact Or.inr rfl) (hs : swapsWith e (some (.Name x pos')) pos.line X.env = pure false := by rfl) (hf : X.fn x = true ∨ X.env.scope.names.lookup x = some .local := by first | exact .inl rfl | exact .inr rfl) : QS X (.Assign [.Name x pos'] e pos) (LS X.K (dSet i f)) := ⟨ls_set (i := i) (hN := hN) (he := he.pe) (hi := hi) (hx := hx) (hs := hs) (hf := hf)⟩
end
section
variable {X : Cx} {st : Stmt} {rest body orelse : List Stmt} {t u b : DS} {e c tg iter : Expr} {f : DE} {tc : DT} {pos : Pos}
theorem qlg_name (i : Nat) {x : Str} (hN : X.N.Nodup) (hi : X.N[i]? = some x := by rfl) (hx : Loc X.env.scope x := by first | exact Or.inl rfl | exact Or.inr rfl) (hf : X.fn x = true ∨ X.env.scope.names.lookup x = some .local := by first | exact .inl rfl | exact .inr rfl) : QG X (.Name x pos) (LG X.K (gN i)) := ⟨lg_name (i := i) (hN := hN) (hi := hi) (hx := hx) (hf := hf)⟩
end
section
variable {X : Cx} {st : Stmt} {rest body orelse : List Stmt} {t u b : DS} {e c tg iter : Expr} {f : DE} {tc : DT} {pos : Pos}
theorem qlgs_nil  : QGs X [] (LGs X.K gN0) := ⟨lgs_nil ⟩
end
section
variable {X : Cx} {st : Stmt} {rest body orelse : List Stmt} {t u b : DS} {e c tg iter : Expr} {f : DE} {tc : DT} {pos : Pos}
theorem qlgs_cons {es : List Expr} {g : DG} {r : DGs} (h1 : QG X e (LG X.K g)) (h2 : QGs X es (LGs X.K r)) (hs : (assignEach (e :: es) X.env).map (·.2) = assign e X.env :: (assignEach es X.env).map (·.2) := by rfl) : QGs X (e :: es) (LGs X.K (gNs g r)) := ⟨lgs_cons (h1 := h1.pe) (h2 := h2.pe) (hs := hs)⟩
end
section
variable {X : Cx} {st : Stmt} {rest body orelse : List Stmt} {t u b : DS} {e c tg iter : Expr} {f : DE} {tc : DT} {pos : Pos}
theorem qlg_tup {es : List Expr} {j n : Nat} {g : DGs} (hc : X.calm = true) (h : QGs X es (LGs X.K g)) (hn : (assignEach es X.env).length = n := by rfl) (hst : (assignEach es X.env).findIdx? (·.1) = none := by rfl) : QG X (.Tuple es j pos) (LG X.K (gT n g)) := ⟨lg_tup (hc := hc) (h := h.pe) (hn := hn) (hst := hst)⟩
end
section
variable {X : Cx} {st : Stmt} {rest body orelse : List Stmt} {t u b : DS} {e c tg iter : Expr} {f : DE} {tc : DT} {pos : Pos}
theorem qls_asg {g : DG} (he : QE X e (LE X.K f)) (hg : QG X tg (LG X.K g)) (hs : swapsWithSole [tg] e pos.line X.env = pure false := by rfl) (hw : swappedStores [tg] e X.env = pure none := by rfl) (h1 : (assignEach [tg] X.env).map (·.2) = [assign tg X.env] := by rfl) : QS X (.Assign [tg] e pos) (LS X.K (dAsg f g)) := ⟨ls_asg (he := he.pe) (hg := hg.pe) (hs := hs) (hw := hw) (h1 := h1)⟩
end
section
variable {X : Cx} {st : Stmt} {rest body orelse : List Stmt} {t u b : DS} {e c tg iter : Expr} {f : DE} {tc : DT} {pos : Pos}
theorem qls_par (i j : Nat) {x y : Str} {a b : Expr} {g : DA} {px py pt : Pos} {kt k2 pt2} (hc : X.calm = true) (hN : X.N.Nodup) (ha : QA X [a, b] (LA X.K g)) (hi : X.N[i]? = some x := by rfl) (hj : X.N[j]? = some y := by rfl) (hij : i ≠ j := by decide) (hx : X.env.scope.names.lookup x = some .local := by rfl) (hy : X.env.scope.names.lookup y = some .local := by rfl) (hw : swappedStores [.Tuple [.Name x px, .Name y py] kt pt] (.Tuple [a, b] k2 pt2) X.env = pure (some [x, y]) := by rfl) (hs : swapsWithSole [.Tuple [.Name x px, .Name y py] kt pt] (.Tuple [a, b] k2 pt2) pos.line X.env = pure false := by rfl) : QS X (.Assign [.Tuple [.Name x px, .Name y py] kt pt] (.Tuple [a, b] k2 pt2) pos) (LS X.K (dPar i j g)) := ⟨ls_par (i := i) (j := j) (hc := hc) (hN := hN) (ha := ha.pe) (hi := hi) (hj := hj) (hij := hij) (hx := hx) (hy := hy) (hw := hw) (hs := hs)⟩
end
section
variable {X : Cx} {st : Stmt} {rest body orelse : List Stmt} {t u b : DS} {e c tg iter : Expr} {f : DE} {tc : DT} {pos : Pos}
theorem qls_put {o i : Expr} {fo fi : DE} {tpos : Pos} (he : QE X e (LE X.K f)) (ho : QE X o (LE X.K fo)) (hi : QE X i (LE X.K fi)) (ha : ∀ v, assign (.Subscript o i tpos) X.env v = (do
   let ov ← holding [v] (eval o X.env)
   let iv ← holding [v, ov] (eval i X.env)
   standAt tpos
   holding [v, ov, iv] (setItem ov iv v)
   release [v, ov, iv] []) := by intro _; rfl) (hs : swapsWithSole [.Subscript o i tpos] e pos.line X.env = pure false := by rfl) (hw : swappedStores [.Subscript o i tpos] e X.env = pure none := by rfl) (h1 : (assignEach [.Subscript o i tpos] X.env).map (·.2) = [assign (.Subscript o i tpos) X.env] := by rfl) : QS X (.Assign [.Subscript o i tpos] e pos) (LS X.K (dPut fo fi f)) := ⟨ls_put (he := he.pe) (ho := ho.pe) (hi := hi.pe) (ha := ha) (hs := hs) (hw := hw) (h1 := h1)⟩
end
section
variable {X : Cx} {st : Stmt} {rest body orelse : List Stmt} {t u b : DS} {e c tg iter : Expr} {f : DE} {tc : DT} {pos : Pos}
theorem qls_while (hp : PassesOwn (model X.prog X.w) X.A X.env X.xe) (hc : QT X c (LT X.K tc)) (hb : QSs X body (LS X.K b)) : QS X (.While c body [] pos) (LS X.K (dWhile tc b)) := ⟨ls_while (hp := hp) (hc := hc.pe) (hb := hb.pe)⟩
end
section
variable {X : Cx} {st : Stmt} {rest body orelse : List Stmt} {t u b : DS} {e c tg iter : Expr} {f : DE} {tc : DT} {pos : Pos}
theorem qli_seq (ha : QE X e (LE X.K f)) : QI X tg e (LI X.K (dSeqI f)) := ⟨li_seq (ha := ha.pe)⟩
end
section
variable {X : Cx} {st : Stmt} {rest body orelse : List Stmt} {t u b : DS} {e c tg iter : Expr} {f : DE} {tc : DT} {pos : Pos}
theorem qli_range {p : Pos} (hg : Gl X "range") (hm : X.mg "range" = none) (ha : QE X e (LE X.K f)) (hs : starEach [e] X.env = [(false, eval e X.env)] := by rfl) : QI X tg (.Call (.Name "range" p) [e] [] pos) (LI X.K (dRngI f)) := ⟨li_range (hg := hg) (hm := hm) (ha := ha.pe) (hs := hs)⟩
end
section
variable {X : Cx} {st : Stmt} {rest body orelse : List Stmt} {t u b : DS} {e c tg iter : Expr} {f : DE} {tc : DT} {pos : Pos}
theorem qls_for {fi : DI} {g : DG} (hp : PassesOwn (model X.prog X.w) X.A X.env X.xe) (hc : X.calm = true) (hi : QI X tg iter (LI X.K fi)) (hg : QG X tg (LG X.K g)) (hb : QSs X body (LS X.K b)) (hs : ∀ x, foldedSetIterable iter X.env x = pure x := by intro _; rfl) : QS X (.For tg iter body [] pos) (LS X.K (dFor fi g b)) := ⟨ls_for (hp := hp) (hc := hc) (hi := hi.pe) (hg := hg.pe) (hb := hb.pe) (hs := hs)⟩
end
section
variable {X : Cx} {a e : Expr} {es : List Expr} {f : DE} {ga : DA} {pos p p1 p2 p3 p4 : Pos}
theorem qle_isi {T : Str} {c : String} (hg : Gl X "isinstance") (hm : X.mg "isinstance" = none) (hgT : Gl X T) (hmT : X.mg T = none) (hv : bootBuiltins T = some (.type c)) (hc : c = "int" ∨ c = "bool" ∨ c = "str" ∨ c = "tuple" ∨ c = "list") (ha : QE X a (LE X.K f)) (hn : T ≠ "__name__" := by decide) (hd : (T == ("__debug__" : Str)) = false := by decide) (he : starEach [a, .Name T p2] X.env = (false, eval a X.env) :: starEach [.Name T p2] X.env := by rfl) : QE X (.Call (.Name "isinstance" p1) [a, .Name T p2] [] pos) (LE X.K (dIsi f c)) := ⟨le_isi (hg := hg) (hm := hm) (hgT := hgT) (hmT := hmT) (hv := hv) (hc := hc) (ha := ha.pe) (hn := hn) (hd := hd) (he := he)⟩
end
section
variable {X : Cx} {a e : Expr} {es : List Expr} {f : DE} {ga : DA} {pos p p1 p2 p3 p4 : Pos}
theorem qle_call {k n : Nat} {fa : Addr} {fd : FuncData} {ps : List Str} {sp : DC} {x : Str} (F : FnOk X.prog X.w X.K X.mg X.base CX0 k fa fd ps (LSp X.K n sp)) (hr : Room k X.A) (hm : X.mg x = some (.ref fa)) (hk : PySem.W.keepIn X.K (.ref fa) = true) (hb : Binds X.K fd ps []) (hx : X.xe = fun _ _ => False) (ha : QA X (e :: es) (LA X.K ga)) (hg : Gl X x := by rfl) (hdb : (x == ("__debug__" : Str)) = false := by decide) (he : starEach (e :: es) X.env = (false, eval e X.env) :: starEach es X.env := by rfl) (hpl : (backTo pos (starEach es X.env)).any (·.1) = false := by rfl) : QE X (.Call (.Name x p) (e :: es) [] pos) (LE X.K (dCall n sp ga)) := ⟨le_call (F := F) (hr := hr) (hm := hm) (hk := hk) (hb := hb) (hx := hx) (ha := ha.pe) (hg := hg) (hdb := hdb) (he := he) (hpl := hpl)⟩
end
section
theorem qpf_nil {Y : Cx} : QF Y [] (LT Y.K dTrue) := ⟨pf_nil ⟩
end
section
theorem qpf_one {Y : Cx} {c : Expr} {t : TT} (h : QT Y c t) : QF Y [c] t := ⟨pf_one (h := h.pe)⟩
end
section
variable {X : Cx} {tg iter elt : Expr} {ifs : List Expr} {scope : Scope} {fi : DI} {g : DG} {t : DT} {f : DE} {pos : Pos}
theorem qle_lcB {NC : List Str} {src : List (Option Nat)} (hc : X.calm = true) (hi : QI X tg iter (LI X.K fi)) (hg : ∀ cl C s2 H2 pins fp, QG (cyOf X scope cl C NC s2 H2 pins fp) tg (LG X.K g)) (ht : ∀ cl C s2 H2 pins fp, QF (cyOf X scope cl C NC s2 H2 pins fp) ifs (LT X.K t)) (he : ∀ cl C s2 H2 pins fp, QE (cyOf X scope cl C NC s2 H2 pins fp) elt (LE X.K f)) (hNC : NC = ncT [tg] src X.N := by rfl) (hkind : scope.kind = .function := by rfl) (hB : chkB scope X.env = true := by rfl) (hS : chkS X.N scope X.env NC src = true := by rfl) (hs : ∀ x, foldedSetIterable iter X.env x = pure x := by intro _; rfl) : QE X (.ListComp elt [⟨tg, iter, ifs, 0⟩] scope pos) (LE X.K (dLC src fi g t f)) := ⟨le_lcB (NC := NC) (src := src) (hc := hc) (hi := hi.pe) (hg := fun cl C s2 H2 pins fp => (hg cl C s2 H2 pins fp).pe) (ht := fun cl C s2 H2 pins fp => (ht cl C s2 H2 pins fp).pe) (he := fun cl C s2 H2 pins fp => (he cl C s2 H2 pins fp).pe) (hkind := hkind) (hB := hB) (hS := hS) (hs := hs)⟩
end
section
variable {X : Cx} {tg iter elt : Expr} {ifs : List Expr} {scope : Scope} {fi : DI} {g : DG} {t : DT} {f : DE} {pos : Pos}
theorem qls_lcB (i : Nat) {y : Str} {py spos : Pos} {NC : List Str} {src : List (Option Nat)} (hc : X.calm = true) (hN : X.N.Nodup) (hi : QI X tg iter (LI X.K fi)) (hg : ∀ cl C s2 H2 pins fp, QG (cyOf X scope cl C NC s2 H2 pins fp) tg (LG X.K g)) (ht : ∀ cl C s2 H2 pins fp, QF (cyOf X scope cl C NC s2 H2 pins fp) ifs (LT X.K t)) (he : ∀ cl C s2 H2 pins fp, QE (cyOf X scope cl C NC s2 H2 pins fp) elt (LE X.K f)) (hNC : NC = ncT [tg] src X.N := by rfl) (hkind : scope.kind = .function := by rfl) (hB : chkB scope X.env = true := by rfl) (hS : chkS X.N scope X.env NC src = true := by rfl) (hi2 : X.N[i]? = some y := by rfl) (hx : Loc X.env.scope y := by first | exact Or.inl rfl | exact Or.inr rfl) (hf : X.fn y = true ∨ X.env.scope.names.lookup y = some .local := by first | exact .inl rfl | exact .inr rfl) (hsw : swapsWith (.ListComp elt [⟨tg, iter, ifs, 0⟩] scope pos) (some (.Name y py)) spos.line X.env = pure true := by rfl) (hs : ∀ x, foldedSetIterable iter X.env x = pure x := by intro _; rfl) : QS X (.Assign [.Name y py] (.ListComp elt [⟨tg, iter, ifs, 0⟩] scope pos) spos) (LS X.K (dSet i (dLC src fi g t f))) := ⟨ls_lcB (i := i) (NC := NC) (src := src) (hc := hc) (hN := hN) (hi := hi.pe) (hg := fun cl C s2 H2 pins fp => (hg cl C s2 H2 pins fp).pe) (ht := fun cl C s2 H2 pins fp => (ht cl C s2 H2 pins fp).pe) (he := fun cl C s2 H2 pins fp => (he cl C s2 H2 pins fp).pe) (hkind := hkind) (hB := hB) (hS := hS) (hi2 := hi2) (hx := hx) (hf := hf) (hsw := hsw) (hs := hs)⟩
end
section
variable {X : Cx} {a b : Expr} {elts : List Expr} {j : Nat} {f g : DE} {pos p p2 : Pos}
theorem qli_zip (hg : Gl X "zip") (hm : X.mg "zip" = none) (ha : QE X a (LE X.K f)) (hb : QE X b (LE X.K g)) (hs : starEach [a, b] X.env = [(false, eval a X.env), (false, eval b X.env)] := by rfl) (hs2 : starEach [b] X.env = [(false, eval b X.env)] := by rfl) : QI X (.Tuple elts j p2) (.Call (.Name "zip" p) [a, b] [] pos) (LI X.K (dZipI f g)) := ⟨li_zip (hg := hg) (hm := hm) (ha := ha.pe) (hb := hb.pe) (hs := hs) (hs2 := hs2)⟩
end
section
variable {X : Cx} {a e o : Expr} {es : List Expr} {f g : DE} {ga : DA} {pos p p1 p2 : Pos}
theorem qle_join {z : Str} {jc : Nat} {apos cpos : Pos} (he : QE X e (LE X.K g)) (hbase : attributeBase (.Constant (.str z) jc p) "join" X.env (eval (.Constant (.str z) jc p) X.env) = eval (.Constant (.str z) jc p) X.env := by rfl) (hfew : ((backTo cpos (starEach [e] X.env)).all (fun x => !x.1) && (backToKw cpos (keywordEach [] X.env)).all (fun x => x.1.isSome) && decide ([e].length + ([] : List Keyword).length + (if ([] : List Keyword).isEmpty then 0 else 1) < 30)) = true := by rfl) (hline : (apos.endLine == cpos.line) = true := by rfl) (hs : starEach [e] X.env = (false, eval e X.env) :: starEach [] X.env := by rfl) : QE X (.Call (.Attribute (.Constant (.str z) jc p) "join" apos) [e] [] cpos) (LE X.K (dJoin z g)) := ⟨le_join (he := he.pe) (hbase := hbase) (hfew := hfew) (hline := hline) (hs := hs)⟩
end
section
variable {X : Cx} {a e o : Expr} {es : List Expr} {f g : DE} {ga : DA} {pos p p1 p2 : Pos}
theorem qle_app {apos cpos : Pos} (ho : QE X o (LE X.K f)) (he : QE X e (LE X.K g)) (hbase : attributeBase o "append" X.env (eval o X.env) = eval o X.env := by rfl) (hfew : ((backTo cpos (starEach [e] X.env)).all (fun x => !x.1) && (backToKw cpos (keywordEach [] X.env)).all (fun x => x.1.isSome) && decide ([e].length + ([] : List Keyword).length + (if ([] : List Keyword).isEmpty then 0 else 1) < 30)) = true := by rfl) (hline : (apos.endLine == cpos.line) = true := by rfl) (hs : starEach [e] X.env = (false, eval e X.env) :: starEach [] X.env := by rfl) : QE X (.Call (.Attribute o "append" apos) [e] [] cpos) (LE X.K (dApp f g)) := ⟨le_app (ho := ho.pe) (he := he.pe) (hbase := hbase) (hfew := hfew) (hline := hline) (hs := hs)⟩
end
section
variable {X : Cx} {a e o : Expr} {es : List Expr} {f g : DE} {ga : DA} {pos p p1 p2 : Pos}
theorem qle_slX {lo hi : Option Expr} {tl th : DO} (ha : QE X a (LE X.K f)) (hl : QO X lo (LO X.K tl)) (hu : QO X hi (LO X.K th)) : QE X (.Subscript a (.Slice lo hi none p2) pos) (LE X.K (dSlX f tl th)) := ⟨le_slX (ha := ha.pe) (hl := hl.pe) (hu := hu.pe)⟩
end
section
variable {X : Cx} {a : Expr} {elts : List Expr} {j : Nat} {f : DE} {pos p p2 : Pos}
theorem qli_enum (hg : Gl X "enumerate") (hm : X.mg "enumerate" = none) (ha : QE X a (LE X.K f)) (hs : starEach [a] X.env = [(false, eval a X.env)] := by rfl) : QI X (.Tuple elts j p2) (.Call (.Name "enumerate" p) [a] [] pos) (LI X.K (dEnumI f)) := ⟨li_enum (hg := hg) (hm := hm) (ha := ha.pe) (hs := hs)⟩
end
section
variable {X : Cx} {e : Expr} {f : DE}
theorem qle_frz (he : QE X e (LE X.K f)) : QE X e (LE X.K (dFrz f)) := ⟨le_frz (he := he.pe)⟩
end
section
variable {X : Cx} {a b c : Expr} {f g h : DE} {pos : Pos}
theorem qle_chain {op op' : CmpOp} {r r' : D2} (ho : OpD X (compareOp op) r) (ho' : OpD X (compareOp op') r') (ha : QE X a (LE X.K f)) (hb : QE X b (LE X.K g)) (hc : QE X c (LE X.K h)) (hm : lastMarks [op, op'] [b, c] = false := by with_unfolding_all rfl) : QE X (.Compare a [op, op'] [b, c] pos) (LE X.K (dChain r r' f g h)) := ⟨le_chain (ho := ho) (ho' := ho') (ha := ha.pe) (hb := hb.pe) (hc := hc.pe) (hm := hm)⟩
end
section
variable {X : Cx} {a b c : Expr} {f g h : DE} {pos : Pos}
theorem qlt_chain {op op' : CmpOp} {r r' : D2} (ho : OpD X (compareOp op) r) (ho' : OpD X (compareOp op') r') (ha : QE X a (LE X.K f)) (hb : QE X b (LE X.K g)) (hc : QE X c (LE X.K h)) (hm : lastMarks [op, op'] [b, c] = false := by with_unfolding_all rfl) : QT X (.Compare a [op, op'] [b, c] pos) (LT X.K (dTst (dChain r r' f g h))) := ⟨lt_chain (ho := ho) (ho' := ho') (ha := ha.pe) (hb := hb.pe) (hc := hc.pe) (hm := hm)⟩
end
section
variable {X : Cx} {a b c : Expr} {f g h : DE} {pos : Pos}
theorem qle_gint {x : Str} {i : Int} {t : Tok} (hg : Gl X x) (hm : X.mg x = some (.int i t)) (hd : (x == ("__debug__" : Str)) = false := by decide) : QE X (.Name x pos) (LE X.K (dCon (.int i))) := ⟨le_gint (hg := hg) (hm := hm) (hd := hd)⟩
end
section
variable {X : Cx} {a b c : Expr} {f g h : DE} {pos : Pos}
theorem qle_gstr {x : Str} {z : Str} {t : Tok} (hg : Gl X x) (hm : X.mg x = some (.str z t)) (hd : (x == ("__debug__" : Str)) = false := by decide) : QE X (.Name x pos) (LE X.K (dCon (.str z))) := ⟨le_gstr (hg := hg) (hm := hm) (hd := hd)⟩
end
section
variable {X : Cx} {a : Expr} {tg : Expr} {f : DE}
theorem qli_str (ha : QE X a (LE X.K f)) : QI X tg a (LI X.K (dStrI f)) := ⟨li_str (ha := ha.pe)⟩
end
section
variable {X : Cx} {elt tg : Expr} {ifs : List Expr} {scope : Scope} {NC : List Str} {g : DG} {t : DT} {f : DE} {pos npos : Pos}
theorem qle_lcRB (i : Nat) {x : Str} {NC : List Str} {src : List (Option Nat)} (hc : X.calm = true) (hg : ∀ cl C s2 H2 pins fp, QG (cyOf X scope cl C NC s2 H2 pins fp) tg (LG X.K g)) (ht : ∀ cl C s2 H2 pins fp, QF (cyOf X scope cl C NC s2 H2 pins fp) ifs (LT X.K t)) (he : ∀ cl C s2 H2 pins fp, QE (cyOf X scope cl C NC s2 H2 pins fp) elt (LE X.K f)) (hNC : NC = ncT [tg] src X.N := by rfl) (hN : X.N[i]? = some x := by rfl) (hv : Vis X.env.scope x := by first | exact Or.inl rfl | exact Or.inr (Or.inl rfl) | exact Or.inr (Or.inr rfl)) (hd : (x == ("__debug__" : Str)) = false := by decide) (hcd : (x == ("__classdict__" : Str)) = false := by decide) (hkind : scope.kind = .function := by rfl) (hB : chkB scope X.env = true := by rfl) (hS : chkS X.N scope X.env NC src = true := by rfl) (hs : ∀ v, foldedSetIterable (.Name x npos) X.env v = pure v := by intro _; rfl) : QE X (.ListComp elt [⟨tg, .Name x npos, ifs, 0⟩] scope pos) (LE X.K (dLCR i src g t f)) := ⟨le_lcRB (i := i) (NC := NC) (src := src) (hc := hc) (hg := fun cl C s2 H2 pins fp => (hg cl C s2 H2 pins fp).pe) (ht := fun cl C s2 H2 pins fp => (ht cl C s2 H2 pins fp).pe) (he := fun cl C s2 H2 pins fp => (he cl C s2 H2 pins fp).pe) (hN := hN) (hv := hv) (hd := hd) (hcd := hcd) (hkind := hkind) (hB := hB) (hS := hS) (hs := hs)⟩
end
section
variable {X : Cx} {o e : Expr} {f g : DE} {apos cpos : Pos}
theorem qle_strM {name : Str} {F : Str → Str → Str} (hM : StrM name F) (ho : QE X o (LE X.K f)) (he : QE X e (LE X.K g)) (hbase : attributeBase o name X.env (eval o X.env) = eval o X.env := by rfl) (hs : starEach [e] X.env = [(false, eval e X.env)] := by rfl) (hline : (apos.endLine == cpos.line) = true := by rfl) : QE X (.Call (.Attribute o name apos) [e] [] cpos) (LE X.K (dStrM F f g)) := ⟨le_strM (hM := hM) (ho := ho.pe) (he := he.pe) (hbase := hbase) (hs := hs) (hline := hline)⟩
end
section
variable {X : Cx} {o e : Expr} {f g : DE} {apos cpos : Pos}
theorem qle_sidx (ho : QE X o (LE X.K f)) (he : QE X e (LE X.K g)) (hbase : attributeBase o "index" X.env (eval o X.env) = eval o X.env := by rfl) (hs : starEach [e] X.env = [(false, eval e X.env)] := by rfl) (hline : (apos.endLine == cpos.line) = true := by rfl) : QE X (.Call (.Attribute o "index" apos) [e] [] cpos) (LE X.K (dSIdx f g)) := ⟨le_sidx (ho := ho.pe) (he := he.pe) (hbase := hbase) (hs := hs) (hline := hline)⟩
end
section
variable {X : Cx} {o e : Expr} {f g : DE} {apos cpos : Pos}
theorem qle_partn (ho : QE X o (LE X.K f)) (he : QE X e (LE X.K g)) (hbase : attributeBase o "partition" X.env (eval o X.env) = eval o X.env := by rfl) (hs : starEach [e] X.env = [(false, eval e X.env)] := by rfl) (hline : (apos.endLine == cpos.line) = true := by rfl) : QE X (.Call (.Attribute o "partition" apos) [e] [] cpos) (LE X.K (dPartn f g)) := ⟨le_partn (ho := ho.pe) (he := he.pe) (hbase := hbase) (hs := hs) (hline := hline)⟩
end
section
variable {X : Cx} {o e : Expr} {f g : DE} {apos cpos : Pos}
theorem qle_split (ho : QE X o (LE X.K f)) (he : QE X e (LE X.K g)) (hbase : attributeBase o "split" X.env (eval o X.env) = eval o X.env := by rfl) (hs : starEach [e] X.env = [(false, eval e X.env)] := by rfl) (hline : (apos.endLine == cpos.line) = true := by rfl) : QE X (.Call (.Attribute o "split" apos) [e] [] cpos) (LE X.K (dSplit f g)) := ⟨le_split (ho := ho.pe) (he := he.pe) (hbase := hbase) (hs := hs) (hline := hline)⟩
end
section
variable {X : Cx} {e : Expr} {f : DE} {pos : Pos}
theorem qle_fv (he : QE X e (LE X.K f)) : QE X (.FormattedValue e (-1) none pos) (LE X.K (dFv f)) := ⟨le_fv (he := he.pe)⟩
end
section
variable {X : Cx} {e : Expr} {f : DE} {pos : Pos}
theorem qlj_nil  : QJ X [] [] := ⟨lj_nil ⟩
end
section
variable {X : Cx} {e : Expr} {f : DE} {pos : Pos}
theorem qlj_cons {es : List Expr} {fs : List DE} (h : QE X e (LE X.K f)) (r : QJ X es fs) : QJ X (e :: es) (f :: fs) := ⟨lj_cons (h := h.pe) (r := r.pe)⟩
end
section
variable {X : Cx} {e : Expr} {f : DE} {pos : Pos}
theorem qle_js {e2 : Expr} {es : List Expr} {fs : List DE} (h : QJ X (e :: e2 :: es) fs) : QE X (.JoinedStr (e :: e2 :: es) pos) (LE X.K (dJs Str.empty fs)) := ⟨le_js (h := h.pe)⟩
end
section
variable {X : Cx} {e : Expr} {f : DE} {pos : Pos}
theorem qle_js1 (h : QE X e (LE X.K f)) : QE X (.JoinedStr [e] pos) (LE X.K f) := ⟨le_js1 (h := h.pe)⟩
end
section
variable {X : Cx} {st : Stmt} {o e : Expr} {f g : DE} {p apos cpos : Pos}
theorem qls_never  : QS X st (LS X.K dNevS) := ⟨ls_never ⟩
end
section
variable {X : Cx} {o e i : Expr} {f g h : DE}
theorem qle_ins {apos cpos : Pos} (ho : QE X o (LE X.K f)) (hi : QE X i (LE X.K h)) (he : QE X e (LE X.K g)) (hbase : attributeBase o "insert" X.env (eval o X.env) = eval o X.env := by rfl) (hfew : ((backTo cpos (starEach [i, e] X.env)).all (fun x => !x.1) && (backToKw cpos (keywordEach [] X.env)).all (fun x => x.1.isSome) && decide ([i, e].length + ([] : List Keyword).length + (if ([] : List Keyword).isEmpty then 0 else 1) < 30)) = true := by rfl) (hline : (apos.endLine == cpos.line) = true := by rfl) (hs : starEach [i, e] X.env = (false, eval i X.env) :: starEach [e] X.env := by rfl) (hs2 : starEach [e] X.env = (false, eval e X.env) :: starEach [] X.env := by rfl) (hpl : (backTo cpos (starEach [e] X.env)).any (·.1) = false := by rfl) : QE X (.Call (.Attribute o "insert" apos) [i, e] [] cpos) (LE X.K (dIns f h g)) := ⟨le_ins (ho := ho.pe) (hi := hi.pe) (he := he.pe) (hbase := hbase) (hfew := hfew) (hline := hline) (hs := hs) (hs2 := hs2) (hpl := hpl)⟩
end
section
variable {X : Cx} {tg iter tg2 iter2 elt : Expr} {ifs ifs2 : List Expr} {scope : Scope} {fi fi2 : DI} {g g2 : DG} {t t2 : DT} {f : DE} {pos : Pos}
theorem qls_lc2B (i : Nat) {y : Str} {py spos : Pos} {NC : List Str} {src : List (Option Nat)} (hc : X.calm = true) (hN : X.N.Nodup) (hi : QI X tg iter (LI X.K fi)) (hg : ∀ cl C s2 H2 pins fp, QG (cyOf X scope cl C NC s2 H2 pins fp) tg (LG X.K g)) (ht : ∀ cl C s2 H2 pins fp, QF (cyOf X scope cl C NC s2 H2 pins fp) ifs (LT X.K t)) (hi2 : ∀ cl C s2 H2 pins fp, QI (cyOf X scope cl C NC s2 H2 pins fp) tg2 iter2 (LI X.K fi2)) (hg2 : ∀ cl C s2 H2 pins fp, QG (cyOf X scope cl C NC s2 H2 pins fp) tg2 (LG X.K g2)) (ht2 : ∀ cl C s2 H2 pins fp, QF (cyOf X scope cl C NC s2 H2 pins fp) ifs2 (LT X.K t2)) (he : ∀ cl C s2 H2 pins fp, QE (cyOf X scope cl C NC s2 H2 pins fp) elt (LE X.K f)) (hNC : NC = ncT [tg, tg2] src X.N := by rfl) (hkind : scope.kind = .function := by rfl) (hB : chkB scope X.env = true := by rfl) (hS : chkS X.N scope X.env NC src = true := by rfl) (hs2 : ∀ cl C x, foldedSetIterable iter2 (compEnvC scope cl C X.env) x = pure x := by intro _ _ _; rfl) (hii : X.N[i]? = some y := by rfl) (hx : Loc X.env.scope y := by first | exact Or.inl rfl | exact Or.inr rfl) (hf : X.fn y = true ∨ X.env.scope.names.lookup y = some .local := by first | exact .inl rfl | exact .inr rfl) (hsw : swapsWith (.ListComp elt [⟨tg, iter, ifs, 0⟩, ⟨tg2, iter2, ifs2, 0⟩] scope pos) (some (.Name y py)) spos.line X.env = pure true := by rfl) (hs : ∀ x, foldedSetIterable iter X.env x = pure x := by intro _; rfl) : QS X (.Assign [.Name y py] (.ListComp elt [⟨tg, iter, ifs, 0⟩, ⟨tg2, iter2, ifs2, 0⟩] scope pos) spos) (LS X.K (dSet i (dLC2 src fi g t fi2 g2 t2 f))) := ⟨ls_lc2B (i := i) (NC := NC) (src := src) (hc := hc) (hN := hN) (hi := hi.pe) (hg := fun cl C s2 H2 pins fp => (hg cl C s2 H2 pins fp).pe) (ht := fun cl C s2 H2 pins fp => (ht cl C s2 H2 pins fp).pe) (hi2 := fun cl C s2 H2 pins fp => (hi2 cl C s2 H2 pins fp).pe) (hg2 := fun cl C s2 H2 pins fp => (hg2 cl C s2 H2 pins fp).pe) (ht2 := fun cl C s2 H2 pins fp => (ht2 cl C s2 H2 pins fp).pe) (he := fun cl C s2 H2 pins fp => (he cl C s2 H2 pins fp).pe) (hkind := hkind) (hB := hB) (hS := hS) (hs2 := hs2) (hii := hii) (hx := hx) (hf := hf) (hsw := hsw) (hs := hs)⟩
end
section
variable {X : Cx} {o e : Expr} {f g : DE}
theorem qle_idxD {apos cpos : Pos} (hu : X.A.units + 100 < cLine) (ho : QE X o (LE X.K f)) (he : QE X e (LE X.K g)) (hbase : attributeBase o "index" X.env (eval o X.env) = eval o X.env := by rfl) (hfew : ((backTo cpos (starEach [e] X.env)).all (fun x => !x.1) && (backToKw cpos (keywordEach [] X.env)).all (fun x => x.1.isSome) && decide ([e].length + ([] : List Keyword).length + (if ([] : List Keyword).isEmpty then 0 else 1) < 30)) = true := by rfl) (hline : (apos.endLine == cpos.line) = true := by rfl) (hs : starEach [e] X.env = (false, eval e X.env) :: starEach [] X.env := by rfl) : QE X (.Call (.Attribute o "index" apos) [e] [] cpos) (LE X.K (dIdxD f g)) := ⟨le_idxD (hu := hu) (ho := ho.pe) (he := he.pe) (hbase := hbase) (hfew := hfew) (hline := hline) (hs := hs)⟩
end
section
variable {X : Cx} {o e : Expr} {f fo : DE} {lo hi : Option Expr} {tl th : DO} {tpos p2 pos : Pos}
theorem qls_slp (he : QE X e (LE X.K f)) (ho : QE X o (LE X.K fo)) (hl : QO X lo (LO X.K tl)) (hu : QO X hi (LO X.K th)) (ha : ∀ v, assign (.Subscript o (.Slice lo hi none p2) tpos) X.env v = (do
   let ov ← holding [v] (eval o X.env)
   let iv ← holding [v, ov] (eval (.Slice lo hi none p2) X.env)
   standAt tpos
   holding [v, ov, iv] (setItem ov iv v)
   release [iv, v, ov] []) := by intro _; rfl) (hs : swapsWithSole [.Subscript o (.Slice lo hi none p2) tpos] e pos.line X.env = pure false := by rfl) (hw : swappedStores [.Subscript o (.Slice lo hi none p2) tpos] e X.env = pure none := by rfl) (h1 : (assignEach [.Subscript o (.Slice lo hi none p2) tpos] X.env).map (·.2) = [assign (.Subscript o (.Slice lo hi none p2) tpos) X.env] := by rfl) : QS X (.Assign [.Subscript o (.Slice lo hi none p2) tpos] e pos) (LS X.K (dSlp fo tl th f)) := ⟨ls_slp (he := he.pe) (ho := ho.pe) (hl := hl.pe) (hu := hu.pe) (ha := ha) (hs := hs) (hw := hw) (h1 := h1)⟩
end
section
variable {X : Cx} {es : List Expr} {e : Expr} {g : DA} {f : DE} {pos : Pos}
theorem qle_tupC {j : Nat} (h : QA X es (LA X.K g)) : QE X (.Tuple es j pos) (LE X.K (dTupC g)) := ⟨le_tupC (h := h.pe)⟩
end
section
variable {X : Cx} {es : List Expr} {e : Expr} {g : DA} {f : DE} {pos : Pos}
theorem qle_frzT (he : QE X e (LE X.K f)) : QE X e (LE X.K (dFrzT f)) := ⟨le_frzT (he := he.pe)⟩
end
section
variable {X : Cx} {a e : Expr} {f g : DE} {p p1 p2 pos : Pos}
theorem qle_isiX {T : Str} {c : String} (hg : Gl X "isinstance") (hm : X.mg "isinstance" = none) (hgT : Gl X T) (hmT : X.mg T = none) (hv : bootBuiltins T = some (.type c)) (hc : c = "int" ∨ c = "bool" ∨ c = "str" ∨ c = "tuple" ∨ c = "list") (ha : QE X a (LE X.K f)) (hn : T ≠ "__name__" := by decide) (hd : (T == ("__debug__" : Str)) = false := by decide) (he : starEach [a, .Name T p2] X.env = (false, eval a X.env) :: starEach [.Name T p2] X.env := by rfl) : QE X (.Call (.Name "isinstance" p1) [a, .Name T p2] [] pos) (LE X.K (dIsiX f c)) := ⟨le_isiX (hg := hg) (hm := hm) (hgT := hgT) (hmT := hmT) (hv := hv) (hc := hc) (ha := ha.pe) (hn := hn) (hd := hd) (he := he)⟩
end
section
variable {X : Cx} {a e : Expr} {f g : DE} {p p1 p2 pos : Pos}
theorem qle_joinX {z : Str} {jc : Nat} {apos cpos : Pos} (he : QE X e (LE X.K g)) (hbase : attributeBase (.Constant (.str z) jc p) "join" X.env (eval (.Constant (.str z) jc p) X.env) = eval (.Constant (.str z) jc p) X.env := by rfl) (hfew : ((backTo cpos (starEach [e] X.env)).all (fun x => !x.1) && (backToKw cpos (keywordEach [] X.env)).all (fun x => x.1.isSome) && decide ([e].length + ([] : List Keyword).length + (if ([] : List Keyword).isEmpty then 0 else 1) < 30)) = true := by rfl) (hline : (apos.endLine == cpos.line) = true := by rfl) (hs : starEach [e] X.env = (false, eval e X.env) :: starEach [] X.env := by rfl) : QE X (.Call (.Attribute (.Constant (.str z) jc p) "join" apos) [e] [] cpos) (LE X.K (dJoinX z g)) := ⟨le_joinX (he := he.pe) (hbase := hbase) (hfew := hfew) (hline := hline) (hs := hs)⟩
end
section
variable {P : Program} {w : World} {K : PySem.W.Frag} {mg : Str → Option Value} {base : Heap}
theorem qfn_body {x qual : Str} {st : Stmt} {fa : Addr} {fd : FuncData} {N ps : List Str} {k : Nat} {sp : DC} {body : DS} (F : Fun K x qual st fa fd) (S : FnScope N ps (defScope st))
  (hb : ∀ (cdv : Value) (A : Around) (outer : List Env) (s : Shared) (H : Hp) (E : XK), Room k (A.deeper (envOfC qual (defScope st) s.heap.objs.size fa cdv)) → QSs (cxOf CX0 P w K mg base N qual (defScope st) fa cdv A outer s H E).nox (defBody st) (LS K body))
  (hv : ∀ ds m R, ds.length = ps.length → sp ds m R → body { nx := fun _ m => R (.dat .none) m, rt := R } (start2 N ds) m) : FnOk P w K mg base CX0 (k + 1) fa fd ps (LSp K ps.length sp) := fn_body F S (fun cdv A outer s H E hr => (hb cdv A outer s H E hr).pe) hv
end
end DL
namespace DL
open PySem PySem.Spec PyProof.Rows L2
section
variable {P : Program} {w : World} {K : PySem.W.Frag} {mg : Str → Option Value} {base : Heap}
def Df (K : PySem.W.Frag) (mg : Str → Option Value) (nm : Str) (st : Stmt) (a : Addr) : Prop := ∃ fd, Fun K nm nm st a fd ∧ mg nm = some (.ref a)
structure Cal (P : Program) (w : World) (K : PySem.W.Frag) (mg : Str → Option Value) (base : Heap) (nm : Str) (st : Stmt) (a : Addr) (ps : List Str) (k : Nat) (sp : DC) : Prop where
 ex : ∃ fd, Fun K nm nm st a fd ∧ Binds K fd ps [] ∧ mg nm = some (.ref a) ∧ FnOk P w K mg base CX0 k a fd ps (LSp K ps.length sp)
abbrev VcT (ps N : List Str) (sp : DC) (b : DS) : Prop := ∀ ds m R, ds.length = ps.length → sp ds m R → b { nx := fun _ m => R (.dat .none) m, rt := R } (start2 N ds) m
abbrev BndT (nm : Str) (st : Stmt) (ps : List Str) : Prop := ∀ (kV doc pm : Value) (an : Option Addr) (cdv ct : Value) (us : List Value), us.length = ps.length → bindArgs (PySem.W.fnOf nm nm (defArgs st) (defBody st) (defScope st) .none kV doc pm an cdv ct) ⟨us, []⟩ = pure (ps.zip us)
theorem cal_mk {nm : Str} {st : Stmt} {a : Addr} {N ps : List Str} {k : Nat} {sp : DC} {body : DS} (D : Df K mg nm st a) (hb : BndT nm st ps) (S : FnScope N ps (defScope st))
  (hq : ∀ (cdv : Value) (A : Around) (outer : List Env) (s : Shared) (H : Hp) (E : XK), Room k (A.deeper (envOfC nm (defScope st) s.heap.objs.size a cdv)) → N.Nodup → QSs (cxOf CX0 P w K mg base N nm (defScope st) a cdv A outer s H E).nox (defBody st) (LS K body))
  (hv : VcT ps N sp body) : Cal P w K mg base nm st a ps (k + 1) sp := by
 obtain ⟨fd, F, M⟩ := D; exact ⟨⟨fd, F, F.binds hb, M, qfn_body F S (fun cdv A outer s H E hr => hq cdv A outer s H E hr S.nd) hv⟩⟩
theorem us_0 {fd : FuncData} {ps : List Str} (h : bindArgs fd { pos := [] } = pure (ps.zip [])) : ∀ us : List Value, us.length = 0 → bindArgs fd { pos := us } = pure (ps.zip us)
 | [], _ => h
theorem us_1 {fd : FuncData} {ps : List Str} (h : ∀ a0, bindArgs fd { pos := [a0] } = pure (ps.zip [a0])) : ∀ us : List Value, us.length = 1 → bindArgs fd { pos := us } = pure (ps.zip us)
 | [a0], _ => h a0
theorem us_2 {fd : FuncData} {ps : List Str} (h : ∀ a0 a1, bindArgs fd { pos := [a0, a1] } = pure (ps.zip [a0, a1])) : ∀ us : List Value, us.length = 2 → bindArgs fd { pos := us } = pure (ps.zip us)
 | [a0, a1], _ => h a0 a1
theorem us_3 {fd : FuncData} {ps : List Str} (h : ∀ a0 a1 a2, bindArgs fd { pos := [a0, a1, a2] } = pure (ps.zip [a0, a1, a2])) : ∀ us : List Value, us.length = 3 → bindArgs fd { pos := us } = pure (ps.zip us)
 | [a0, a1, a2], _ => h a0 a1 a2
theorem us_4 {fd : FuncData} {ps : List Str} (h : ∀ a0 a1 a2 a3, bindArgs fd { pos := [a0, a1, a2, a3] } = pure (ps.zip [a0, a1, a2, a3])) : ∀ us : List Value, us.length = 4 → bindArgs fd { pos := us } = pure (ps.zip us)
 | [a0, a1, a2, a3], _ => h a0 a1 a2 a3
theorem us_5 {fd : FuncData} {ps : List Str} (h : ∀ a0 a1 a2 a3 a4, bindArgs fd { pos := [a0, a1, a2, a3, a4] } = pure (ps.zip [a0, a1, a2, a3, a4])) : ∀ us : List Value, us.length = 5 → bindArgs fd { pos := us } = pure (ps.zip us)
 | [a0, a1, a2, a3, a4], _ => h a0 a1 a2 a3 a4
theorem us_6 {fd : FuncData} {ps : List Str} (h : ∀ a0 a1 a2 a3 a4 a5, bindArgs fd { pos := [a0, a1, a2, a3, a4, a5] } = pure (ps.zip [a0, a1, a2, a3, a4, a5])) : ∀ us : List Value, us.length = 6 → bindArgs fd { pos := us } = pure (ps.zip us)
 | [a0, a1, a2, a3, a4, a5], _ => h a0 a1 a2 a3 a4 a5
end
section
variable {X : Cx} {pos p : Pos} {nm : Str} {st : Stmt} {a : Addr} {ps : List Str} {k : Nat} {sp : DC}
theorem qca {n : Nat} {e : Expr} {es : List Expr} {ga : DA} (C : Cal X.prog X.w X.K X.mg X.base nm st a ps k sp) (hr : Room k X.A) (hx : X.xe = fun _ _ => False) (ha : QA X (e :: es) (LA X.K ga)) (hg : Gl X nm := by rfl) (hdb : (nm == ("__debug__" : Str)) = false := by decide) (he : starEach (e :: es) X.env = (false, eval e X.env) :: starEach es X.env := by rfl) (hpl : (backTo pos (starEach es X.env)).any (·.1) = false := by rfl) (hn : ps.length = n := by rfl) :
  QE X (.Call (.Name nm p) (e :: es) [] pos) (LE X.K (dCall n sp ga)) := by
 subst hn; obtain ⟨fd, F, B, M, C⟩ := C.ex; exact qle_call C hr M F.kp B hx ha hg hdb he hpl
end
section
variable {K : PySem.W.Frag} {h : Heap} {mg : Str → Option Value}
def DefIn (K : PySem.W.Frag) (d : Str × Stmt × Addr) : Prop := PySem.W.nsIn K mainGlobals d.1 = some (some (.ref d.2.2)) ∧ ∃ fd, Fun K d.1 d.1 d.2.1 d.2.2 fd
theorem di {nm : Str} {st : Stmt} {f : Addr} {oc : Value} {od an : Option Addr} {osl : Array (Option Value)} {kV doc pm cdv ct : Value} (n : PySem.W.nsIn K mainGlobals nm = some (some (.ref f))) (l : K.lookup f = some ⟨oc, od, .func (PySem.W.fnOf nm nm (defArgs st) (defBody st) (defScope st) .none kV doc pm an cdv ct), osl⟩)
  (c : PySem.W.codeIn K cdv nm = true) (k : PySem.W.keepIn K (.ref f) = true) : DefIn K (nm, st, f) := ⟨n, _, fun_mk l c k⟩
theorem law_ex {P : Program} {w : World} {st : Stmt} {a fa : Addr} {y : Str} {k : Nat} {sp : DC} (D : Df K mg "law" st a) (hfa : mg "law" = some (.ref fa)) (hb : BndT "law" st [y]) (C : ∀ base : Heap, Cal P w K mg base "law" st a [y] k sp) :
  ∃ fd : FuncData, (∀ (s : Shared) (v : Value), BindsTo s fd ⟨[v], []⟩ [(y, v)]) ∧ ∀ base : Heap, K.In base → base.Ns mainGlobals mg → FnOk P w K mg base CX0 k fa fd [y] (LSp K 1 sp) := by
 obtain ⟨fd, F, M⟩ := D; have e := hfa.symm.trans M
 cases e
 have B : ∀ (s : Shared) (v : Value), BindsTo s fd ⟨[v], []⟩ [(y, v)] := fun s v => by
  obtain ⟨oc, od, kV, doc, pm, an, cdv, ct, osl, rfl, lk, hcd⟩ := F.ex; exact .of_eq (hb kV doc pm an cdv ct [v] rfl)
 refine ⟨fd, B, fun base _ _ => ?_⟩; obtain ⟨fd', F', _, _, C⟩ := (C base).ex; obtain ⟨oc, od, kV, doc, pm, an, cdv, ct, osl, rfl, lk, hcd⟩ := F.ex; obtain ⟨oc', od', kV', doc', pm', an', cdv', ct', osl', rfl, lk', hcd'⟩ := F'.ex; rw [lk] at lk'
 cases lk'
 exact C
end
end DL
namespace DL
open PySem PySem.Spec PyProof.Rows L2
structure En (kk : Params → PySem.W.Frag) (P : Program) (w : World) (mg : Str → Option Value) (base : Heap) : Prop where
 x : ∃ h : Heap, (kk w.params).In h ∧ h.Ns mainGlobals mg
theorem nd_of {l : List Str} (h : decide l.Nodup = true) : l.Nodup := of_decide_eq_true h
section
variable {kk : Params → PySem.W.Frag} {P : Program} {w : World} {mg : Str → Option Value} {base : Heap}
theorem En.m (E : En kk P w mg base) {x : Str} {v : Value} (h : PySem.W.nsIn (kk w.params) mainGlobals x = some (some v)) : mg x = some v := let ⟨_, X, G⟩ := E.x; PySem.W.mg_of X G h
theorem En.z (E : En kk P w mg base) {x : Str} (h : PySem.W.nsIn (kk w.params) mainGlobals x = some none) : mg x = none := let ⟨_, X, G⟩ := E.x; PySem.W.mg_none_of X G h
theorem En.d (E : En kk P w mg base) {nm : Str} {st : Stmt} {f : Addr} (d : DefIn (kk w.params) (nm, st, f)) : Df (kk w.params) mg nm st f := let ⟨n, fd, F⟩ := d; ⟨fd, F, E.m n⟩
abbrev BodyT (kk : Params → PySem.W.Frag) (P : Program) (w : World) (mg : Str → Option Value) (base : Heap) (k : Nat) (N : List Str) (nm : Str) (st : Stmt) (a : Addr) (body : DS) : Prop := ∀ (cdv : Value) (A : Around) (outer : List Env) (s : Shared) (H : Hp) (E : XK), Room k (A.deeper (envOfC nm (defScope st) s.heap.objs.size a cdv)) → N.Nodup → QSs (cxOf CX0 P w (kk w.params) mg base N nm (defScope st) a cdv A outer s H E).nox (defBody st) (LS (kk w.params) body)
theorem calE (E : En kk P w mg base) {k : Nat} {N : List Str} {body : DS} {nm : Str} {st : Stmt} {a : Addr} {ps : List Str} {sp : DC} (hv : VcT ps N sp body) (hq : BodyT kk P w mg base k N nm st a body)
  (D : DefIn (kk w.params) (nm, st, a) := by exact di (by kernel_rfl) rfl (by kernel_rfl) (by kernel_rfl))
  (hb : BndT nm st ps := by first | exact fun _ _ _ _ _ _ => us_1 (by intros; rfl) | exact fun _ _ _ _ _ _ => us_2 (by intros; rfl) | exact fun _ _ _ _ _ _ => us_3 (by intros; rfl) | exact fun _ _ _ _ _ _ => us_4 (by intros; rfl) | exact fun _ _ _ _ _ _ => us_5 (by intros; rfl) | exact fun _ _ _ _ _ _ => us_6 (by intros; rfl) | exact fun _ _ _ _ _ _ => us_0 (by intros; rfl))
  (S : FnScope N ps (defScope st) := by exact ⟨rfl, rfl, rfl, by decide +kernel, rfl, by decide +kernel, by decide +kernel⟩) : Cal P w (kk w.params) mg base nm st a ps (k + 1) sp := cal_mk (E.d D) hb S hq hv
end
section
variable {X : Cx} {pos p apos : Pos} {nm N qual : Str} {st : Stmt} {a C : Addr} {ps : List Str} {k j n : Nat} {sp : DC} {e o : Expr} {es : List Expr} {ga : DA} {fo : DE}
theorem qcc (C : Cal X.prog X.w X.K X.mg X.base nm st a ps k sp) (hr : Room j X.A) (ha : QA X (e :: es) (LA X.K ga)) (hk : k ≤ j := by first | decide | omega) (hx : X.xe = fun _ _ => False := by rfl) (hg : Gl X nm := by rfl) (hdb : (nm == ("__debug__" : Str)) = false := by decide) (he : starEach (e :: es) X.env = (false, eval e X.env) :: starEach es X.env := by rfl) (hpl : (backTo pos (starEach es X.env)).any (·.1) = false := by rfl) (hn : ps.length = n := by rfl) :
  QE X (.Call (.Name nm p) (e :: es) [] pos) (LE X.K (dCall n sp ga)) := qca C (hr.mono hk) hx ha hg hdb he hpl hn
end
end DL
set_option maxHeartbeats 1000000
namespace K01
open PySem PySem.Spec PyProof.Rows L2 DL
theorem gcd_fmod (a b : Int) : Int.gcd b (a.fmod b) = Int.gcd a b := by
 have h : a.fmod b = a - b * a.fdiv b := by
  have := Int.mul_fdiv_add_fmod a b
  omega
 rw [h]; have h2 : a - b * a.fdiv b = a + b * (-(a.fdiv b)) := by rw [Int.mul_neg]; omega
 rw [h2, Int.gcd_add_mul_left_right, Int.gcd_comm]
theorem fmod_lt (a b : Int) (h : b ≠ 0) : (a.fmod b).natAbs < b.natAbs := by
 rcases Int.lt_or_gt_of_ne h with h | h
 ·have h1 := Int.neg_fmod_neg a b
  have h2 := Int.fmod_lt_of_pos (-a) (show 0 < -b by omega)
  have h3 := Int.fmod_nonneg_of_pos (-a) (show 0 < -b by omega)
  omega
 ·have h2 := Int.fmod_lt_of_pos a h
  have h3 := Int.fmod_nonneg_of_pos a h
  omega
theorem log2_lt {n k : Nat} (h : n < 2 ^ k) (hk : 0 < k) : n.log2 < k := by
 by_cases hn : n = 0
 ·subst hn; simpa using hk
 ·exact (Nat.log2_lt hn).mpr h
def Bd (n : Nat) (i : Int) : Prop := i.natAbs < 2 ^ n
theorem Bd.mono {m n : Nat} {i : Int} (h : Bd m i) (hl : m ≤ n) : Bd n i := Nat.lt_of_lt_of_le h (Nat.pow_le_pow_right (by decide) hl)
theorem Bd.mul {m n : Nat} {i j : Int} (h : Bd m i) (g : Bd n j) : Bd (m + n) (i * j) := by
 unfold Bd at *; rw [Int.natAbs_mul, Nat.pow_add]; exact Nat.mul_lt_mul'' h g
theorem Bd.add {n : Nat} {i j : Int} (h : Bd n i) (g : Bd n j) : Bd (n + 1) (i + j) := by
 unfold Bd at *; have := Int.natAbs_add_le i j
 rw [Nat.pow_succ]; omega
theorem Bd.neg {n : Nat} {i : Int} (h : Bd n i) : Bd n (-i) := by
 unfold Bd at *; rw [Int.natAbs_neg]; exact h
theorem Bd.sub {n : Nat} {i j : Int} (h : Bd n i) (g : Bd n j) : Bd (n + 1) (i - j) := by
 rw [Int.sub_eq_add_neg]; exact h.add g.neg
theorem Bd.log {n : Nat} {i : Int} (h : Bd n i) (hn : 0 < n) : i.natAbs.log2 < n := log2_lt h hn
theorem Bd.mulOk {m n : Nat} {i j : Int} (h : Bd m i) (g : Bd n j) (hm : m + n ≤ 134217728) : IntMulOk i j :=
 IntMulOk.of_le (intBits_le_iff.mpr h) (intBits_le_iff.mpr g) hm
def fr (t b : Int) : PyData := .tuple [.int (t / (Int.gcd t b : Int)), .int (b / (Int.gcd t b : Int))]
theorem gcd_pos {t b : Int} (h : b ≠ 0) : (0 : Int) < (Int.gcd t b : Int) := by
 have := Int.gcd_pos_of_ne_zero_right t h
 omega
theorem div_pos {x g : Int} (hg : 0 < g) (hd : g ∣ x) : 0 < x / g ↔ 0 < x := by
 obtain ⟨y, rfl⟩ := hd; rw [Int.mul_ediv_cancel_left _ (by omega)]
 constructor
 ·intro h; exact Int.mul_pos hg h
 ·intro h; exact Int.pos_of_mul_pos_right h hg
end K01
namespace K01
open PySem PySem.Spec PyProof.Rows L2 DL
def Sv (B w e : Nat) (p : PyData) : Prop := p.showable = true ∧ p.leavesShort B = true ∧ p.weight ≤ w ∧ p.depth ≤ e
theorem Sv.mono {B w e w' e' : Nat} {p : PyData} (h : Sv B w e p) (h1 : w ≤ w') (h2 : e ≤ e') : Sv B w' e' p := ⟨h.1, h.2.1, Nat.le_trans h.2.2.1 h1, Nat.le_trans h.2.2.2 h2⟩
end K01
namespace K85
open PySem PySem.Spec PyProof.Rows L2 DL K01
abbrev I (i : Int) : D := .dat (.int i)
abbrev fq (x : Int × Int) : PyData := .tuple [.int x.1, .int x.2]
def kd (k : Bool) : Str := if k then "stretch" else "point"
def Tp (n : Int) (m : Mu) (a : Addr) : Prop := ∃ (ns : List Int) (i j : Int), m a = some (.l [.list (ns.map .int), .int i, .int j]) ∧ ns.length ≤ 63 ∧ 0 ≤ i ∧ i ≤ n ∧ 0 ≤ j
def Fed (b : Int) (n : Int) (m m' : Mu) (a : Addr) : Prop := Tp (n + b) m' a ∧ ∀ c, c ≠ a → (m c).isSome = true → m' c = m c
def Kn (m m' : Mu) : Prop := ∀ c, (m c).isSome = true → m' c = m c
def Fr (b : Nat) (p : PyData) : Prop := ∃ x : Int × Int, p = fq x ∧ 0 < x.2 ∧ Bd b x.1 ∧ Bd b x.2
def Tm (k : Bool) (p : PyData) : Prop := (k = false ∧ Fr 20 p) ∨ (k = true ∧ ∃ x y, p = .tuple [x, y] ∧ Fr 20 x ∧ Fr 20 y)
def cmpI (x y : Int × Int) : Int := (if x.1 * y.2 > y.1 * x.2 then 1 else 0) - (if x.1 * y.2 < y.1 * x.2 then 1 else 0)
def fo : PyData → Int × Int
 | .tuple [.int a, .int b] => (a, b)
 | _ => (0, 1)
def p0 : PyData → PyData
 | .tuple (x :: _) => x
 | _ => .none
def p1 : PyData → PyData
 | .tuple (_ :: y :: _) => y
 | _ => .none
def prF (k : Bool) (p : PyData) : PyData := if k then p else .tuple [p, p]
def cm (x y : PyData) : Int := cmpI (fo x) (fo y)
def rowW (i j : Int) : Str :=
 if i = -1 then (if j = -1 then "overlaps" else if j = 0 then "ended" else "holds")
 else if i = 0 then (if j = -1 then "begins" else if j = 0 then "same" else "begun")
 else (if j = -1 then "within" else if j = 0 then "ends" else "lapped")
def wdF (k l : Bool) (p q : PyData) : Str :=
 let a := prF k p
 let b := prF l q
 if cm (p1 a) (p0 b) < 0 then "ahead" else if cm (p1 b) (p0 a) < 0 then "behind"
 else if k = true ∧ l = true ∧ cm (p1 a) (p0 b) = 0 then "meets" else if k = true ∧ l = true ∧ cm (p1 b) (p0 a) = 0 then "met"
 else rowW (cm (p0 a) (p0 b)) (cm (p1 a) (p1 b))
def good (z : Str) : Prop := (∀ c ∈ z.cps.toList, 97 ≤ c ∧ c ≤ 122) ∧ 1 ≤ z.length ∧ z.length ≤ 8
structure NumOk (n : Int × Int) : Prop where
 pos : 1 ≤ n.2
 le : n.2 ≤ 999999
 lo : -999999 ≤ n.1
 hi : n.1 ≤ 999999
 gcd : Int.gcd n.1 n.2 = 1
abbrev sI (i : Int) : Str := Str.ofString (toString i)
def numT (n : Int × Int) : Str := if 1 < n.2 then sI n.1 ++ "/" ++ sI n.2 else sI n.1
abbrev sL (zs : List Str) : PyData := .list (zs.map .str)
def figs (z : Str) : Bool := z.cps.toList.all fun c => decide (48 ≤ c ∧ c ≤ 57)
abbrev Q2 := Int × Int
def ltQ (x y : Q2) : Prop := x.1 * y.2 < y.1 * x.2
instance : DecidableRel ltQ := fun x y => inferInstanceAs (Decidable (x.1 * y.2 < y.1 * x.2))
structure Thg where
 nm : Str
 k : Bool
 x : Q2
 y : Q2
def Thg.d (t : Thg) : PyData := if t.k then .tuple [fq t.x, fq t.y] else fq t.x
def Thg.es (t : Thg) : List Q2 := if t.k then [t.x, t.y] else [t.x]
structure TOk (t : Thg) : Prop where
 nx : NumOk t.x
 ny : NumOk t.y
 st : t.k = true → ltQ t.x t.y
 pt : t.k = false → t.y = t.x
abbrev TH0 (ts : List (Str × Bool)) : PyData := .tuple (ts.map fun t => .tuple [.str t.1, .str (kd t.2)])
abbrev TH (ts : List Thg) : PyData := .tuple (ts.map fun t => .tuple [.str t.nm, .str (kd t.k)])
abbrev TEL (ts : List Thg) : PyData := .tuple (ts.map Thg.d)
def up (zs : List Str) : Prop := zs.Pairwise fun a b => a.cps.toList < b.cps.toList
structure Ws (ts : List Thg) : Prop where
 ne : 1 ≤ ts.length
 le : ts.length ≤ 6
 ok : ∀ t ∈ ts, TOk t
 gd : ∀ t ∈ ts, good t.nm
 up : up (ts.map (·.nm))
def lowQ (c : List Q2) (t : Q2) : List Q2 := c.filter fun x => decide (ltQ x t)
def insQ (c : List Q2) (t : Q2) : List Q2 := if t ∈ c then c else lowQ c t ++ t :: c.drop (lowQ c t).length
def cols (ts : List Thg) : List Q2 := ts.foldl (fun c t => t.es.foldl insQ c) []
structure ColOk (c : List Q2) : Prop where
 srt : c.Pairwise ltQ
 num : ∀ x ∈ c, NumOk x
def sgc (t : Thg) (c : Q2) : Nat := if t.k then (if c = t.x then 91 else if c = t.y then 93 else if ltQ t.x c ∧ ltQ c t.y then 61 else 46) else if c = t.x then 111 else 46
def sgS (c : List Q2) (t : Thg) : Str := ⟨(c.map (sgc t)).toArray⟩
def rowS (c : List Q2) (t : Thg) : Str := Txt.join " " [t.nm, sgS c t]
def lastS (c : List Q2) : Str := Txt.join " " ("@" :: c.map numT)
def linesOf (ts : List Thg) : List Str := ts.map (rowS (cols ts)) ++ [lastS (cols ts)]
def plc (c : List Q2) (t : Thg) : List Int := t.es.map fun x => (c.idxOf x : Int)
abbrev rwD (c : List Q2) (t : Thg) : PyData := .tuple [.str t.nm, .list ((plc c t).map .int), .int c.length]
def seenT (c : List Q2) (t : Thg) : Thg := ⟨t.nm, t.k, ((c.idxOf t.x : Int), 1), ((c.idxOf t.y : Int), 1)⟩
structure In (c : List Q2) (t : Thg) : Prop where
 ok : TOk t
 col : ColOk c
 len : c.length ≤ 12
 mem : ∀ x ∈ t.es, x ∈ c
def sp_is_whole : DC := fun ds m R => ∃ i : Int, ds = [I i] ∧ R (.dat (.bool true)) m
def sp_common : DC := fun ds m R => ∃ a b : Int, ds = [I a, I b] ∧ R (I (Int.gcd a b)) m
def sp_is_fraction : DC := fun ds m R => ∃ n, ds = [.dat (fq n)] ∧ NumOk n ∧ R (.dat (.bool true)) m
def sp_is_below : DC := fun ds m R => ∃ x y, ds = [.dat (fq x), .dat (fq y)] ∧ NumOk x ∧ NumOk y ∧ R (.dat (.bool (decide (ltQ x y)))) m
def sp_is_name : DC := fun ds m R => ∃ z, ds = [.dat (.str z)] ∧ good z ∧ R (.dat (.bool true)) m
def sp_shown_number : DC := fun ds m R => ∃ n, ds = [.dat (fq n)] ∧ NumOk n ∧ R (.dat (.str (numT n))) m
def sp_are_figures : DC := fun ds m R => ∃ z, ds = [.dat (.str z), I 200] ∧ z.length ≤ 100 ∧ R (.dat (.bool (decide (1 ≤ z.length) && (decide (z.length ≤ 200) && figs z)))) m
def sp_read_number : DC := fun ds m R => ∃ n, ds = [.dat (.str (numT n)), I 200] ∧ NumOk n ∧ R (.dat (fq n)) m
def sp_word_at : DC := fun ds m R => ∃ (ws : List Str) (i : Nat) (k : Int) (z : Str), ds = [.dat (sL ws), I i, I k] ∧ ws[i]? = some z ∧ ws.length ≤ 100 ∧ R (.dat (.str z)) m
def sp_put_in : DC := fun ds m R => ∃ c t, ds = [.dat (.list (c.map fq)), .dat (fq t)] ∧ ColOk c ∧ NumOk t ∧ c.length ≤ 12 ∧ R (.dat (.list ((insQ c t).map fq))) m
def sp_columns_of : DC := fun ds m R => ∃ ts, ds = [.dat (TH ts), .dat (TEL ts)] ∧ Ws ts ∧ R (.dat (.list ((cols ts).map fq))) m
def sp_signs_of : DC := fun ds m R => ∃ t c, ds = [.dat (.str (kd t.k)), .dat t.d, .dat (.list (c.map fq))] ∧ In c t ∧ ∀ m', Kn m m' → R (.dat (.str (sgS c t))) m'
def sp_drawn : DC := fun ds m R => ∃ ts, ds = [.dat (TH ts), .dat (TEL ts)] ∧ Ws ts ∧ ∀ a m', m a = none → Kn m m' → m' a = some (.l ((linesOf ts).map .str)) → R (.cel a) m'
def sp_read_signs : DC := fun ds m R => ∃ t c, ds = [.dat (.str (sgS c t))] ∧ In c t ∧ R (.dat (.list ((plc c t).map .int))) m
def sp_read_thing_row : DC := fun ds m R => ∃ (c : List Q2) (ts : List Thg) (t : Thg) (i : Int) (a : Addr), ds = [.dat (sL [t.nm, sgS c t]), I i, .cel a] ∧ m a = some (.l (ts.map (rwD c))) ∧ ts.length ≤ 5 ∧ In c t ∧ (∀ u ∈ ts ++ [t], good u.nm) ∧ up ((ts ++ [t]).map (·.nm)) ∧ R (.dat (rwD c t)) m
def sp_read_times : DC := fun ds m R => ∃ (ts : List Thg) (k : Int), ds = [.dat (sL ("@" :: (cols ts).map numT)), I k, .dat (.list (ts.map (rwD (cols ts))))] ∧ Ws ts ∧ ∀ a m', m a = none → Kn m m' → m' a = some (.l ((cols ts).map fq)) → R (.cel a) m'
def sp_read_thing_rows : DC := fun ds m R => ∃ ts, ds = [.dat (sL (linesOf ts))] ∧ Ws ts ∧ ∀ a t m', m a = none → m t = none → a ≠ t → Kn m m' → m' t = some (.tc [.cel a, .dat (sL ("@" :: (cols ts).map numT))]) → m' a = some (.l (ts.map (rwD (cols ts)))) → R (.cel t) m'
def sp_read_drawing : DC := fun ds m R => ∃ ts, ds = [.dat (sL (linesOf ts))] ∧ Ws ts ∧ ∀ m', Kn m m' → R (.dat (.tuple [TH ts, TEL ts])) m'
def sp__law_tape : DC := fun ds m R => ∃ ns : List Int, ds = [.dat (.list (ns.map .int))] ∧ ns.length ≤ 63 ∧ ∀ a m', Tp 0 m' a → R (.cel a) m'
def sp__law_draw : DC := fun ds m R => ∃ (a : Addr) (n L : Int), ds = [.cel a, I n] ∧ 0 < n ∧ Bd 100 n ∧ L ≤ 10000000 ∧ Tp L m a ∧ ∀ (r : Int) m', 0 ≤ r → r < n → Fed 1 L m m' a → R (I r) m'
def sp__law_frac : DC := fun ds m R => ∃ t b : Int, ds = [I t, I b] ∧ 0 < b ∧ Bd 200 b ∧ R (.dat (fr t b)) m
def sp__law_cmp : DC := fun ds m R => ∃ x y : Int × Int, ds = [.dat (fq x), .dat (fq y)] ∧ Bd 100 x.1 ∧ Bd 100 x.2 ∧ Bd 100 y.1 ∧ Bd 100 y.2 ∧ R (I (cmpI x y)) m
def sp__law_pair : DC := fun ds m R => ∃ k p, ds = [.dat (.str (kd k)), .dat p] ∧ Tm k p ∧ R (.dat (prF k p)) m
def sp__law_six_things : DC := fun ds m R => ∃ (a : Addr) (L : Int), ds = [.cel a] ∧ L ≤ 1000000 ∧ Tp L m a ∧ ∀ (ts : List (Str × Bool)) m', 1 ≤ ts.length → ts.length ≤ 6 → (∀ t ∈ ts, good t.1) → up (ts.map (·.1)) → Fed 20 L m m' a → R (.dat (TH0 ts)) m'
def sp__law_far_telling : DC := fun ds m R => ∃ (a : Addr) (L : Int) (ns : List (Str × Bool)), ds = [.cel a, .dat (TH0 ns)] ∧ ns.length ≤ 6 ∧ L ≤ 1000000 ∧ Tp L m a ∧ ∀ (ts : List Thg) m', ts.map (fun t => (t.nm, t.k)) = ns → (∀ t ∈ ts, TOk t) → Fed 100 L m m' a → R (.dat (TEL ts)) m'
def sp__law_columns : DC := fun ds m R => ∃ ts, ds = [.dat (TH ts), .dat (TEL ts)] ∧ Ws ts ∧ ∀ a m', m a = none → Kn m m' → m' a = some (.l ((cols ts).map fq)) → R (.cel a) m'
def sp__law_time_text : DC := sp_shown_number
def sp__law_drawn : DC := fun ds m R => ∃ ts, ds = [.dat (TH ts), .dat (TEL ts)] ∧ Ws ts ∧ ∀ m', Kn m m' → R (.dat (sL (linesOf ts))) m'
def sp__law_word : DC := fun ds m R => ∃ k l p q, ds = [.dat (.tuple [.str (kd k), p]), .dat (.tuple [.str (kd l), q])] ∧ Tm k p ∧ Tm l q ∧ R (.dat (.str (wdF k l p q))) m
def sp__law_seen : DC := fun ds m R => ∃ c t, ds = [.dat (.str (rowS c t)), .dat (.str (kd t.k))] ∧ In c t ∧ good t.nm ∧ R (.dat (seenT c t).d) m
def sp_law : DC := fun ds m R => ∃ ns : List Int, ds = [.dat (.list (ns.map .int))] ∧ ns.length ≤ 63 ∧ ∀ m', R (.dat (.bool true)) m'
end K85
namespace K85
open PySem PySem.Spec PyProof.Rows L2 DL
-- ranks: is_whole 1, common 1, is_fraction 2, is_below 1, is_name 1, shown_number 1, are_figures 1, read_number 3, word_at 1, put_in 2, columns_of 3, signs_of 1, drawn 4, read_signs 1, read_thing_row 2, read_times 4, read_thing_rows 3, read_drawing 5, _law_tape 1, _law_draw 1, _law_frac 1, _law_cmp 1, _law_pair 1, _law_six_things 2, _law_far_telling 2, _law_columns 2, _law_time_text 1, _law_drawn 3, _law_word 2, _law_seen 1, law 6
def top (i : Nat) : Stmt := PySem.Challenge.pw_whens_k85_drawn.main.body.getD i (.Pass ⟨0, 0, 0, 0⟩)
abbrev s_is_whole : Stmt := top 4
abbrev N_is_whole : List Str := ["thing"]
abbrev p_is_whole : List Str := ["thing"]
def b_is_whole : DS := (dSeq (dRet (dAnd (dIsi (dVar 0) "int") (dNot (dIsi (dVar 0) "bool")))) dNext)
abbrev s_common : Stmt := top 5
abbrev N_common : List Str := ["one", "other"]
abbrev p_common : List Str := ["one", "other"]
def b_common_L0 : DS := (dSeq (dPar 0 1 (dCons (dVar 1) (dCons (dBin aMod (dVar 0) (dVar 1)) dNil))) dNext)
def b_common_1 : DS := (dSeq (dRet (dCallB bAbs (dCons (dVar 0) dNil))) dNext)
def b_common : DS := (dSeq (dWhile (dTst (dBin aNe (dVar 1) (dCon (.int 0)))) b_common_L0) b_common_1)
abbrev s_is_fraction : Stmt := top 6
abbrev N_is_fraction : List Str := ["thing", "top", "bottom"]
abbrev p_is_fraction : List Str := ["thing"]
def b_is_fraction_3 : DS := (dSeq (dRet (dAnd (dBin aGe (dVar 2) (dCon (.int 1))) (dBin aEq (dCall 2 sp_common (dCons (dVar 1) (dCons (dVar 2) dNil))) (dCon (.int 1))))) dNext)
def b_is_fraction_2 : DS := (dSeq (dIf (dOrT (dNotT (dTst (dCall 1 sp_is_whole (dCons (dVar 1) dNil)))) (dNotT (dTst (dCall 1 sp_is_whole (dCons (dVar 2) dNil))))) (dSeq (dRet (dCon (.bool false))) dNext) dNext) b_is_fraction_3)
def b_is_fraction_1 : DS := (dSeq (dAsg (dVar 0) (gT 2 (gNs (gN 1) (gNs (gN 2) gN0)))) b_is_fraction_2)
def b_is_fraction : DS := (dSeq (dIf (dOrT (dNotT (dTst (dIsi (dVar 0) "tuple"))) (dTst (dBin aNe (dCallB bLen (dCons (dVar 0) dNil)) (dCon (.int 2))))) (dSeq (dRet (dCon (.bool false))) dNext) dNext) b_is_fraction_1)
abbrev s_is_below : Stmt := top 7
abbrev N_is_below : List Str := ["one", "other"]
abbrev p_is_below : List Str := ["one", "other"]
def b_is_below : DS := (dSeq (dRet (dBin aLt (dBin aMul (dBin aIx (dVar 0) (dCon (.int 0))) (dBin aIx (dVar 1) (dCon (.int 1)))) (dBin aMul (dBin aIx (dVar 1) (dCon (.int 0))) (dBin aIx (dVar 0) (dCon (.int 1)))))) dNext)
abbrev s_is_name : Stmt := top 12
abbrev N_is_name : List Str := ["thing"]
abbrev p_is_name : List Str := ["thing"]
def b_is_name_1 : DS := (dSeq (dRet (dCallB bAll (dCons (dLC [none] (dStrI (dVar 0)) (gN 0) dTrue (dBin aInS (dVar 0) (dCon (.str "abcdefghijklmnopqrstuvwxyz")))) dNil))) dNext)
def b_is_name : DS := (dSeq (dIf (dOrT (dNotT (dTst (dIsi (dVar 0) "str"))) (dNotT (dTst (dChain aLe aLe (dCon (.int 1)) (dCallB bLen (dCons (dVar 0) dNil)) (dCon (.int 8)))))) (dSeq (dRet (dCon (.bool false))) dNext) dNext) b_is_name_1)
abbrev s_shown_number : Stmt := top 15
abbrev N_shown_number : List Str := ["number", "top", "bottom"]
abbrev p_shown_number : List Str := ["number"]
def b_shown_number_1 : DS := (dSeq (dRet (dIte (dTst (dBin aGt (dVar 2) (dCon (.int 1)))) (dJs Str.empty [(dFv (dVar 1)), (dCon (.str "/")), (dFv (dVar 2))]) (dFv (dVar 1)))) dNext)
def b_shown_number : DS := (dSeq (dAsg (dVar 0) (gT 2 (gNs (gN 1) (gNs (gN 2) gN0)))) b_shown_number_1)
abbrev s_are_figures : Stmt := top 16
abbrev N_are_figures : List Str := ["text", "most"]
abbrev p_are_figures : List Str := ["text", "most"]
def b_are_figures : DS := (dSeq (dRet (dAnd (dChain aLe aLe (dCon (.int 1)) (dCallB bLen (dCons (dVar 0) dNil)) (dVar 1)) (dCallB bAll (dCons (dLC [none] (dStrI (dVar 0)) (gN 0) dTrue (dBin aInS (dVar 0) (dCon (.str "0123456789")))) dNil)))) dNext)
abbrev s_read_number : Stmt := top 17
abbrev N_read_number : List Str := ["text", "most", "top", "slash", "bottom", "number"]
abbrev p_read_number : List Str := ["text", "most"]
def b_read_number_3 : DS := (dSeq (dRet (dIte (dAndT (dTst (dCall 1 sp_is_fraction (dCons (dVar 5) dNil))) (dTst (dBin aEq (dCall 1 sp_shown_number (dCons (dVar 5) dNil)) (dVar 0)))) (dVar 5) (dCon .none))) dNext)
def b_read_number_2 : DS := (dSeq (dSet 5 (dTup (dCons (dCallB bIntT (dCons (dVar 2) dNil)) (dCons (dIte (dTst (dBin aNe (dVar 3) (dCon (.str "")))) (dCallB bIntT (dCons (dVar 4) dNil)) (dCon (.int 1))) dNil)))) b_read_number_3)
def b_read_number_1 : DS := (dSeq (dIf (dOrT (dNotT (dTst (dCall 2 sp_are_figures (dCons (dStrM Txt.removeprefix (dVar 2) (dCon (.str "-"))) (dCons (dVar 1) dNil))))) (dAndT (dTst (dBin aNe (dVar 3) (dCon (.str "")))) (dNotT (dTst (dCall 2 sp_are_figures (dCons (dVar 4) (dCons (dVar 1) dNil))))))) (dSeq (dRet (dCon .none)) dNext) dNext) b_read_number_2)
def b_read_number : DS := (dSeq (dAsg (dPartn (dVar 0) (dCon (.str "/"))) (gT 3 (gNs (gN 2) (gNs (gN 3) (gNs (gN 4) gN0))))) b_read_number_1)
abbrev s_word_at : Stmt := top 18
abbrev N_word_at : List Str := ["words", "place", "row"]
abbrev p_word_at : List Str := ["words", "place", "row"]
def b_word_at_1 : DS := (dSeq (dRet (dBin aIx (dVar 0) (dVar 1))) dNext)
def b_word_at : DS := (dSeq (dIf (dTst (dBin aGe (dVar 1) (dCallB bLen (dCons (dVar 0) dNil)))) (dSeq dNevS dNext) dNext) b_word_at_1)
abbrev s_put_in : Stmt := top 21
abbrev N_put_in : List Str := ["times", "time", "ahead"]
abbrev p_put_in : List Str := ["times", "time"]
def b_put_in_2 : DS := (dSeq (dRet (dBin aAdd (dBin aAdd (dVar 2) (dLst (dCons (dVar 1) dNil))) (dSlX (dVar 0) (dPart (dCallB bLen (dCons (dVar 2) dNil))) dNoP))) dNext)
def b_put_in_1 : DS := (dSeq (dSet 2 (dLC [none, some 1] (dSeqI (dVar 0)) (gN 0) (dTst (dCall 2 sp_is_below (dCons (dVar 0) (dCons (dVar 1) dNil)))) (dVar 0))) b_put_in_2)
def b_put_in : DS := (dSeq (dIf (dTst (dBin aInD (dVar 1) (dVar 0))) (dSeq (dRet (dVar 0)) dNext) dNext) b_put_in_1)
abbrev s_columns_of : Stmt := top 22
abbrev N_columns_of : List Str := ["things", "telling", "columns", "name", "kind", "times", "time"]
abbrev p_columns_of : List Str := ["things", "telling"]
def b_columns_of_L1 : DS := (dSeq (dSet 2 (dCall 2 sp_put_in (dCons (dVar 2) (dCons (dVar 6) dNil)))) dNext)
def b_columns_of_L0 : DS := (dSeq (dFor (dSeqI (dIte (dTst (dBin aEq (dVar 4) (dCon (.str "point")))) (dTup (dCons (dVar 5) dNil)) (dVar 5))) (gN 6) b_columns_of_L1) dNext)
def b_columns_of_2 : DS := (dSeq (dRet (dVar 2)) dNext)
def b_columns_of_1 : DS := (dSeq (dFor (dZipI (dVar 0) (dVar 1)) (gT 2 (gNs (gT 2 (gNs (gN 3) (gNs (gN 4) gN0))) (gNs (gN 5) gN0))) b_columns_of_L0) b_columns_of_2)
def b_columns_of : DS := (dSeq (dSet 2 (dLst dNil)) b_columns_of_1)
abbrev s_signs_of : Stmt := top 23
abbrev N_signs_of : List Str := ["kind", "times", "columns", "signs", "begin", "end"]
abbrev p_signs_of : List Str := ["kind", "times", "columns"]
def b_signs_of_B0_2 : DS := (dSeq (dSlp (dVar 3) (dPart (dVar 4)) (dPart (dBin aAdd (dVar 5) (dCon (.int 1)))) (dBin aAdd (dBin aAdd (dLst (dCons (dCon (.str "[")) dNil)) (dBin aMulC (dLstC (dCons (dCon (.str "=")) dNil)) (dBin aSub (dBin aSub (dVar 5) (dVar 4)) (dCon (.int 1))))) (dLst (dCons (dCon (.str "]")) dNil)))) dNext)
def b_signs_of_B0_1 : DS := (dSeq (dSet 5 (dIdxD (dVar 2) (dBin aIx (dVar 1) (dCon (.int 1))))) b_signs_of_B0_2)
def b_signs_of_B0 : DS := (dSeq (dSet 4 (dIdxD (dVar 2) (dBin aIx (dVar 1) (dCon (.int 0))))) b_signs_of_B0_1)
def b_signs_of_2 : DS := (dSeq (dRet (dJoinX "" (dVar 3))) dNext)
def b_signs_of_1 : DS := (dSeq (dIf (dTst (dBin aEq (dVar 0) (dCon (.str "point")))) (dSeq (dPut (dVar 3) (dIdxD (dVar 2) (dVar 1)) (dCon (.str "o"))) dNext) b_signs_of_B0) b_signs_of_2)
def b_signs_of : DS := (dSeq (dSet 3 (dBin aMulN (dLstC (dCons (dCon (.str ".")) dNil)) (dCallB bLen (dCons (dVar 2) dNil)))) b_signs_of_1)
abbrev s_drawn : Stmt := top 24
abbrev N_drawn : List Str := ["things", "telling", "columns", "rows"]
abbrev p_drawn : List Str := ["things", "telling"]
def b_drawn_2 : DS := (dSeq (dRet (dBin aAddN (dVar 3) (dLst (dCons (dJoin " " (dBin aAdd (dLst (dCons (dCon (.str "@")) dNil)) (dLC [none] (dSeqI (dVar 2)) (gN 0) dTrue (dCall 1 sp_shown_number (dCons (dVar 0) dNil))))) dNil)))) dNext)
def b_drawn_1 : DS := (dSeq (dSet 3 (dLC [none, none, none, some 2] (dZipI (dVar 0) (dVar 1)) (gT 2 (gNs (gT 2 (gNs (gN 1) (gNs (gN 2) gN0))) (gNs (gN 0) gN0))) dTrue (dJs Str.empty [(dFv (dVar 1)), (dCon (.str " ")), (dFv (dCall 3 sp_signs_of (dCons (dVar 2) (dCons (dVar 0) (dCons (dVar 3) dNil)))))]))) b_drawn_2)
def b_drawn : DS := (dSeq (dSet 2 (dCall 2 sp_columns_of (dCons (dVar 0) (dCons (dVar 1) dNil)))) b_drawn_1)
abbrev s_read_signs : Stmt := top 25
abbrev N_read_signs : List Str := ["signs", "inner", "begin"]
abbrev p_read_signs : List Str := ["signs"]
def b_read_signs_4 : DS := (dSeq (dRet (dCon .none)) dNext)
def b_read_signs_3 : DS := (dSeq (dIf (dTst (dBin aEq (dVar 1) (dBin aAdd (dBin aAdd (dCon (.str "[")) (dBin aMulS (dCon (.str "=")) (dBin aSub (dCallB bLen (dCons (dVar 1) dNil)) (dCon (.int 2))))) (dCon (.str "]"))))) (dSeq (dRet (dLst (dCons (dVar 2) (dCons (dBin aSub (dBin aAdd (dVar 2) (dCallB bLen (dCons (dVar 1) dNil))) (dCon (.int 1))) dNil)))) dNext) dNext) b_read_signs_4)
def b_read_signs_2 : DS := (dSeq (dIf (dTst (dBin aEq (dVar 1) (dCon (.str "o")))) (dSeq (dRet (dLst (dCons (dVar 2) dNil))) dNext) dNext) b_read_signs_3)
def b_read_signs_1 : DS := (dSeq (dSet 2 (dBin aSub (dCallB bLen (dCons (dVar 0) dNil)) (dCallB bLen (dCons (dStrM Txt.lstripChars (dVar 0) (dCon (.str "."))) dNil)))) b_read_signs_2)
def b_read_signs : DS := (dSeq (dSet 1 (dStrM Txt.stripChars (dVar 0) (dCon (.str ".")))) b_read_signs_1)
abbrev s_read_thing_row : Stmt := top 26
abbrev N_read_thing_row : List Str := ["words", "row", "ahead", "name", "signs", "places"]
abbrev p_read_thing_row : List Str := ["words", "row", "ahead"]
def b_read_thing_row_6 : DS := (dSeq (dRet (dTup (dCons (dVar 3) (dCons (dVar 5) (dCons (dCallB bLen (dCons (dVar 4) dNil)) dNil))))) dNext)
def b_read_thing_row_5 : DS := (dSeq (dIf (dTst (dBin aGt (dCallB bLen (dCons (dVar 0) dNil)) (dCon (.int 2)))) (dSeq dNevS dNext) dNext) b_read_thing_row_6)
def b_read_thing_row_4 : DS := (dSeq (dIf (dOrT (dTst (dBin aIsN (dVar 5) (dCon .none))) (dAndT (dTst (dBin aNeX (dVar 2) (dLst dNil))) (dTst (dBin aNe (dCallB bLen (dCons (dVar 4) dNil)) (dBin aIx (dBin aIx (dVar 2) (dCon (.int 0))) (dCon (.int 2))))))) (dSeq dNevS dNext) dNext) b_read_thing_row_5)
def b_read_thing_row_3 : DS := (dSeq (dSet 5 (dCall 1 sp_read_signs (dCons (dVar 4) dNil))) b_read_thing_row_4)
def b_read_thing_row_2 : DS := (dSeq (dSet 4 (dCall 3 sp_word_at (dCons (dVar 0) (dCons (dCon (.int 1)) (dCons (dVar 1) dNil))))) b_read_thing_row_3)
def b_read_thing_row_1 : DS := (dSeq (dIf (dOrT (dTst (dBin aEq (dCallB bLen (dCons (dVar 2) dNil)) (dCon (.int 6)))) (dOrT (dNotT (dTst (dCall 1 sp_is_name (dCons (dVar 3) dNil)))) (dAndT (dTst (dBin aNeX (dVar 2) (dLst dNil))) (dTst (dBin aLeS (dVar 3) (dBin aIx (dBin aIx (dVar 2) (dNeg (dCon (.int 1)))) (dCon (.int 0)))))))) (dSeq dNevS dNext) dNext) b_read_thing_row_2)
def b_read_thing_row : DS := (dSeq (dSet 3 (dBin aIx (dVar 0) (dCon (.int 0)))) b_read_thing_row_1)
abbrev s_read_times : Stmt := top 27
abbrev N_read_times : List Str := ["words", "row", "ahead", "used", "times", "column", "time"]
abbrev p_read_times : List Str := ["words", "row", "ahead"]
def b_read_times_L0_2 : DS := (dSeq (dExpr (dApp (dVar 4) (dVar 6))) dNext)
def b_read_times_L0_1 : DS := (dSeq (dIf (dOrT (dTst (dBin aIsN (dVar 6) (dCon .none))) (dOrT (dAndT (dTst (dBin aNeX (dVar 4) (dLst dNil))) (dNotT (dTst (dCall 2 sp_is_below (dCons (dBin aIx (dVar 4) (dNeg (dCon (.int 1)))) (dCons (dVar 6) dNil)))))) (dTst (dBin aNotIn (dVar 5) (dVar 3))))) (dSeq dNevS dNext) dNext) b_read_times_L0_2)
def b_read_times_L0 : DS := (dSeq (dSet 6 (dCall 2 sp_read_number (dCons (dCall 3 sp_word_at (dCons (dVar 0) (dCons (dBin aAdd (dVar 5) (dCon (.int 1))) (dCons (dVar 1) dNil)))) (dCons (dCon (.int 200)) dNil)))) b_read_times_L0_1)
def b_read_times_4 : DS := (dSeq (dRet (dVar 4)) dNext)
def b_read_times_3 : DS := (dSeq (dIf (dTst (dBin aGt (dCallB bLen (dCons (dVar 0) dNil)) (dBin aAdd (dCallB bLen (dCons (dVar 4) dNil)) (dCon (.int 1))))) (dSeq dNevS dNext) dNext) b_read_times_4)
def b_read_times_2 : DS := (dSeq (dFor (dRngI (dBin aIx (dBin aIx (dVar 2) (dCon (.int 0))) (dCon (.int 2)))) (gN 5) b_read_times_L0) b_read_times_3)
def b_read_times_1 : DS := (dSeq (dSet 4 (dLstC dNil)) b_read_times_2)
def b_read_times : DS := (dSeq (dSet 3 (dLC2 [none, none, none, none] (dSeqI (dVar 2)) (gT 3 (gNs (gN 0) (gNs (gN 1) (gNs (gN 2) gN0)))) dTrue (dSeqI (dVar 1)) (gN 3) dTrue (dVar 3))) b_read_times_1)
abbrev s_read_thing_rows : Stmt := top 28
abbrev N_read_thing_rows : List Str := ["lines", "ahead", "row", "line", "words"]
abbrev p_read_thing_rows : List Str := ["lines"]
def b_read_thing_rows_L0_2 : DS := (dSeq (dExpr (dApp (dVar 1) (dCall 3 sp_read_thing_row (dCons (dVar 4) (dCons (dVar 2) (dCons (dVar 1) dNil)))))) dNext)
def b_read_thing_rows_L0_1 : DS := (dSeq (dIf (dAndT (dTst (dBin aEq (dBin aIx (dVar 4) (dCon (.int 0))) (dCon (.str "@")))) (dTst (dBin aNeX (dVar 1) (dLst dNil)))) (dSeq (dRet (dTupC (dCons (dVar 1) (dCons (dVar 4) dNil)))) dNext) dNext) b_read_thing_rows_L0_2)
def b_read_thing_rows_L0 : DS := (dSeq (dSet 4 (dSplit (dVar 3) (dCon (.str " ")))) b_read_thing_rows_L0_1)
def b_read_thing_rows_2 : DS := (dSeq dNevS dNext)
def b_read_thing_rows_1 : DS := (dSeq (dFor (dEnumI (dVar 0)) (gT 2 (gNs (gN 2) (gNs (gN 3) gN0))) b_read_thing_rows_L0) b_read_thing_rows_2)
def b_read_thing_rows : DS := (dSeq (dSet 1 (dLstC dNil)) b_read_thing_rows_1)
abbrev s_read_drawing : Stmt := top 29
abbrev N_read_drawing : List Str := ["lines", "ahead", "words", "times", "things", "found"]
abbrev p_read_drawing : List Str := ["lines"]
def b_read_drawing_5 : DS := (dSeq (dRet (dTup (dCons (dVar 4) (dCons (dCallB bTuple (dCons (dLC [none] (dSeqI (dVar 5)) (gN 0) dTrue (dIte (dTst (dBin aEq (dCallB bLen (dCons (dVar 0) dNil)) (dCon (.int 1)))) (dBin aIx (dVar 0) (dCon (.int 0))) (dCallB bTuple (dCons (dVar 0) dNil)))) dNil)) dNil)))) dNext)
def b_read_drawing_4 : DS := (dSeq (dSet 5 (dLC [none, none, none, some 3] (dSeqI (dVar 1)) (gT 3 (gNs (gN 0) (gNs (gN 1) (gNs (gN 2) gN0)))) dTrue (dLC [none, some 3] (dSeqI (dVar 1)) (gN 0) dTrue (dBin aIx (dVar 1) (dVar 0))))) b_read_drawing_5)
def b_read_drawing_3 : DS := (dSeq (dSet 4 (dCallB bTuple (dCons (dLC [none, none, none] (dSeqI (dVar 1)) (gT 3 (gNs (gN 0) (gNs (gN 1) (gNs (gN 2) gN0)))) dTrue (dTup (dCons (dVar 0) (dCons (dIte (dTst (dBin aEq (dCallB bLen (dCons (dVar 1) dNil)) (dCon (.int 1)))) (dCon (.str "point")) (dCon (.str "stretch"))) dNil)))) dNil))) b_read_drawing_4)
def b_read_drawing_2 : DS := (dSeq (dIf (dTst (dBin aGt (dCallB bLen (dCons (dVar 0) dNil)) (dBin aAdd (dCallB bLen (dCons (dVar 1) dNil)) (dCon (.int 1))))) (dSeq dNevS dNext) dNext) b_read_drawing_3)
def b_read_drawing_1 : DS := (dSeq (dSet 3 (dFrz (dCall 3 sp_read_times (dCons (dVar 2) (dCons (dCallB bLen (dCons (dVar 1) dNil)) (dCons (dVar 1) dNil)))))) b_read_drawing_2)
def b_read_drawing : DS := (dSeq (dAsg (dFrzT (dCall 1 sp_read_thing_rows (dCons (dVar 0) dNil))) (gT 2 (gNs (gN 1) (gNs (gN 2) gN0)))) b_read_drawing_1)
abbrev s__law_tape : Stmt := top 31
abbrev N__law_tape : List Str := ["_law_script"]
abbrev p__law_tape : List Str := ["_law_script"]
def b__law_tape : DS := (dSeq (dRet (dLstC (dCons (dCallB bList (dCons (dSlX (dVar 0) dNoP (dPart (dCon (.int 63)))) dNil)) (dCons (dCon (.int 0)) (dCons (dCon (.int 0)) dNil))))) dNext)
abbrev s__law_draw : Stmt := top 32
abbrev N__law_draw : List Str := ["_law_tape_here", "_law_many", "_law_found", "_law_spot", "_law_cell", "_law_mixed"]
abbrev p__law_draw : List Str := ["_law_tape_here", "_law_many"]
def b__law_draw_B0_2 : DS := (dSeq (dRet (dVar 2)) dNext)
def b__law_draw_B0_1 : DS := (dSeq (dPut (dVar 0) (dCon (.int 2)) (dBin aDiv (dBin aIx (dVar 0) (dCon (.int 2))) (dVar 1))) b__law_draw_B0_2)
def b__law_draw_B0 : DS := (dSeq (dSet 2 (dBin aMod (dBin aIx (dVar 0) (dCon (.int 2))) (dVar 1))) b__law_draw_B0_1)
def b__law_draw_B1_1 : DS := (dSeq (dRet (dBin aMod (dVar 4) (dVar 1))) dNext)
def b__law_draw_B1 : DS := (dSeq (dPut (dVar 0) (dCon (.int 2)) (dBin aDiv (dVar 4) (dVar 1))) b__law_draw_B1_1)
def b__law_draw_8 : DS := (dSeq (dRet (dBin aMod (dBin aDiv (dVar 5) (dCon (.int 64))) (dVar 1))) dNext)
def b__law_draw_7 : DS := (dSeq (dSet 5 (dBin aMod (dBin aMul (dBin aMod (dBin aAdd (dBin aMul (dVar 5) (dCon (.int 40692))) (dBin aMul (dVar 3) (dVar 3))) (dCon (.int 2147483399))) (dCon (.int 16807))) (dCon (.int 2147483629)))) b__law_draw_8)
def b__law_draw_6 : DS := (dSeq (dSet 5 (dBin aMod (dBin aMul (dBin aAdd (dBin aAdd (dBin aMul (dBin aMod (dVar 4) (dCon (.int 1000003))) (dCon (.int 613))) (dBin aMul (dCon (.int 104729)) (dVar 3))) (dCon (.int 17))) (dCon (.int 48271))) (dCon (.int 2147483647)))) b__law_draw_7)
def b__law_draw_5 : DS := (dSeq (dIf (dAndT (dTst (dBin aGe (dVar 4) (dBin aPow (dCon (.int 10)) (dCon (.int 18))))) (dTst (dBin aLt (dVar 3) (dCallB bLen (dCons (dBin aIx (dVar 0) (dCon (.int 0))) dNil))))) b__law_draw_B1 dNext) b__law_draw_6)
def b__law_draw_4 : DS := (dSeq (dIf (dTst (dBin aNe (dBin aIx (dVar 0) (dCon (.int 0))) (dLst dNil))) (dSeq (dSet 4 (dBin aIx (dBin aIx (dVar 0) (dCon (.int 0))) (dBin aMod (dVar 3) (dCallB bLen (dCons (dBin aIx (dVar 0) (dCon (.int 0))) dNil))))) dNext) dNext) b__law_draw_5)
def b__law_draw_3 : DS := (dSeq (dSet 4 (dBin aMul (dVar 3) (dVar 3))) b__law_draw_4)
def b__law_draw_2 : DS := (dSeq (dPut (dVar 0) (dCon (.int 1)) (dBin aAdd (dVar 3) (dCon (.int 1)))) b__law_draw_3)
def b__law_draw_1 : DS := (dSeq (dSet 3 (dBin aIx (dVar 0) (dCon (.int 1)))) b__law_draw_2)
def b__law_draw : DS := (dSeq (dIf (dTst (dBin aGt (dBin aIx (dVar 0) (dCon (.int 2))) (dCon (.int 0)))) b__law_draw_B0 dNext) b__law_draw_1)
abbrev s__law_frac : Stmt := top 33
abbrev N__law_frac : List Str := ["_law_top", "_law_bottom", "_law_one", "_law_other"]
abbrev p__law_frac : List Str := ["_law_top", "_law_bottom"]
def b__law_frac_L0 : DS := (dSeq (dPar 2 3 (dCons (dVar 3) (dCons (dBin aMod (dVar 2) (dVar 3)) dNil))) dNext)
def b__law_frac_2 : DS := (dSeq (dRet (dTup (dCons (dBin aDiv (dVar 0) (dVar 2)) (dCons (dBin aDiv (dVar 1) (dVar 2)) dNil)))) dNext)
def b__law_frac_1 : DS := (dSeq (dWhile (dTst (dBin aGt (dVar 3) (dCon (.int 0)))) b__law_frac_L0) b__law_frac_2)
def b__law_frac : DS := (dSeq (dPar 2 3 (dCons (dCallB bAbs (dCons (dVar 0) dNil)) (dCons (dVar 1) dNil))) b__law_frac_1)
abbrev s__law_cmp : Stmt := top 34
abbrev N__law_cmp : List Str := ["_law_one", "_law_other", "_law_left", "_law_right"]
abbrev p__law_cmp : List Str := ["_law_one", "_law_other"]
def b__law_cmp_2 : DS := (dSeq (dRet (dBin aSub (dCallB bInt (dCons (dBin aGt (dVar 2) (dVar 3)) dNil)) (dCallB bInt (dCons (dBin aLt (dVar 2) (dVar 3)) dNil)))) dNext)
def b__law_cmp_1 : DS := (dSeq (dSet 3 (dBin aMul (dBin aIx (dVar 1) (dCon (.int 0))) (dBin aIx (dVar 0) (dCon (.int 1))))) b__law_cmp_2)
def b__law_cmp : DS := (dSeq (dSet 2 (dBin aMul (dBin aIx (dVar 0) (dCon (.int 0))) (dBin aIx (dVar 1) (dCon (.int 1))))) b__law_cmp_1)
abbrev s__law_pair : Stmt := top 35
abbrev N__law_pair : List Str := ["_law_kind", "_law_when"]
abbrev p__law_pair : List Str := ["_law_kind", "_law_when"]
def b__law_pair : DS := (dSeq (dRet (dIte (dTst (dBin aEq (dVar 0) (dCon (.str "point")))) (dTup (dCons (dVar 1) (dCons (dVar 1) dNil))) (dVar 1))) dNext)
abbrev s__law_six_things : Stmt := top 36
abbrev N__law_six_things : List Str := ["_law_tape_here", "_law_menu", "_law_names", "_law_many", "_law_first"]
abbrev p__law_six_things : List Str := ["_law_tape_here"]
def b__law_six_things_4 : DS := (dSeq (dRet (dCallB bTuple (dCons (dLC [none, some 0] (dSeqI (dSlX (dVar 2) (dPart (dVar 4)) (dPart (dBin aAdd (dVar 4) (dVar 3))))) (gN 0) dTrue (dTup (dCons (dVar 0) (dCons (dBin aIx (dLst (dCons (dCon (.str "stretch")) (dCons (dCon (.str "point")) dNil))) (dBin aDiv (dCall 2 sp__law_draw (dCons (dVar 1) (dCons (dCon (.int 5)) dNil))) (dCon (.int 3)))) dNil)))) dNil))) dNext)
def b__law_six_things_3 : DS := (dSeq (dSet 4 (dCall 2 sp__law_draw (dCons (dVar 0) (dCons (dBin aSub (dCon (.int 7)) (dVar 3)) dNil)))) b__law_six_things_4)
def b__law_six_things_2 : DS := (dSeq (dSet 3 (dBin aAdd (dCon (.int 1)) (dCall 2 sp__law_draw (dCons (dVar 0) (dCons (dCon (.int 6)) dNil))))) b__law_six_things_3)
def b__law_six_things_1 : DS := (dSeq (dSet 2 (dBin aIx (dVar 1) (dCall 2 sp__law_draw (dCons (dVar 0) (dCons (dCon (.int 2)) dNil))))) b__law_six_things_2)
def b__law_six_things : DS := (dSeq (dSet 1 (dLst (dCons (dLst (dCons (dCon (.str "a")) (dCons (dCon (.str "ab")) (dCons (dCon (.str "b")) (dCons (dCon (.str "point")) (dCons (dCon (.str "zz")) (dCons (dCon (.str "zzzzzzzz")) dNil))))))) (dCons (dLst (dCons (dCon (.str "begin")) (dCons (dCon (.str "end")) (dCons (dCon (.str "gap")) (dCons (dCon (.str "may")) (dCons (dCon (.str "o")) (dCons (dCon (.str "strict")) dNil))))))) dNil)))) b__law_six_things_1)
abbrev s__law_far_telling : Stmt := top 37
abbrev N__law_far_telling : List Str := ["_law_tape_here", "_law_things", "_law_found", "_law_name", "_law_kind", "_law_bottom", "_law_begin", "_law_far", "_law_more"]
abbrev p__law_far_telling : List Str := ["_law_tape_here", "_law_things"]
def b__law_far_telling_L0_5 : DS := (dSeq (dIf (dTst (dBin aEq (dVar 4) (dCon (.str "point")))) (dSeq (dExpr (dApp (dVar 2) (dCall 2 sp__law_frac (dCons (dVar 6) (dCons (dVar 5) dNil))))) dNext) (dSeq (dExpr (dApp (dVar 2) (dTup (dCons (dCall 2 sp__law_frac (dCons (dVar 6) (dCons (dVar 5) dNil))) (dCons (dCall 2 sp__law_frac (dCons (dBin aAdd (dVar 6) (dVar 8)) (dCons (dVar 5) dNil))) dNil))))) dNext)) dNext)
def b__law_far_telling_L0_4 : DS := (dSeq (dSet 8 (dBin aAdd (dCon (.int 1)) (dCall 2 sp__law_draw (dCons (dVar 0) (dCons (dCon (.int 4)) dNil))))) b__law_far_telling_L0_5)
def b__law_far_telling_L0_3 : DS := (dSeq (dIf (dTst (dBin aLt (dVar 7) (dCon (.int 2)))) (dSeq (dSet 6 (dBin aIx (dLst (dCons (dCon (.int 999990)) (dCons (dNeg (dCon (.int 999999))) dNil))) (dVar 7))) dNext) dNext) b__law_far_telling_L0_4)
def b__law_far_telling_L0_2 : DS := (dSeq (dSet 7 (dCall 2 sp__law_draw (dCons (dVar 0) (dCons (dCon (.int 9)) dNil)))) b__law_far_telling_L0_3)
def b__law_far_telling_L0_1 : DS := (dSeq (dSet 6 (dBin aSub (dCall 2 sp__law_draw (dCons (dVar 0) (dCons (dCon (.int 6)) dNil))) (dCon (.int 2)))) b__law_far_telling_L0_2)
def b__law_far_telling_L0 : DS := (dSeq (dSet 5 (dBin aIx (dLst (dCons (dCon (.int 1)) (dCons (dCon (.int 1)) (dCons (dCon (.int 2)) (dCons (dCon (.int 3)) (dCons (dCon (.int 999999)) dNil)))))) (dCall 2 sp__law_draw (dCons (dVar 0) (dCons (dCon (.int 5)) dNil))))) b__law_far_telling_L0_1)
def b__law_far_telling_2 : DS := (dSeq (dRet (dCallB bTuple (dCons (dVar 2) dNil))) dNext)
def b__law_far_telling_1 : DS := (dSeq (dFor (dSeqI (dVar 1)) (gT 2 (gNs (gN 3) (gNs (gN 4) gN0))) b__law_far_telling_L0) b__law_far_telling_2)
def b__law_far_telling : DS := (dSeq (dSet 2 (dLstC dNil)) b__law_far_telling_1)
abbrev s__law_columns : Stmt := top 38
abbrev N__law_columns : List Str := ["_law_things", "_law_telling", "_law_found", "_law_name", "_law_kind", "_law_when", "_law_time", "_law_place"]
abbrev p__law_columns : List Str := ["_law_things", "_law_telling"]
def b__law_columns_L1_1 : DS := (dSeq (dIf (dOrT (dTst (dBin aEq (dVar 7) (dCallB bLen (dCons (dVar 2) dNil)))) (dTst (dBin aNe (dBin aIx (dVar 2) (dVar 7)) (dVar 6)))) (dSeq (dExpr (dIns (dVar 2) (dVar 7) (dVar 6))) dNext) dNext) dNext)
def b__law_columns_L1 : DS := (dSeq (dSet 7 (dCallB bLen (dCons (dLCR 2 [none, some 6] (gN 0) (dTst (dBin aLt (dCall 2 sp__law_cmp (dCons (dVar 0) (dCons (dVar 1) dNil))) (dCon (.int 0)))) (dVar 0)) dNil))) b__law_columns_L1_1)
def b__law_columns_L0 : DS := (dSeq (dFor (dSeqI (dBin aIx (dLst (dCons (dLst (dCons (dVar 5) dNil)) (dCons (dCallB bList (dCons (dVar 5) dNil)) dNil))) (dCallB bInt (dCons (dBin aEq (dVar 4) (dCon (.str "stretch"))) dNil)))) (gN 6) b__law_columns_L1) dNext)
def b__law_columns_2 : DS := (dSeq (dRet (dVar 2)) dNext)
def b__law_columns_1 : DS := (dSeq (dFor (dZipI (dVar 0) (dVar 1)) (gT 2 (gNs (gT 2 (gNs (gN 3) (gNs (gN 4) gN0))) (gNs (gN 5) gN0))) b__law_columns_L0) b__law_columns_2)
def b__law_columns : DS := (dSeq (dSet 2 (dLstC dNil)) b__law_columns_1)
abbrev s__law_time_text : Stmt := top 39
abbrev N__law_time_text : List Str := ["_law_time"]
abbrev p__law_time_text : List Str := ["_law_time"]
def b__law_time_text : DS := (dSeq (dRet (dIte (dTst (dBin aEq (dBin aIx (dVar 0) (dCon (.int 1))) (dCon (.int 1)))) (dCallB bStr (dCons (dBin aIx (dVar 0) (dCon (.int 0))) dNil)) (dBin aAdd (dBin aAdd (dCallB bStr (dCons (dBin aIx (dVar 0) (dCon (.int 0))) dNil)) (dCon (.str "/"))) (dCallB bStr (dCons (dBin aIx (dVar 0) (dCon (.int 1))) dNil))))) dNext)
abbrev s__law_drawn : Stmt := top 40
abbrev N__law_drawn : List Str := ["_law_things", "_law_telling", "_law_columns_here", "_law_texts", "_law_name", "_law_kind", "_law_when", "_law_begin", "_law_end", "_law_signs", "_law_time"]
abbrev p__law_drawn : List Str := ["_law_things", "_law_telling"]
def b__law_drawn_L1 : DS := (dSeq (dIf (dTst (dBin aEq (dVar 5) (dCon (.str "point")))) (dSeq (dSet 9 (dBin aAdd (dVar 9) (dIte (dTst (dBin aEq (dVar 10) (dVar 6))) (dCon (.str "o")) (dCon (.str "."))))) dNext) (dSeq (dIf (dOrT (dTst (dBin aEq (dVar 10) (dVar 7))) (dTst (dBin aEq (dVar 10) (dVar 8)))) (dSeq (dSet 9 (dBin aAdd (dVar 9) (dIte (dTst (dBin aEq (dVar 10) (dVar 7))) (dCon (.str "[")) (dCon (.str "]"))))) dNext) (dSeq (dSet 9 (dBin aAdd (dVar 9) (dIte (dAndT (dTst (dBin aLt (dCall 2 sp__law_cmp (dCons (dVar 7) (dCons (dVar 10) dNil))) (dCon (.int 0)))) (dTst (dBin aLt (dCall 2 sp__law_cmp (dCons (dVar 10) (dCons (dVar 8) dNil))) (dCon (.int 0))))) (dCon (.str "=")) (dCon (.str "."))))) dNext)) dNext)) dNext)
def b__law_drawn_L0_3 : DS := (dSeq (dExpr (dApp (dVar 3) (dBin aAdd (dBin aAdd (dVar 4) (dCon (.str " "))) (dVar 9)))) dNext)
def b__law_drawn_L0_2 : DS := (dSeq (dFor (dSeqI (dVar 2)) (gN 10) b__law_drawn_L1) b__law_drawn_L0_3)
def b__law_drawn_L0_1 : DS := (dSeq (dSet 9 (dCon (.str ""))) b__law_drawn_L0_2)
def b__law_drawn_L0 : DS := (dSeq (dAsg (dCall 2 sp__law_pair (dCons (dVar 5) (dCons (dVar 6) dNil))) (gT 2 (gNs (gN 7) (gNs (gN 8) gN0)))) b__law_drawn_L0_1)
def b__law_drawn_3 : DS := (dSeq (dRet (dBin aAdd (dVar 3) (dLst (dCons (dBin aAdd (dCon (.str "@ ")) (dJoin " " (dLC [none] (dSeqI (dVar 2)) (gN 0) dTrue (dCall 1 sp__law_time_text (dCons (dVar 0) dNil))))) dNil)))) dNext)
def b__law_drawn_2 : DS := (dSeq (dFor (dZipI (dVar 0) (dVar 1)) (gT 2 (gNs (gT 2 (gNs (gN 4) (gNs (gN 5) gN0))) (gNs (gN 6) gN0))) b__law_drawn_L0) b__law_drawn_3)
def b__law_drawn_1 : DS := (dSeq (dSet 3 (dLstC dNil)) b__law_drawn_2)
def b__law_drawn : DS := (dSeq (dSet 2 (dFrz (dCall 2 sp__law_columns (dCons (dVar 0) (dCons (dVar 1) dNil))))) b__law_drawn_1)
abbrev s__law_word : Stmt := top 41
abbrev N__law_word : List Str := ["_law_one", "_law_other", "_law_first", "_law_second", "_law_rows"]
abbrev p__law_word : List Str := ["_law_one", "_law_other"]
def b__law_word_B0_1 : DS := (dSeq (dIf (dTst (dBin aEq (dCall 2 sp__law_cmp (dCons (dBin aIx (dVar 3) (dCon (.int 1))) (dCons (dBin aIx (dVar 2) (dCon (.int 0))) dNil))) (dCon (.int 0)))) (dSeq (dRet (dCon (.str "met"))) dNext) dNext) dNext)
def b__law_word_B0 : DS := (dSeq (dIf (dTst (dBin aEq (dCall 2 sp__law_cmp (dCons (dBin aIx (dVar 2) (dCon (.int 1))) (dCons (dBin aIx (dVar 3) (dCon (.int 0))) dNil))) (dCon (.int 0)))) (dSeq (dRet (dCon (.str "meets"))) dNext) dNext) b__law_word_B0_1)
def b__law_word_5 : DS := (dSeq (dRet (dBin aIx (dBin aIx (dVar 4) (dBin aAdd (dCall 2 sp__law_cmp (dCons (dBin aIx (dVar 2) (dCon (.int 0))) (dCons (dBin aIx (dVar 3) (dCon (.int 0))) dNil))) (dCon (.int 1)))) (dBin aAdd (dCall 2 sp__law_cmp (dCons (dBin aIx (dVar 2) (dCon (.int 1))) (dCons (dBin aIx (dVar 3) (dCon (.int 1))) dNil))) (dCon (.int 1))))) dNext)
def b__law_word_4 : DS := (dSeq (dSet 4 (dLst (dCons (dLst (dCons (dCon (.str "overlaps")) (dCons (dCon (.str "ended")) (dCons (dCon (.str "holds")) dNil)))) (dCons (dLst (dCons (dCon (.str "begins")) (dCons (dCon (.str "same")) (dCons (dCon (.str "begun")) dNil)))) (dCons (dLst (dCons (dCon (.str "within")) (dCons (dCon (.str "ends")) (dCons (dCon (.str "lapped")) dNil)))) dNil))))) b__law_word_5)
def b__law_word_3 : DS := (dSeq (dIf (dAndT (dTst (dBin aEq (dBin aIx (dVar 0) (dCon (.int 0))) (dCon (.str "stretch")))) (dTst (dBin aEq (dBin aIx (dVar 1) (dCon (.int 0))) (dCon (.str "stretch"))))) b__law_word_B0 dNext) b__law_word_4)
def b__law_word_2 : DS := (dSeq (dIf (dTst (dBin aLt (dCall 2 sp__law_cmp (dCons (dBin aIx (dVar 3) (dCon (.int 1))) (dCons (dBin aIx (dVar 2) (dCon (.int 0))) dNil))) (dCon (.int 0)))) (dSeq (dRet (dCon (.str "behind"))) dNext) dNext) b__law_word_3)
def b__law_word_1 : DS := (dSeq (dIf (dTst (dBin aLt (dCall 2 sp__law_cmp (dCons (dBin aIx (dVar 2) (dCon (.int 1))) (dCons (dBin aIx (dVar 3) (dCon (.int 0))) dNil))) (dCon (.int 0)))) (dSeq (dRet (dCon (.str "ahead"))) dNext) dNext) b__law_word_2)
def b__law_word : DS := (dSeq (dPar 2 3 (dCons (dCall 2 sp__law_pair (dCons (dBin aIx (dVar 0) (dCon (.int 0))) (dCons (dBin aIx (dVar 0) (dCon (.int 1))) dNil))) (dCons (dCall 2 sp__law_pair (dCons (dBin aIx (dVar 1) (dCon (.int 0))) (dCons (dBin aIx (dVar 1) (dCon (.int 1))) dNil))) dNil))) b__law_word_1)
abbrev s__law_seen : Stmt := top 42
abbrev N__law_seen : List Str := ["_law_line", "_law_kind", "_law_signs"]
abbrev p__law_seen : List Str := ["_law_line", "_law_kind"]
def b__law_seen_2 : DS := (dSeq (dRet (dTup (dCons (dTup (dCons (dSIdx (dVar 2) (dCon (.str "["))) (dCons (dCon (.int 1)) dNil))) (dCons (dTup (dCons (dSIdx (dVar 2) (dCon (.str "]"))) (dCons (dCon (.int 1)) dNil))) dNil)))) dNext)
def b__law_seen_1 : DS := (dSeq (dIf (dTst (dBin aEq (dVar 1) (dCon (.str "point")))) (dSeq (dRet (dTup (dCons (dSIdx (dVar 2) (dCon (.str "o"))) (dCons (dCon (.int 1)) dNil)))) dNext) dNext) b__law_seen_2)
def b__law_seen : DS := (dSeq (dSet 2 (dBin aIx (dSplit (dVar 0) (dCon (.str " "))) (dCon (.int 1)))) b__law_seen_1)
abbrev s_law : Stmt := top 43
abbrev N_law : List Str := ["_law_script", "_law_tape_here", "_law_k", "_law_things", "_law_telling", "_law_due", "_law_turn", "_law_found", "_law_handed", "_law_seen_here", "_law_one", "_law_other", "_law_rows"]
abbrev p_law : List Str := ["_law_script"]
def b_law_L1_2 : DS := (dSeq (dExpr (dApp (dVar 7) (dCon (.str "@")))) dNext)
def b_law_L1_1 : DS := (dSeq (dIf (dOrT (dNotT (dTst (dIsiX (dVar 7) "list"))) (dTst (dBin aNe (dCallB bReprC (dCons (dVar 7) dNil)) (dCallB bRepr (dCons (dVar 5) dNil))))) (dSeq (dRet (dCon (.bool false))) dNext) dNext) b_law_L1_2)
def b_law_L1 : DS := (dSeq (dSet 7 (dCall 2 sp_drawn (dCons (dVar 3) (dCons (dVar 4) dNil)))) b_law_L1_1)
def b_law_L3_1 : DS := (dSeq (dIf (dTst (dBin aNe (dCall 2 sp__law_word (dCons (dTup (dCons (dBin aIx (dBin aIx (dVar 12) (dCon (.int 0))) (dCon (.int 0))) (dCons (dBin aIx (dVar 9) (dVar 10)) dNil))) (dCons (dTup (dCons (dBin aIx (dBin aIx (dVar 12) (dCon (.int 1))) (dCon (.int 0))) (dCons (dBin aIx (dVar 9) (dVar 11)) dNil))) dNil))) (dCall 2 sp__law_word (dCons (dBin aIx (dVar 12) (dCon (.int 0))) (dCons (dBin aIx (dVar 12) (dCon (.int 1))) dNil))))) (dSeq (dRet (dCon (.bool false))) dNext) dNext) dNext)
def b_law_L3 : DS := (dSeq (dSet 12 (dLst (dCons (dTup (dCons (dBin aIx (dBin aIx (dVar 3) (dVar 10)) (dCon (.int 1))) (dCons (dBin aIx (dVar 4) (dVar 10)) dNil))) (dCons (dTup (dCons (dBin aIx (dBin aIx (dVar 3) (dVar 11)) (dCon (.int 1))) (dCons (dBin aIx (dVar 4) (dVar 11)) dNil))) dNil)))) b_law_L3_1)
def b_law_L2 : DS := (dSeq (dFor (dRngI (dCallB bLen (dCons (dVar 3) dNil))) (gN 11) b_law_L3) dNext)
def b_law_L0_7 : DS := (dSeq (dFor (dRngI (dCallB bLen (dCons (dVar 3) dNil))) (gN 10) b_law_L2) dNext)
def b_law_L0_6 : DS := (dSeq (dSet 9 (dLC [none, some 3, some 5] (dRngI (dCallB bLen (dCons (dVar 3) dNil))) (gN 0) dTrue (dCall 2 sp__law_seen (dCons (dBin aIx (dVar 2) (dVar 0)) (dCons (dBin aIx (dBin aIx (dVar 1) (dVar 0)) (dCon (.int 1))) dNil))))) b_law_L0_7)
def b_law_L0_5 : DS := (dSeq (dIf (dOrT (dTst (dBin aNe (dCallB bRepr (dCons (dCall 1 sp_read_drawing (dCons (dVar 8) dNil)) dNil)) (dCallB bRepr (dCons (dTup (dCons (dVar 3) (dCons (dVar 4) dNil))) dNil)))) (dTst (dBin aNe (dVar 8) (dVar 5)))) (dSeq (dRet (dCon (.bool false))) dNext) dNext) b_law_L0_6)
def b_law_L0_4 : DS := (dSeq (dSet 8 (dCallB bList (dCons (dVar 5) dNil))) b_law_L0_5)
def b_law_L0_3 : DS := (dSeq (dFor (dRngI (dCon (.int 2))) (gN 6) b_law_L1) b_law_L0_4)
def b_law_L0_2 : DS := (dSeq (dSet 5 (dCall 2 sp__law_drawn (dCons (dVar 3) (dCons (dVar 4) dNil)))) b_law_L0_3)
def b_law_L0_1 : DS := (dSeq (dSet 4 (dCall 2 sp__law_far_telling (dCons (dVar 1) (dCons (dVar 3) dNil)))) b_law_L0_2)
def b_law_L0 : DS := (dSeq (dSet 3 (dCall 1 sp__law_six_things (dCons (dVar 1) dNil))) b_law_L0_1)
def b_law_2 : DS := (dSeq (dRet (dCon (.bool true))) dNext)
def b_law_1 : DS := (dSeq (dFor (dRngI (dCon (.int 4))) (gN 2) b_law_L0) b_law_2)
def b_law : DS := (dSeq (dSet 1 (dCall 1 sp__law_tape (dCons (dVar 0) dNil))) b_law_1)
end K85
namespace TX
open PySem PySem.W PySem.NumText PyProof.Rows
theorem first_cut {c : Nat} : ∀ {p q A B : List Nat}, c ∉ p → c ∉ q → p ++ c :: A = q ++ c :: B → p = q ∧ A = B
 | [], [], A, B, _, _, e => ⟨rfl, by simpa using e⟩
 | [], b :: q, A, B, _, hq, e => by
  have : c = b := by simpa using (List.cons.inj e).1
  exact absurd List.mem_cons_self (this ▸ hq)
 | a :: p, [], A, B, hp, _, e => by
  have : a = c := by simpa using (List.cons.inj e).1
  exact absurd List.mem_cons_self (this ▸ hp)
 | a :: p, b :: q, A, B, hp, hq, e => by
  obtain ⟨e1, e2⟩ := List.cons.inj e; obtain ⟨e3, e4⟩ := first_cut (fun h => hp (List.mem_cons_of_mem _ h)) (fun h => hq (List.mem_cons_of_mem _ h)) e2; exact ⟨by rw [e1, e3], e4⟩
theorem ext {x y : Str} (h : x.cps.toList = y.cps.toList) : x = y := by
 cases x; cases y
 simp at h; rw [h]
theorem join_cons (c : Nat) (p q : Str) (r : List Str) : (Str.join ⟨#[c]⟩ (p :: q :: r)).cps.toList = p.cps.toList ++ c :: (Str.join ⟨#[c]⟩ (q :: r)).cps.toList := by
 simp [Str.join, Str.cps_append]
theorem join_inj (c : Nat) : ∀ {ps qs : List Str}, ps ≠ [] → qs ≠ [] → (∀ p ∈ ps, c ∉ p.cps.toList) → (∀ q ∈ qs, c ∉ q.cps.toList) → Str.join ⟨#[c]⟩ ps = Str.join ⟨#[c]⟩ qs → ps = qs
 | [p], [q], _, _, _, _, e => by simpa [Str.join] using e
 | [p], q :: q' :: r, _, _, hp, _, e => by
  have e1 := congrArg (fun z : Str => z.cps.toList) e
  simp only [join_cons] at e1; simp only [Str.join] at e1; exact absurd (show c ∈ p.cps.toList by rw [e1]; simp) (hp p List.mem_cons_self)
 | p :: p' :: r, [q], _, _, _, hq, e => by
  have e1 := congrArg (fun z : Str => z.cps.toList) e
  simp only [join_cons] at e1; simp only [Str.join] at e1; exact absurd (show c ∈ q.cps.toList by rw [← e1]; simp) (hq q List.mem_cons_self)
 | p :: p' :: r, q :: q' :: r', _, _, hp, hq, e => by
  have e1 := congrArg (fun z : Str => z.cps.toList) e
  simp only [join_cons] at e1; obtain ⟨e2, e3⟩ := first_cut (hp p List.mem_cons_self) (hq q List.mem_cons_self) e1; have e4 := join_inj c (by simp) (by simp) (fun z hz => hp z (List.mem_cons_of_mem _ hz)) (fun z hz => hq z (List.mem_cons_of_mem _ hz)) (ext e3)
  rw [ext e2, e4]
theorem split_ne (x y : Str) : Txt.split x y ≠ [] := by
 unfold Txt.split
 split
 ·simp
 ·split
  ·simp
  ·unfold Builtin.Str.partsBetween; intro e; have := congrArg List.length e
   simp at this
theorem sp_is : (Str.ofString " ") = ⟨#[32]⟩ := by decide +kernel
theorem split_join {ws : List Str} (h : ws ≠ []) (hf : ∀ w ∈ ws, 32 ∉ w.cps.toList) : Txt.split (Txt.join " " ws) " " = ws := by
 have e := StrLaws.join_split (Txt.join (Str.ofString " ") ws) (Str.ofString " ")
 refine join_inj 32 (split_ne _ _) h ?_ hf ?_
 ·have q := StrLaws.split_free (Txt.join (Str.ofString " ") ws) 32
  rw [← sp_is] at q; exact q
 ·rw [← sp_is, e]; exact StrLaws.glued_eq_join _ _
abbrev sI (i : Int) : Str := Str.ofString (toString i)
theorem nat_digits (m : Nat) : AllDigits (sI m).cps.toList ∧ (sI m).cps.toList ≠ [] ∧ digitsVal (sI m).cps.toList = m := by
 refine ⟨fun c hc => ?_, ?_, by rw [KIN.signs_num, KIN.val_back]⟩
 ·rw [KIN.signs_num] at hc; obtain ⟨ch, hch, e⟩ := List.mem_map.mp hc; have r := digit_range (Nat.isDigit_of_mem_toDigits (by decide) (by decide) hch)
  rw [← e]; exact r
 ·rw [KIN.signs_num]; intro e; have h := toDigits_len_ge 10 m
  rw [List.map_eq_nil_iff.mp e] at h; exact absurd h (by decide)
theorem neg_text (m : Nat) : (sI (-((m + 1 : Nat) : Int))).cps.toList = 45 :: (sI ((m + 1 : Nat) : Int)).cps.toList := by
 have e : toString (-((m + 1 : Nat) : Int)) = "-" ++ toString ((m + 1 : Nat) : Int) := rfl
 rw [sI, e, signs_ofString, signs_ofString, String.toList_append]; rfl
theorem dl : ∀ (k m : Nat), m < 10 ^ (k + 1) → (Nat.toDigits 10 m).length ≤ k + 1
 | 0, m, h => by rw [Nat.toDigits_of_lt_base (by simpa using h)]; simp
 | k + 1, m, h => by
  by_cases c : m < 10
  ·rw [Nat.toDigits_of_lt_base c]; simp
  ·have hm : m % 10 < 10 := Nat.mod_lt m (by decide)
   have t : Nat.toDigits 10 (m / 10) ++ Nat.toDigits 10 (m % 10) = Nat.toDigits 10 (10 * (m / 10) + m % 10) := Nat.toDigits_append_toDigits (by decide) (by omega) hm
   rw [Nat.div_add_mod] at t; have q := dl k (m / 10) (by rw [Nat.pow_succ] at h; omega)
   rw [← t, List.length_append, Nat.toDigits_of_lt_base hm]; simp; omega
theorem len6 {m : Nat} (h : m ≤ 999999) : (sI (m : Int)).length ≤ 6 := by
 have e : (sI (m : Int)).length = (sI (m : Int)).cps.toList.length := by simp [Str.length]
 rw [e, KIN.signs_num, List.length_map]; exact dl 5 m (by omega)
theorem len_pos (m : Nat) : 1 ≤ (sI (m : Int)).length := by
 have e : (sI (m : Int)).length = (sI (m : Int)).cps.toList.length := by simp [Str.length]
 rw [e]; have := (nat_digits m).2.1
 cases q : (sI (m : Int)).cps.toList with
 | nil => exact absurd q this
 | cons _ _ => simp
theorem int_reads {a : Int} (h : a.natAbs ≤ 999999) : PySem.intText? (sI a) = some a ∧ (sI a).length ≤ 7 := by
 by_cases c : a < 0
 ·obtain ⟨m, rfl⟩ : ∃ m : Nat, a = -((m + 1 : Nat) : Int) := ⟨a.natAbs - 1, by omega⟩
  have e := neg_text m
  have l6 := len6 (m := m + 1) (by omega)
  have hx : (sI (-((m + 1 : Nat) : Int))).length = (sI (((m + 1 : Nat) : Int))).length + 1 := by
   have := congrArg List.length e
   simpa [Str.length] using this
  obtain ⟨d1, d2, d3⟩ := nat_digits (m + 1); have q := intText_neg e d1 d2 (by omega)
  rw [d3] at q; exact ⟨q, by omega⟩
 ·obtain ⟨m, rfl⟩ : ∃ m : Nat, a = (m : Int) := ⟨a.natAbs, by omega⟩
  have l6 := len6 (m := m) (by omega)
  obtain ⟨d1, d2, d3⟩ := nat_digits m; have q := intText_digits d1 d2 (by omega)
  rw [d3] at q; exact ⟨q, by omega⟩
theorem rem_minus {a : Int} : Txt.removeprefix (sI a) "-" = sI (a.natAbs : Int) := by
 rw [StrLaws.removeprefix_eq]; have hy : (Str.ofString "-") = ⟨#[45]⟩ := by decide +kernel
 rw [hy]
 by_cases c : a < 0
 ·obtain ⟨m, rfl⟩ : ∃ m : Nat, a = -((m + 1 : Nat) : Int) := ⟨a.natAbs - 1, by omega⟩
  have e := neg_text m
  have s0 : Builtin.Str.subAt (sI (-((m + 1 : Nat) : Int))) ⟨#[45]⟩ 0 = true := by
   refine ((StrLaws.subAt_one _ 45 0).mpr ?_).2; rw [e]; rfl
  have hl : (⟨#[45]⟩ : Str).length = 1 := rfl
  have hx : (sI (-((m + 1 : Nat) : Int))).length = (sI (((m + 1 : Nat) : Int))).length + 1 := by
   have := congrArg List.length e
   simpa [Str.length] using this
  rw [hl, s0, decide_eq_true (by omega)]
  simp only [Bool.and_self, if_true]; refine ext ?_; rw [e]; have : ((-((m + 1 : Nat) : Int)).natAbs : Int) = ((m + 1 : Nat) : Int) := by omega
  rw [this]; simp only [List.drop_succ_cons, List.drop_zero, hx]; rw [List.take_of_length_le]; simp [Str.length]
 ·obtain ⟨m, rfl⟩ : ∃ m : Nat, a = (m : Int) := ⟨a.natAbs, by omega⟩
  have s0 : ¬ Builtin.Str.subAt (sI (m : Int)) ⟨#[45]⟩ 0 = true := fun h => by
   by_cases hl : 1 ≤ (sI (m : Int)).length
   ·have q := (StrLaws.subAt_one (sI (m : Int)) 45 0).mp ⟨by show 0 + 1 ≤ _; omega, h⟩
    have r := (nat_digits m).1 45 (List.mem_of_getElem? q)
    omega
   ·exact hl (len_pos m)
  rw [if_neg (by simp [s0])]
  simp
theorem part_at {x y : Str} {c : Nat} (hx : c ∉ x.cps.toList) : Txt.partition (x ++ ⟨#[c]⟩ ++ y) ⟨#[c]⟩ = (x, ⟨#[c]⟩, y) := by
 have hz : (x ++ ⟨#[c]⟩ ++ y).cps.toList = x.cps.toList ++ c :: y.cps.toList := by simp [Str.cps_append]
 obtain ⟨z, ez⟩ : ∃ z, z = x ++ ⟨#[c]⟩ ++ y := ⟨_, rfl⟩; rw [← ez] at hz ⊢; have hn : ∀ k, k < x.cps.toList.length → ¬ StrLaws.At z ⟨#[c]⟩ z.length k := fun k hk h => by
  have q := (StrLaws.subAt_one z c k).mp h
  rw [hz, List.getElem?_append_left hk] at q; exact hx (List.mem_of_getElem? q)
 have ha : StrLaws.At z ⟨#[c]⟩ z.length x.cps.toList.length := (StrLaws.subAt_one z c _).mpr (by rw [hz, List.getElem?_append_right (Nat.le_refl _)]; simp)
 unfold Txt.partition; rcases StrLaws.occ_head z ⟨#[c]⟩ 1 (Nat.le_refl _) with ⟨_, h⟩ | ⟨i, r, e, h1, h2⟩
 ·exact absurd ha (h _)
 ·have ei : i = x.cps.toList.length := by
   rcases Nat.lt_trichotomy i x.cps.toList.length with h | h | h
   ·exact absurd h1 (hn i h)
   ·exact h
   ·exact absurd ha (h2 _ h)
  rw [e]; subst ei; have l1 : (⟨#[c]⟩ : Str).length = 1 := rfl
  have lz : z.length = x.cps.toList.length + 1 + y.cps.toList.length := by
   have := congrArg List.length hz
   simp at this; simp [Str.length]; omega
  refine Prod.ext (ext ?_) (Prod.ext rfl (ext ?_))
  ·show (z.cps.extract 0 _).toList = _
   rw [Array.toList_extract, hz]; simp
  ·show (z.cps.extract _ _).toList = _
   rw [Array.toList_extract, hz, l1, lz]; have q := List.drop_left (l₁ := x.cps.toList ++ [c]) (l₂ := y.cps.toList)
   simp at q ⊢; rw [q]; rw [List.take_of_length_le (by simp)]
theorem part_no {x : Str} {c : Nat} (hx : c ∉ x.cps.toList) : Txt.partition x ⟨#[c]⟩ = (x, Str.empty, Str.empty) := by
 unfold Txt.partition; rcases StrLaws.occ_head x ⟨#[c]⟩ 1 (Nat.le_refl _) with ⟨e, _⟩ | ⟨i, r, e, h1, h2⟩
 ·rw [e]
 ·exact absurd (List.mem_of_getElem? ((StrLaws.subAt_one x c i).mp h1)) hx
end TX
namespace K85
open PySem PySem.Spec PyProof.Rows L2 DL K01
abbrev EN (R : DK) : Ends2 := { nx := fun _ m => R (.dat .none) m, rt := R }
@[simp] theorem at0 (x : PyData) (xs : List PyData) : atI (x :: xs) 0 = some x := by simp [atI, ixN]
@[simp] theorem at1 (x y : PyData) (xs : List PyData) : atI (x :: y :: xs) 1 = some y := by
 have : (1 : Int) < xs.length + 1 + 1 := by omega
 simp [atI, ixN, this]
theorem sz {n : Nat} (h : n ≤ 1000) : n ≤ sizeLine := Nat.le_trans h (by rw [sizeLine_eq]; decide)
theorem mulL {i j : Int} (h : Bd 64 i) : IntMulOk i j := IntMulOk.of_left (intBits_le_iff.mpr h)
theorem mulR {i j : Int} (h : Bd 64 j) : IntMulOk i j := IntMulOk.of_right (intBits_le_iff.mpr h)
theorem lay_ints : ∀ ns : List Int, PyData.canLayAll0 (ns.map .int) = true ∧ PyData.depthAll (ns.map .int) ≤ 1
 | [] => by simp [PyData.canLayAll0, PyData.depthAll]
 | n :: ns => by
  obtain ⟨h1, h2⟩ := lay_ints ns; simp only [List.map_cons, PyData.canLayAll0, PyData.depthAll, PyData.canLay0, PyData.depth, h1, Bool.and_self]; exact ⟨trivial, by omega⟩
theorem at_ints {ns : List Int} {i : Int} (h0 : 0 ≤ i) (h : i < (ns.length : Int)) : ∃ v : Int, atI (ns.map PyData.int) i = some (.int v) := by
 obtain ⟨k, rfl⟩ : ∃ k : Nat, i = k := ⟨i.toNat, by omega⟩
 have hk : k < ns.length := by omega
 exact ⟨ns[k], atI_nat (by rw [List.getElem?_map, List.getElem?_eq_getElem hk] <;> rfl)⟩
theorem bds {i : Int} (h0 : -100000000 ≤ i) (h1 : i ≤ 100000000) : Bd 64 i := by
 unfold Bd; have e : (2 : Nat) ^ 64 = 18446744073709551616 := by decide
 omega
theorem vc__law_tape : ∀ ds m R, ds.length = p__law_tape.length → sp__law_tape ds m R → b__law_tape (EN R) (start2 N__law_tape ds) m := by
 rintro ds m R hl ⟨ns, rfl, hn, h⟩; have e : cutP (ns.map PyData.int) none (some 63) = ns.map PyData.int := by
  refine cut_whole _ ⟨rfl, ?_⟩; simp [HT.sIx]; omega
 simp [b__law_tape, e, sz]; exact fun a _ => h a _ ⟨ns, 0, 0, updM_same, hn, by decide, by decide, by decide⟩
theorem tp_upd {m : Mu} {a : Addr} {ns : List Int} {L i j : Int} {l l2 : Cel} (hn : ns.length ≤ 63) (h0 : 0 ≤ i) (h1 : i ≤ L + 1) (h2 : 0 ≤ j) : Fed 1 L m (updM m a (.l [.list (ns.map .int), .int i, .int j])) a :=
 ⟨⟨ns, i, j, updM_same, hn, h0, h1, h2⟩, fun c hc _ => updM_ne hc⟩
theorem tp_upd2 {m : Mu} {a : Addr} {ns : List Int} {L i j : Int} {l : Cel} (hn : ns.length ≤ 63) (h0 : 0 ≤ i) (h1 : i ≤ L + 1) (h2 : 0 ≤ j) : Fed 1 L m (updM (updM m a l) a (.l [.list (ns.map .int), .int i, .int j])) a :=
 ⟨⟨ns, i, j, updM_same, hn, h0, h1, h2⟩, fun c hc _ => by rw [updM_ne hc, updM_ne hc]⟩
theorem vc__law_draw : ∀ ds m R, ds.length = p__law_draw.length → sp__law_draw ds m R → b__law_draw (EN R) (start2 N__law_draw ds) m := by
 rintro ds m R hl ⟨a, n, L, rfl, h0, hb, hL, ⟨ns, i, j, hm, hn, i0, i1, j0⟩, h⟩; have nl : n.natAbs.log2 < 9000 := Nat.lt_of_lt_of_le (hb.log (by decide)) (by decide)
 have n0 : n ≠ 0 := by omega
 have rng : ∀ x : Int, 0 ≤ x.fmod n ∧ x.fmod n < n := fun x => ⟨Int.fmod_nonneg_of_pos _ h0, Int.fmod_lt_of_pos _ h0⟩
 simp [b__law_draw, atI, ixN, hm]
 by_cases hj : 0 < j
 ·right
  refine ⟨hj, ?_⟩; simp [b__law_draw_B0, b__law_draw_B0_1, b__law_draw_B0_2, atI, ixN, hm, n0, nl]; refine h _ _ (rng j).1 (rng j).2 (tp_upd (l := .l []) (l2 := .l []) hn i0 (by omega) ?_)
  rw [Int.fdiv_eq_ediv_of_nonneg _ (by omega)]
  exact Int.ediv_nonneg (by omega) (by omega)
 ·left
  refine ⟨by omega, ?_⟩
  have hsq : IntMulOk i i := mulL (bds (by omega) (by omega))
  simp [b__law_draw_1, b__law_draw_2, b__law_draw_3, atI, ixN, hm, hsq]; have tail : ∀ (cell : Int) (m' : Mu), m' = updM m a (.l [.list (ns.map .int), .int (i + 1), .int j]) → b__law_draw_5 (EN R) [some (.cel a), some (I n), none, some (I i), some (I cell), none] m' := by
   rintro cell m' rfl; have hjj : j = 0 := by omega
   have fin : b__law_draw_6 (EN R) [some (.cel a), some (I n), none, some (I i), some (I cell), none] (updM m a (.l [.list (ns.map .int), .int (i + 1), .int j])) := by
    simp [b__law_draw_6, b__law_draw_7, b__law_draw_8, n0, nl]; exact ⟨mulR (bds (by decide) (by decide)), mulL (bds (by decide) (by decide)), mulR (bds (by decide) (by decide)), mulR (bds (by decide) (by decide)), hsq, mulR (bds (by decide) (by decide)), by decide +kernel, h _ _ (rng _).1 (rng _).2 (tp_upd (l := .l []) (l2 := .l []) hn (by omega) (by omega) j0)⟩
   simp [b__law_draw_5, atI, ixN, updM_same]
   by_cases c1 : cell < 1000000000000000000
   ·exact .inl ⟨c1, fin⟩
   ·right
    refine ⟨by omega, ?_⟩
    by_cases c2 : (ns.length : Int) ≤ i
    ·exact .inl ⟨c2, fin⟩
    ·right
     refine ⟨by omega, ?_⟩
     simp [b__law_draw_B1, b__law_draw_B1_1, atI, ixN, updM_same, n0, nl]; refine h _ _ (rng _).1 (rng _).2 (tp_upd2 hn (by omega) (by omega) ?_)
     rw [Int.fdiv_eq_ediv_of_nonneg _ (by omega)]
     exact Int.ediv_nonneg (by omega) (by omega)
  obtain ⟨y1, y2⟩ := lay_ints ns; simp [b__law_draw_4, updM_same, PyData.canLay0, PyData.depth, y1]; refine ⟨rfl, by omega, ?_⟩
  by_cases hz : ns = []
  ·left
   subst hz; exact ⟨rfl, tail _ _ rfl⟩
  ·right
   have hp : (0 : Int) < ns.length := by
    have : ns.length ≠ 0 := fun e => hz (List.length_eq_zero_iff.mp e)
    omega
   obtain ⟨v, hv⟩ := at_ints (ns := ns) (i := i.fmod ns.length) (Int.fmod_nonneg_of_pos _ hp) (Int.fmod_lt_of_pos _ hp); refine ⟨?_, hz, _, hv, tail _ _ rfl⟩
   cases ns with
   | nil => exact absurd rfl hz
   | cons x xs => rfl
theorem Fed.trans {b c n : Int} {m m1 m2 : Mu} {a : Addr} (h : Fed b n m m1 a) (q : Fed c (n + b) m1 m2 a) : Fed (b + c) n m m2 a := by
 refine ⟨by have := q.1; rwa [Int.add_assoc] at this, fun x hx hs => ?_⟩
 have e := h.2 x hx hs
 rw [q.2 x hx (by rw [e]; exact hs), e]
theorem Fed.mono {b c n : Int} {m m1 : Mu} {a : Addr} (h : Fed b n m m1 a) (hb : b ≤ c) : Fed c n m m1 a := by
 obtain ⟨⟨ns, i, j, q1, q2, q3, q4, q5⟩, q⟩ := h; exact ⟨⟨ns, i, j, q1, q2, q3, by omega, q5⟩, q⟩
theorem Fed.refl {n : Int} {m : Mu} {a : Addr} (h : Tp n m a) : Fed 0 n m m a := ⟨by simpa using h, fun _ _ _ => rfl⟩
theorem draw_use {a : Addr} {n b L : Int} {m0 m : Mu} {R : DK} (h0 : 0 < n) (hb : n < 1000000) (hL : L ≤ 9000000) (hbb : b ≤ 100000) (hf : Fed b L m0 m a) (h : ∀ (r : Int) m', 0 ≤ r → r < n → Fed (b + 1) L m0 m' a → R (I r) m') : sp__law_draw [.cel a, I n] m R := by
 refine ⟨a, n, L + b, rfl, h0, ?_, by omega, hf.1, fun r m' q0 q1 q2 => h r m' q0 q1 (hf.trans q2)⟩
 refine Bd.mono (m := 20) ?_ (by decide)
 unfold Bd; have e : (2 : Nat) ^ 20 = 1048576 := by decide
 omega
theorem vc__law_frac : ∀ ds m R, ds.length = p__law_frac.length → sp__law_frac ds m R → b__law_frac (EN R) (start2 N__law_frac ds) m := by
 rintro ds m R hl ⟨t, b, rfl, h0, hb, h⟩; have g0 := gcd_pos (t := t) (b := b) (by omega)
 have gb : Bd 2000 ((t.gcd b : Nat) : Int) := by
  have := Int.gcd_le_natAbs_right t (b := b) (by omega)
  have hb' : Bd 2000 b := hb.mono (by decide)
  unfold Bd at *; omega
 have gl := gb.log (by decide)
 simp [b__law_frac]; refine ⟨_, _, ⟨rfl, rfl⟩, ?_⟩; simp [b__law_frac_1]; refine ⟨fun n d m' => m' = m ∧ ∃ x y : Int, d = [some (I t), some (I b), some (I x), some (I y)] ∧ n = y.natAbs ∧ 0 ≤ y ∧ 0 ≤ x ∧ Int.gcd x y = Int.gcd t b, ⟨_, rfl, (if t < 0 then -t else t), b, rfl, rfl, by omega, by split <;> omega, ?_⟩, ?_⟩
 ·split
  ·rw [Int.neg_gcd]
  ·rfl
 rintro n d m' ⟨rfl, x, y, rfl, rfl, hy0, hx0, hg⟩
 by_cases hy : y = 0
 ·subst hy; rw [Int.gcd_zero_right] at hg; have ex : x = ((t.gcd b : Nat) : Int) := by rw [← hg]; omega
  subst ex; simp [b__law_frac_2]; refine ⟨fun _ => by omega, Nat.lt_of_lt_of_le (by simpa using gl) (show 2000 ≤ 9000 by decide), fun _ => by omega, Nat.lt_of_lt_of_le (by simpa using gl) (show 2000 ≤ 9000 by decide), sz (by decide), ?_⟩
  rw [Int.fdiv_eq_ediv_of_nonneg _ (by omega), Int.fdiv_eq_ediv_of_nonneg _ (by omega)]
  exact h
 ·have hp : 0 < y := by omega
  simp [hy, hp, b__law_frac_L0]; refine ⟨fun d' m'' => m'' = m' ∧ d' = [some (I t), some (I b), some (I y), some (I (x.fmod y))], ?_, by simp⟩
  rintro d' m'' ⟨rfl, rfl⟩; exact ⟨_, fmod_lt x y hy, rfl, y, x.fmod y, rfl, rfl, Int.fmod_nonneg_of_pos _ hp, hy0, by rw [gcd_fmod]; exact hg⟩
theorem vc__law_cmp : ∀ ds m R, ds.length = p__law_cmp.length → sp__law_cmp ds m R → b__law_cmp (EN R) (start2 N__law_cmp ds) m := by
 rintro ds m R hl ⟨⟨a, b⟩, ⟨c, d⟩, rfl, b1, b2, b3, b4, h⟩; simp [b__law_cmp, b__law_cmp_1, b__law_cmp_2]; refine ⟨b1.mulOk b4 (by decide), b3.mulOk b2 (by decide), ?_⟩
 simpa [cmpI] using h
theorem cmpI_3 (x y : Int × Int) : cmpI x y = -1 ∨ cmpI x y = 0 ∨ cmpI x y = 1 := by
 unfold cmpI
 split <;> split <;> omega
theorem cm_3 (x y : PyData) : cm x y = -1 ∨ cm x y = 0 ∨ cm x y = 1 := cmpI_3 _ _
theorem cmp_use {x y : PyData} {m : Mu} {R : DK} (hx : Fr 20 x) (hy : Fr 20 y) (h : R (I (cm x y)) m) : sp__law_cmp [.dat x, .dat y] m R := by
 obtain ⟨u, rfl, _, q1, q2⟩ := hx; obtain ⟨v, rfl, _, q3, q4⟩ := hy; exact ⟨u, v, rfl, q1.mono (by decide), q2.mono (by decide), q3.mono (by decide), q4.mono (by decide), h⟩
theorem tm_pr {k : Bool} {p : PyData} (h : Tm k p) : ∃ x y, prF k p = .tuple [x, y] ∧ Fr 20 x ∧ Fr 20 y := by
 rcases h with ⟨rfl, hf⟩ | ⟨rfl, x, y, rfl, hx, hy⟩
 ·exact ⟨p, p, rfl, hf, hf⟩
 ·exact ⟨x, y, rfl, hx, hy⟩
theorem vc__law_pair : ∀ ds m R, ds.length = p__law_pair.length → sp__law_pair ds m R → b__law_pair (EN R) (start2 N__law_pair ds) m := by
 rintro ds m R hl ⟨k, p, rfl, ht, h⟩; rcases ht with ⟨rfl, hf⟩ | ⟨rfl, x, y, rfl, hx, hy⟩
 ·simp (decide := true) [b__law_pair, kd, sz]; exact h
 ·simp (decide := true) [b__law_pair, kd]; exact h
theorem pair_use {k : Bool} {p : PyData} {m : Mu} {R : DK} (ht : Tm k p) (h : ∀ x y, prF k p = .tuple [x, y] → Fr 20 x → Fr 20 y → R (.dat (.tuple [x, y])) m) : sp__law_pair [.dat (.str (kd k)), .dat p] m R := by
 obtain ⟨x, y, e, hx, hy⟩ := tm_pr ht; exact ⟨k, p, rfl, ht, by rw [e]; exact h x y e hx hy⟩
theorem rows_at (i j : Int) (hi : i = -1 ∨ i = 0 ∨ i = 1) (hj : j = -1 ∨ j = 0 ∨ j = 1) : ∃ xs, atI [PyData.list [.str "overlaps", .str "ended", .str "holds"], .list [.str "begins", .str "same", .str "begun"], .list [.str "within", .str "ends", .str "lapped"]] (i + 1) = some (.list xs) ∧ atI xs (j + 1) = some (.str (rowW i j)) := by
 rcases hi with rfl | rfl | rfl <;> refine ⟨_, rfl, ?_⟩ <;> rcases hj with rfl | rfl | rfl <;> rfl
theorem kd_st2 (k : Bool) : (kd k = Str.ofString "stretch") ↔ k = true := by cases k <;> decide
theorem vc__law_word : ∀ ds m R, ds.length = p__law_word.length → sp__law_word ds m R → b__law_word (EN R) (start2 N__law_word ds) m := by
 rintro ds m R hl ⟨k, l, p, q, rfl, hp, hq, h⟩; simp [b__law_word]; refine pair_use hp fun x0 x1 ex hx0 hx1 => ?_; refine pair_use hq fun y0 y1 ey hy0 hy1 => ?_; refine ⟨_, _, ⟨rfl, rfl⟩, ?_⟩; unfold wdF at h; simp only [ex, ey, p0, p1] at h; simp [b__law_word_1]; refine cmp_use hx1 hy0 ?_
 by_cases c : cm x1 y0 < 0
 ·simp [c]; rw [if_pos c] at h; exact h
 rw [if_neg c] at h; simp [c, b__law_word_2]; refine cmp_use hy1 hx0 ?_
 by_cases c2 : cm y1 x0 < 0
 ·simp [c2]; rw [if_pos c2] at h; exact h
 rw [if_neg c2] at h; simp [c2, b__law_word_3]; have last : R (.dat (.str (rowW (cm x0 y0) (cm x1 y1)))) m → b__law_word_4 (EN R) [some (.dat (.tuple [.str (kd k), p])), some (.dat (.tuple [.str (kd l), q])), some (.dat (.tuple [x0, x1])), some (.dat (.tuple [y0, y1])), none] m := fun h => by
  simp [b__law_word_4, b__law_word_5, sz]; refine cmp_use hx0 hy0 ?_; obtain ⟨xs, e1, e2⟩ := rows_at _ _ (cm_3 x0 y0) (cm_3 x1 y1); refine ⟨_, e1, ?_⟩; refine cmp_use hx1 hy1 ?_; exact ⟨_, e2, h⟩
 by_cases e1 : kd k = Str.ofString "stretch"
 ·right
  refine ⟨e1, ?_⟩; rw [kd_st2] at e1
  by_cases e2 : kd l = Str.ofString "stretch"
  ·right
   refine ⟨e2, ?_⟩; rw [kd_st2] at e2; simp [b__law_word_B0]; refine cmp_use hx1 hy0 ?_; simp [PyData.eqv, PyData.canLay0, PyData.depth]
   by_cases c3 : cm x1 y0 = 0
   ·rw [if_pos ⟨e1, e2, c3⟩] at h; exact .inr ⟨c3, h⟩
   ·left
    refine ⟨c3, ?_⟩; rw [if_neg (fun z => c3 z.2.2)] at h; simp [b__law_word_B0_1]; refine cmp_use hy1 hx0 ?_; simp [PyData.eqv, PyData.canLay0, PyData.depth]
    by_cases c4 : cm y1 x0 = 0
    ·rw [if_pos ⟨e1, e2, c4⟩] at h; exact .inr ⟨c4, h⟩
    ·rw [if_neg (fun z => c4 z.2.2)] at h; exact .inl ⟨c4, last h⟩
  ·rw [kd_st2] at e2; rw [if_neg (fun z => e2 z.2.1), if_neg (fun z => e2 z.2.1)] at h; exact .inl ⟨by rw [kd_st2]; exact e2, last h⟩
 ·rw [kd_st2] at e1; rw [if_neg (fun z => e1 z.1), if_neg (fun z => e1 z.1)] at h; exact .inl ⟨by rw [kd_st2]; exact e1, last h⟩
theorem Fed.tp {b n : Int} {m0 m : Mu} {a : Addr} (h : Fed b n m0 m a) : (m a).isSome = true := by
 obtain ⟨⟨ns, i, j, q, _⟩, _⟩ := h; rw [q]; rfl
theorem Fed.new {b n : Int} {m0 m : Mu} {a c : Addr} (h : Fed b n m0 m a) (hc : m c = none) : c ≠ a ∧ m0 c = none := by
 have ne : c ≠ a := by
  rintro rfl; have := h.tp
  rw [hc] at this
  cases this
 refine ⟨ne, ?_⟩
 cases e : m0 c with
 | none => rfl
 | some x =>
  have := h.2 c ne (by rw [e]; rfl)
  rw [hc, e] at this
  cases this
theorem Fed.upd {b n : Int} {m0 m : Mu} {a c : Addr} {x : Cel} (h : Fed b n m0 m a) (hca : c ≠ a) (hc : m0 c = none) : Fed b n m0 (updM m c x) a := by
 obtain ⟨⟨ns, i, j, q1, q⟩, h2⟩ := h; refine ⟨⟨ns, i, j, by rw [updM_ne (Ne.symm hca)]; exact q1, q⟩, fun y hy hs => ?_⟩
 have ne : y ≠ c := by rintro rfl; rw [hc] at hs; cases hs
 rw [updM_ne ne]; exact h2 y hy hs
theorem draw_use2 {a : Addr} {n b L : Int} {m0 m : Mu} {R : DK} (h0 : 0 < n) (hb : n < 1000000) (hL : L ≤ 9000000) (hbb : b ≤ 100000) (hf : Fed b L m0 m a) (h : ∀ (r : Int) m', 0 ≤ r → r < n → Fed (b + 1) L m0 m' a → (∀ c x, c ≠ a → m c = some x → m' c = some x) → R (I r) m') : sp__law_draw [.cel a, I n] m R := by
 refine ⟨a, n, L + b, rfl, h0, ?_, by omega, hf.1, fun r m' q0 q1 q2 => h r m' q0 q1 (hf.trans q2) fun c x hc hx => by rw [q2.2 c hc (by rw [hx]; rfl)]; exact hx⟩
 refine Bd.mono (m := 20) ?_ (by decide)
 unfold Bd; have e : (2 : Nat) ^ 20 = 1048576 := by decide
 omega
end K85
namespace K85
open PySem PySem.Spec PyProof.Rows L2 DL K01
theorem ite_t {c : Bool} {a b : Prop} (e : c = true) (h : a) : if c = true then a else b := by rw [if_pos e]; exact h
theorem ite_f {c : Bool} {a b : Prop} (e : c = false) (h : b) : if c = true then a else b := by rw [if_neg (by rw [e]; decide)]; exact h
theorem z2 : 2 ≤ sizeLine := sz (by decide)
theorem ints_cons (i n : Nat) : intsD (i : Int) (n + 1) = I i :: intsD ((i + 1 : Nat) : Int) n := by
 unfold intsD; rw [List.range_succ_eq_map, List.map_cons, List.map_map]
 congr 1
 refine List.map_congr_left fun k _ => ?_; have : (i : Int) + ((k + 1 : Nat) : Int) = ((i + 1 : Nat) : Int) + (k : Int) := by omega
 show D.dat (.int ((i : Int) + ((k + 1 : Nat) : Int))) = D.dat (.int (((i + 1 : Nat) : Int) + (k : Int)))
 rw [this]
theorem loopL_int {g : DG} {b : DS} {E : Ends2} (N : Nat) (J : Nat → St2 → Mu → Prop) (fin : ∀ d m, J N d m → E.nx d m)
  (step : ∀ i d m (k : St2 → Mu → Prop), i < N → J i d m → (∀ d' m', J (i + 1) d' m' → k d' m') → g (I i) d m fun d' m' => b { E with nx := k, ct := k, bk := E.nx } d' m') :
  ∀ (n i : Nat), i + n = N → ∀ d m, J i d m → loopL g b E (intsD (i : Int) n) d m
 | 0, i, e, d, m, h => by
  have : i = N := by omega
  subst this; exact fin d m h
 | n + 1, i, e, d, m, h => by
  rw [ints_cons]; exact step i d m _ (by omega) h (loopL_int N J fin step n (i + 1) (by omega))
theorem cut_from {xs : List PyData} {n : Nat} (h : n ≤ xs.length) : cutP xs (some (n : Int)) none = xs.drop n := by
 unfold cutP; have e1 : HT.sIx xs.length 0 (some (n : Int)) = n := by
  have q : ¬ ((n : Int) < 0) := by omega
  simp [HT.sIx, q]; exact Nat.min_eq_left h
 have e2 : HT.sIx xs.length xs.length none = xs.length := rfl
 rw [e1, e2]; exact List.take_of_length_le (by rw [List.length_drop]; omega)
theorem vc_common : ∀ ds m R, ds.length = p_common.length → sp_common ds m R → b_common (EN R) (start2 N_common ds) m := by
 rintro ds m R hl ⟨a, b, rfl, h⟩; simp [b_common, b_common_1, b_common_L0]; refine ⟨fun n d m' => m' = m ∧ ∃ x y : Int, d = [some (I x), some (I y)] ∧ n = y.natAbs ∧ Int.gcd x y = Int.gcd a b, ⟨_, rfl, a, b, rfl, rfl, rfl⟩, ?_⟩; rintro n d m' ⟨rfl, x, y, rfl, rfl, hg⟩
 by_cases hy : y = 0
 ·subst hy; rw [Int.gcd_zero_right] at hg; have e : (if x < 0 then -x else x) = ((a.gcd b : Nat) : Int) := by rw [← hg]; split <;> omega
  simp [PyData.eqv, PyData.canLay0, PyData.depth]; rw [e]; exact h
 ·simp [PyData.eqv, PyData.canLay0, PyData.depth, hy]; refine ⟨fun d' m'' => m'' = m' ∧ d' = [some (I y), some (I (x.fmod y))], ?_, by simp⟩
  rintro d' m'' ⟨rfl, rfl⟩; exact ⟨_, fmod_lt x y hy, rfl, y, x.fmod y, rfl, rfl, by rw [gcd_fmod]; exact hg⟩
theorem Kn.refl {m : Mu} : Kn m m := fun _ _ => rfl
theorem Kn.trans {m m1 m2 : Mu} (h : Kn m m1) (g : Kn m1 m2) : Kn m m2 := fun c h2 => by
 have e := h c h2
 rw [g c (by rw [e]; exact h2), e]
theorem Kn.new {m : Mu} {c : Addr} {x : Cel} (h : m c = none) : Kn m (updM m c x) := fun b hb => updM_ne fun e => by rw [e, h] at hb; cases hb
theorem Kn.get {m m' : Mu} {c : Addr} {x : Cel} (h : Kn m m') (hc : m c = some x) : m' c = some x := by rw [h c (by rw [hc]; rfl)]; exact hc
theorem loopC_pure {f : DE} {m : Mu} {rest : List (Option D)} (h : PyData → PyData) : ∀ (xs : List PyData) (acc : List PyData) (o : Option D) (Q : List PyData → Mu → Prop), (∀ x ∈ xs, ∀ K : DK, K (.dat (h x)) m → f (some (.dat x) :: rest) m K) → acc.length + xs.length ≤ 1000 → Q (acc ++ xs.map h) m → loopC (gN 0) dTrue f (xs.map .dat) acc (o :: rest) m Q
 | [], acc, o, Q, _, _, hq => by simpa [loopC] using hq
 | x :: xs, acc, o, Q, hs, hn, hq => by
  simp only [List.length_cons] at hn; rw [List.map_cons, loopC]; show f (some (.dat x) :: rest) m _
  refine hs x List.mem_cons_self _ ?_; exact ⟨_, rfl, Nat.lt_of_lt_of_le (by omega : acc.length < 1000) (sz (by decide)), loopC_pure h xs _ _ Q (fun y hy => hs y (List.mem_cons_of_mem _ hy)) (by simp; omega) (by simpa using hq)⟩
def lettr : PyData → PyData
 | .str z => .bool (Txt.contains "abcdefghijklmnopqrstuvwxyz" z)
 | _ => .none
theorem lettr_map (z : Str) : (sgnS z).map lettr = (z.cps.toList.map fun c => Txt.contains "abcdefghijklmnopqrstuvwxyz" ⟨#[c]⟩).map PyData.bool := by
 simp [sgnS, lettr, Function.comp_def]
theorem len_toList (z : Str) : z.cps.toList.length = z.length := by simp [Str.length]
theorem vc_is_whole : ∀ ds m R, ds.length = p_is_whole.length → sp_is_whole ds m R → b_is_whole (EN R) (start2 N_is_whole ds) m := by
 rintro ds m R hl ⟨i, rfl, h⟩; simpa [b_is_whole, DL.isK] using h
theorem vc_is_fraction : ∀ ds m R, ds.length = p_is_fraction.length → sp_is_fraction ds m R → b_is_fraction (EN R) (start2 N_is_fraction ds) m := by
 rintro ds m R hl ⟨n, rfl, nk, h⟩; have g : (Int.gcd n.1 n.2 : Int) = 1 := by rw [nk.gcd]; rfl
 simp [b_is_fraction, DL.isK, PyData.eqv, PyData.canLay0, PyData.depth]; simp [b_is_fraction_1]; simp [b_is_fraction_2]; refine ⟨n.1, rfl, ?_⟩; simp; refine ⟨n.2, rfl, ?_⟩; have := nk.pos
 simp [b_is_fraction_3, this]; refine ⟨n.1, n.2, rfl, ?_⟩; simpa [g, PyData.eqv, PyData.canLay0, PyData.depth] using h
theorem letter : ∀ c < 26, Txt.contains "abcdefghijklmnopqrstuvwxyz" ⟨#[97 + c]⟩ = true := by decide +kernel
theorem vc_is_name : ∀ ds m R, ds.length = p_is_name.length → sp_is_name ds m R → b_is_name (EN R) (start2 N_is_name ds) m := by
 rintro ds m R hl ⟨z, rfl, hz, h⟩; obtain ⟨h1, h2, h3⟩ := hz; have zs : z.length ≤ sizeLine := sz (by omega)
 simp [b_is_name, zs, DL.isK]; refine .inr ⟨by omega, .inr ⟨by omega, ?_⟩⟩
 simp [b_is_name_1, srcOf]; rw [show List.map (D.dat ∘ fun c => PyData.str { cps := #[c] }) z.cps.toList = (sgnS z).map D.dat from by rw [sgnS, List.map_map]]
 refine loopC_pure lettr (sgnS z) [] _ _ ?_ ?_ ?_
 ·intro x hx K hK; obtain ⟨c, hc, rfl⟩ := List.mem_map.mp hx; simpa [lettr] using hK
 ·rw [List.length_nil, sgnS, List.length_map, len_toList]; omega
 ·rw [List.nil_append, lettr_map]; refine ⟨_, rfl, ?_⟩; have e : (z.cps.toList.map fun c => Txt.contains "abcdefghijklmnopqrstuvwxyz" ⟨#[c]⟩).all id = true := by
   rw [List.all_map, List.all_eq_true]; intro c hc; obtain ⟨q1, q2⟩ := h1 c hc; have := letter (c - 97) (by omega)
   rw [show 97 + (c - 97) = c by omega] at this
   exact this
  rw [e]; exact h
theorem em (x : Str) : Str.empty ++ x = x := TX.ext (by simp [Str.cps_append, Str.empty])
theorem log_n {i : Int} (h : i.natAbs ≤ 999999) : i.natAbs.log2 < 1920 := Nat.lt_of_lt_of_le (log2_lt (k := 20) (by omega) (by decide)) (by decide)
theorem sI_len {i : Int} (h : i.natAbs ≤ 999999) : (sI i).length ≤ 7 := (TX.int_reads h).2
theorem vc_shown_number : ∀ ds m R, ds.length = p_shown_number.length → sp_shown_number ds m R → b_shown_number (EN R) (start2 N_shown_number ds) m := by
 rintro ds m R hl ⟨n, rfl, nk, h⟩; have n1 : n.1.natAbs ≤ 999999 := by have := nk.lo; have := nk.hi; omega
 have n2 : n.2.natAbs ≤ 999999 := by have := nk.pos; have := nk.le; omega
 have l1 := sI_len n1
 have l2 := sI_len n2
 simp [b_shown_number, b_shown_number_1]; unfold numT at h
 by_cases c : 1 < n.2
 ·rw [if_pos c] at h; refine .inr ⟨c, log_n n1, ?_⟩; rw [em]; have l1' : (Str.ofString n.1.repr).length ≤ 7 := l1
  have l2' : (Str.ofString n.2.repr).length ≤ 7 := l2
  have ls : (Str.ofString "/").length = 1 := by decide +kernel
  refine ⟨sz (by omega), sz (by rw [strLen_append, ls]; omega), log_n n2, sz (by rw [strLen_append, strLen_append, ls]; omega), h⟩
 ·rw [if_neg c] at h; exact .inl ⟨by omega, log_n n1, h⟩
def fig : PyData → PyData
 | .str z => .bool (Txt.contains "0123456789" z)
 | _ => .none
theorem fig_no (c : Nat) : Txt.contains "0123456789" ⟨#[c]⟩ = decide (c ∈ (Str.ofString "0123456789").cps.toList) := StrLaws.found_one _ _
theorem fig_list : (Str.ofString "0123456789").cps.toList = [48, 49, 50, 51, 52, 53, 54, 55, 56, 57] := by decide +kernel
theorem fig_is (c : Nat) : Txt.contains "0123456789" ⟨#[c]⟩ = decide (48 ≤ c ∧ c ≤ 57) := by
 rw [fig_no, fig_list, Bool.eq_iff_iff, decide_eq_true_eq, decide_eq_true_eq]; simp; omega
theorem vc_are_figures : ∀ ds m R, ds.length = p_are_figures.length → sp_are_figures ds m R → b_are_figures (EN R) (start2 N_are_figures ds) m := by
 rintro ds m R hl ⟨z, rfl, hz, h⟩; simp [b_are_figures]; refine ⟨sz (by omega), ?_⟩
 by_cases c1 : 1 ≤ z.length
 ·rw [decide_eq_true c1] at h; refine .inr ⟨by omega, ?_⟩
  by_cases c2 : z.length ≤ 200
  ·rw [decide_eq_true c2] at h; refine .inr ⟨by omega, ?_⟩
   rw [show List.map (D.dat ∘ fun c => PyData.str { cps := #[c] }) z.cps.toList = (sgnS z).map D.dat from by rw [sgnS, List.map_map]]
   refine loopC_pure fig (sgnS z) [] _ _ ?_ ?_ ?_
   ·intro x hx K hK; obtain ⟨c, hc, rfl⟩ := List.mem_map.mp hx; simpa [fig] using hK
   ·rw [List.length_nil, sgnS, List.length_map, len_toList]; omega
   ·refine ⟨z.cps.toList.map fun c => Txt.contains "0123456789" ⟨#[c]⟩, by simp [sgnS, fig, Function.comp_def], ?_⟩
    have e : (z.cps.toList.map fun c => Txt.contains "0123456789" ⟨#[c]⟩).all id = figs z := by
     unfold figs; rw [List.all_map, Bool.eq_iff_iff, List.all_eq_true, List.all_eq_true]; refine forall_congr' fun c => forall_congr' fun hc => ?_; simp only [Function.comp_apply, id]; rw [fig_is]
    rw [e]; exact h
  ·rw [decide_eq_false c2] at h; exact .inl ⟨by omega, by simpa using h⟩
 ·rw [decide_eq_false c1] at h; exact .inl ⟨by omega, by simpa using h⟩
theorem figs_use {m : Mu} {R : DK} {k : Nat} (h : k ≤ 999999) (q : R (.dat (.bool true)) m) : sp_are_figures [.dat (.str (sI (k : Int))), I 200] m R := by
 have l1 := TX.len6 h
 have l2 := TX.len_pos k
 refine ⟨sI (k : Int), rfl, Nat.le_trans l1 (by decide), ?_⟩
 have e : figs (sI (k : Int)) = true := by
  unfold figs; rw [List.all_eq_true]; exact fun c hc => decide_eq_true ((TX.nat_digits k).1 c hc)
 rw [e, decide_eq_true (show 1 ≤ (sI (k : Int)).length from l2), decide_eq_true (show (sI (k : Int)).length ≤ 200 from Nat.le_trans l1 (by decide))]
 exact q
theorem sl_is : Str.ofString "/" = ⟨#[47]⟩ := by decide +kernel
theorem fraction_ok {n : Int × Int} {m : Mu} {R : DK} (nk : NumOk n) (q : R (.dat (.bool true)) m) : sp_is_fraction [.dat (fq n)] m R := ⟨n, rfl, nk, q⟩
theorem free47 (i : Int) : 47 ∉ (sI i).cps.toList := int_text_free' 47 ⟨by decide, by decide⟩ i
theorem sOk (x : Str) (h : ∀ c ∈ x.cps.toList, c < 1114112) : PyData.strOk x = true := by
 unfold PyData.strOk; rw [Array.all_eq_true']; intro c hc; exact decide_eq_true (h c (by simpa using hc))
theorem figs_int {m : Mu} {R : DK} {i : Int} (h0 : 0 ≤ i) (h : i ≤ 999999) (q : R (.dat (.bool true)) m) : sp_are_figures [.dat (.str (sI i)), I 200] m R := by
 obtain ⟨k, rfl⟩ : ∃ k : Nat, i = k := ⟨i.toNat, by omega⟩
 exact figs_use (by omega) q
theorem rn3 {n : Int × Int} {m : Mu} {R : DK} (nk : NumOk n) (h : R (.dat (fq n)) m) (o1 o2 o3 o4 : Option D) : b_read_number_3 (EN R) [some (.dat (.str (numT n))), o1, o2, o3, o4, some (.dat (fq n))] m := by
 refine ⟨_, rfl, rfl, fraction_ok nk ⟨_, rfl, ?_⟩⟩; simp only [if_true]; refine ⟨_, rfl, rfl, n, rfl, nk, _, rfl, _, rfl, ?_⟩; simp only [decide_true, if_true]; exact ⟨_, rfl, h⟩
theorem vc_read_number : ∀ ds m R, ds.length = p_read_number.length → sp_read_number ds m R → b_read_number (EN R) (start2 N_read_number ds) m := by
 rintro ds m R hl ⟨n, rfl, nk, h⟩; have n1 : n.1.natAbs ≤ 999999 := by have := nk.lo; have := nk.hi; omega
 have n2 : n.2.natAbs ≤ 999999 := by have := nk.pos; have := nk.le; omega
 obtain ⟨r1, l1⟩ := TX.int_reads n1; obtain ⟨r2, l2⟩ := TX.int_reads n2; have e2 : ((n.2.natAbs : Nat) : Int) = n.2 := by have := nk.pos; omega
 have hz : (numT n).length ≤ 15 := by
  unfold numT; have ls : (Str.ofString "/").length = 1 := by decide +kernel
  split
  ·rw [strLen_append, strLen_append, ls]; show (TX.sI n.1).length + 1 + (TX.sI n.2).length ≤ 15
   omega
  ·show (TX.sI n.1).length ≤ 15
   omega
 refine ⟨_, rfl, _, rfl, sz (by omega), _, rfl, by decide +kernel, ?_⟩
 by_cases c : 1 < n.2
 ·have e : Txt.partition (numT n) (Str.ofString "/") = (sI n.1, Str.ofString "/", sI n.2) := by
   unfold numT; rw [if_pos c, sl_is]; exact TX.part_at (free47 _)
  rw [e]; refine ⟨_, rfl, rfl, rfl, ?_⟩; show b_read_number_1 (EN R) [some (.dat (.str (numT n))), some (I 200), some (.dat (.str (sI n.1))), some (.dat (.str "/")), some (.dat (.str (sI n.2))), none] m
  unfold b_read_number_1; refine ⟨_, rfl, _, rfl, sz (Nat.le_trans l1 (by decide)), _, rfl, _, rfl, rfl, ?_⟩
  rw [show Txt.removeprefix (sI n.1) (Str.ofString "-") = sI (n.1.natAbs : Int) from TX.rem_minus]
  refine figs_use n1 ⟨_, rfl, ?_⟩; simp only [Bool.not_true, Bool.false_eq_true, if_false]; refine ⟨_, rfl, _, rfl, ?_⟩; simp only [show decide (Str.ofString "/" = Str.ofString "") = false by decide +kernel, Bool.not_true, Bool.not_false, Bool.false_eq_true, if_false, if_true]
  refine ⟨_, rfl, _, rfl, rfl, figs_int (by have := nk.pos; omega) nk.le ⟨_, rfl, ?_⟩⟩
  simp only [Bool.not_true, Bool.false_eq_true, if_false]; show b_read_number_2 (EN R) _ _
  unfold b_read_number_2; refine ⟨_, rfl, Nat.le_trans l1 (by decide), _, r1, _, rfl, _, rfl, ?_⟩
  simp only [show decide (Str.ofString "/" = Str.ofString "") = false by decide +kernel, Bool.not_true, Bool.not_false, Bool.false_eq_true, if_false, if_true]
  refine ⟨_, rfl, Nat.le_trans l2 (by decide), _, r2, _, rfl, (sz (by decide) : 2 ≤ sizeLine), ?_⟩
  exact rn3 nk h _ _ _ _
 ·have c1 : n.2 = 1 := by have := nk.pos; omega
  have e0 : numT n = sI n.1 := by unfold numT; rw [if_neg c]
  have e : Txt.partition (numT n) (Str.ofString "/") = (sI n.1, Str.empty, Str.empty) := by
   rw [e0, sl_is]; exact TX.part_no (free47 _)
  rw [e]; refine ⟨_, rfl, rfl, rfl, ?_⟩; show b_read_number_1 (EN R) [some (.dat (.str (numT n))), some (I 200), some (.dat (.str (sI n.1))), some (.dat (.str Str.empty)), some (.dat (.str Str.empty)), none] m
  unfold b_read_number_1; refine ⟨_, rfl, _, rfl, sz (Nat.le_trans l1 (by decide)), _, rfl, _, rfl, rfl, ?_⟩
  rw [show Txt.removeprefix (sI n.1) (Str.ofString "-") = sI (n.1.natAbs : Int) from TX.rem_minus]
  refine figs_use n1 ⟨_, rfl, ?_⟩; simp only [Bool.not_true, Bool.false_eq_true, if_false]; refine ⟨_, rfl, _, rfl, ?_⟩; simp only [show decide (Str.empty = Str.ofString "") = true by decide +kernel, Bool.not_true, Bool.not_false, Bool.false_eq_true, if_false, if_true]
  show b_read_number_2 (EN R) _ _
  unfold b_read_number_2; refine ⟨_, rfl, Nat.le_trans l1 (by decide), _, r1, _, rfl, _, rfl, ?_⟩
  simp only [show decide (Str.empty = Str.ofString "") = true by decide +kernel, Bool.not_true, Bool.not_false, Bool.false_eq_true, if_false, if_true]
  refine ⟨_, rfl, (sz (by decide) : 2 ≤ sizeLine), ?_⟩
  have q := rn3 nk h (some (I 200)) (some (.dat (.str (sI n.1)))) (some (.dat (.str Str.empty))) (some (.dat (.str Str.empty)))
  rw [show fq n = .tuple [.int n.1, .int 1] by rw [← c1]] at q
  exact q
theorem vc_word_at : ∀ ds m R, ds.length = p_word_at.length → sp_word_at ds m R → b_word_at (EN R) (start2 N_word_at ds) m := by
 rintro ds m R hl ⟨ws, i, k, z, rfl, hi, hn, h⟩; have lt : i < ws.length := (List.getElem?_eq_some_iff.mp hi).1
 have e : atI (ws.map PyData.str) (i : Int) = some (.str z) := atI_nat (by rw [List.getElem?_map, hi]; rfl)
 simp [b_word_at, sz (show (ws.map PyData.str).length ≤ 1000 by simp; omega)]
 refine ⟨by omega, ?_⟩
 simp [b_word_at_1]; exact ⟨_, e, h⟩
end K85
namespace K85
open PySem PySem.Spec PyProof.Rows L2 DL K01
theorem NumOk.p {x : Q2} (h : NumOk x) : 0 < x.2 := by have := h.pos; omega
theorem lt_tr {x y z : Q2} (hx : 0 < x.2) (hy : 0 < y.2) (hz : 0 < z.2) (h1 : ltQ x y) (h2 : ltQ y z) : ltQ x z := by
 unfold ltQ at *; have a : x.1 * y.2 * z.2 < y.1 * x.2 * z.2 := Int.mul_lt_mul_of_pos_right h1 hz
 have b : y.1 * z.2 * x.2 < z.1 * y.2 * x.2 := Int.mul_lt_mul_of_pos_right h2 hx
 have e1 : x.1 * y.2 * z.2 = x.1 * z.2 * y.2 := by rw [Int.mul_assoc, Int.mul_comm y.2, ← Int.mul_assoc]
 have e2 : y.1 * x.2 * z.2 = y.1 * z.2 * x.2 := by rw [Int.mul_assoc, Int.mul_comm x.2, ← Int.mul_assoc]
 have e3 : z.1 * y.2 * x.2 = z.1 * x.2 * y.2 := by rw [Int.mul_assoc, Int.mul_comm y.2, ← Int.mul_assoc]
 rw [e1, e2] at a; rw [e3] at b; exact Int.lt_of_mul_lt_mul_right (Int.lt_trans a b) (by omega)
theorem lt_ir (x : Q2) : ¬ ltQ x x := Int.lt_irrefl _
theorem q_eq {x y : Q2} (hx : NumOk x) (hy : NumOk y) (h : x.1 * y.2 = y.1 * x.2) : x = y := by
 obtain ⟨a, b⟩ := x; obtain ⟨c, d⟩ := y; have pb := hx.p
 have pd := hy.p
 have g1 : Nat.gcd a.natAbs b.natAbs = 1 := hx.gcd
 have g2 : Nat.gcd c.natAbs d.natAbs = 1 := hy.gcd
 simp only at h pb pd; have e : a.natAbs * d.natAbs = c.natAbs * b.natAbs := by rw [← Int.natAbs_mul, ← Int.natAbs_mul, h]
 have d1 : b.natAbs ∣ d.natAbs := by
  refine Nat.Coprime.dvd_of_dvd_mul_left (show Nat.Coprime b.natAbs a.natAbs from by rw [Nat.coprime_comm]; exact g1) ?_
  rw [e]; exact Nat.dvd_mul_left _ _
 have d2 : d.natAbs ∣ b.natAbs := by
  refine Nat.Coprime.dvd_of_dvd_mul_left (show Nat.Coprime d.natAbs c.natAbs from by rw [Nat.coprime_comm]; exact g2) ?_
  rw [← e]; exact Nat.dvd_mul_left _ _
 have e2 : b = d := by
  have := Nat.dvd_antisymm d1 d2
  omega
 subst e2; have : a = c := Int.eq_of_mul_eq_mul_right (by omega) h
 rw [this]
theorem tri {x y : Q2} (hx : NumOk x) (hy : NumOk y) : ltQ x y ∨ x = y ∨ ltQ y x := by
 rcases Int.lt_trichotomy (x.1 * y.2) (y.1 * x.2) with h | h | h
 ·exact .inl h
 ·exact .inr (.inl (q_eq hx hy h))
 ·exact .inr (.inr h)
theorem low_split : ∀ {c : List Q2} {t : Q2}, ColOk c → NumOk t → c = lowQ c t ++ c.drop (lowQ c t).length ∧ ∀ x ∈ c.drop (lowQ c t).length, ¬ ltQ x t
 | [], t, _, _ => ⟨rfl, by simp [lowQ]⟩
 | x :: r, t, h, ht => by
  obtain ⟨hx, hr⟩ := List.pairwise_cons.mp h.srt; have ok : ColOk r := ⟨hr, fun y hy => h.num y (List.mem_cons_of_mem _ hy)⟩
  have nx := h.num x List.mem_cons_self
  by_cases q : ltQ x t
  ·obtain ⟨a, b⟩ := low_split ok ht; have e : lowQ (x :: r) t = x :: lowQ r t := by unfold lowQ; rw [List.filter_cons_of_pos (by simpa using q)]
   rw [e]; simp only [List.length_cons, List.drop_succ_cons, List.cons_append]; exact ⟨by rw [← a], b⟩
  ·have e : lowQ (x :: r) t = [] := by
    unfold lowQ; rw [List.filter_cons_of_neg (by simpa using q), List.filter_eq_nil_iff]
    intro y hy; simp only [decide_eq_true_eq]; exact fun z => q (lt_tr nx.p (ok.num y hy).p ht.p (hx y hy) z)
   rw [e]; refine ⟨rfl, fun y hy => ?_⟩; rcases List.mem_cons.mp hy with rfl | hy
   ·exact q
   ·exact fun z => q (lt_tr nx.p (ok.num y hy).p ht.p (hx y hy) z)
theorem low_lt {c : List Q2} {t x : Q2} (h : x ∈ lowQ c t) : ltQ x t := by
 unfold lowQ at h; simpa using (List.mem_filter.mp h).2
theorem ins_mem {c : List Q2} {t : Q2} (h : ColOk c) (ht : NumOk t) (x : Q2) : x ∈ insQ c t ↔ x ∈ c ∨ x = t := by
 unfold insQ
 split
 ·rename_i q; exact ⟨.inl, fun z => z.elim id fun e => e ▸ q⟩
 ·obtain ⟨a, _⟩ := low_split h ht; rw [List.mem_append, List.mem_cons]; have : x ∈ c ↔ x ∈ lowQ c t ∨ x ∈ c.drop (lowQ c t).length := by
   have := List.mem_append (a := x) (s := lowQ c t) (t := c.drop (lowQ c t).length)
   rw [← a] at this; exact this
  rw [this]
  constructor
  ·rintro (z | z | z)
   ·exact .inl (.inl z)
   ·exact .inr z
   ·exact .inl (.inr z)
  ·rintro ((z | z) | z)
   ·exact .inl z
   ·exact .inr (.inr z)
   ·exact .inr (.inl z)
theorem ins_ok {c : List Q2} {t : Q2} (h : ColOk c) (ht : NumOk t) : ColOk (insQ c t) := by
 refine ⟨?_, fun x hx => ((ins_mem h ht x).mp hx).elim (h.num x) fun e => e ▸ ht⟩; unfold insQ
 split
 ·exact h.srt
 ·rename_i q; obtain ⟨a, b⟩ := low_split h ht; have hs := h.srt
  rw [a, List.pairwise_append] at hs; have inC : ∀ x ∈ c.drop (lowQ c t).length, x ∈ c := fun x hx => List.mem_of_mem_drop hx
  have gt : ∀ x ∈ c.drop (lowQ c t).length, ltQ t x := fun x hx => by
   rcases tri (h.num x (inC x hx)) ht with z | z | z
   ·exact absurd z (b x hx)
   ·exact absurd (inC x hx) (z ▸ q)
   ·exact z
  rw [List.pairwise_append]; refine ⟨hs.1, List.pairwise_cons.mpr ⟨gt, hs.2.1⟩, fun x hx y hy => ?_⟩; rcases List.mem_cons.mp hy with rfl | hy
  ·exact low_lt hx
  ·exact hs.2.2 x hx y hy
theorem ins_len {c : List Q2} {t : Q2} (h : ColOk c) (ht : NumOk t) : (insQ c t).length ≤ c.length + 1 := by
 unfold insQ
 split
 ·omega
 ·obtain ⟨a, _⟩ := low_split h ht; have : (lowQ c t).length ≤ c.length := List.length_filter_le _ _
  simp; omega
theorem ins_law {c : List Q2} {t : Q2} (h : ColOk c) (ht : NumOk t) : t ∈ c ↔ c[(lowQ c t).length]? = some t := by
 obtain ⟨a, b⟩ := low_split h ht
 constructor
 ·intro q; rw [a, List.mem_append] at q; rcases q with q | q
  ·exact absurd (low_lt q) (lt_ir t)
  ·cases e : c.drop (lowQ c t).length with
   | nil => rw [e] at q; cases q
   | cons y r =>
    have hd : c[(lowQ c t).length]? = some y := by
     have := List.head?_drop (l := c) (i := (lowQ c t).length)
     rw [e] at this; exact this.symm
    rw [hd]; rw [e] at q b; rcases List.mem_cons.mp q with rfl | q
    ·rfl
    ·have hs := h.srt
     rw [a, List.pairwise_append, e] at hs; exact absurd ((List.pairwise_cons.mp hs.2.1).1 t q) (b y List.mem_cons_self)
 ·exact fun q => List.mem_of_getElem? q
theorem es_num {t : Thg} (h : TOk t) : ∀ x ∈ t.es, NumOk x := by
 unfold Thg.es
 split
 ·intro x hx; rcases List.mem_cons.mp hx with rfl | hx
  ·exact h.nx
  ·rw [List.mem_singleton.mp hx]; exact h.ny
 ·intro x hx; rw [List.mem_singleton.mp hx]; exact h.nx
theorem es_len (t : Thg) : t.es.length ≤ 2 := by unfold Thg.es; split <;> simp
theorem fold_ok : ∀ (xs : List Q2) (c : List Q2), ColOk c → (∀ x ∈ xs, NumOk x) → ColOk (xs.foldl insQ c) ∧ (xs.foldl insQ c).length ≤ c.length + xs.length ∧ ∀ y, y ∈ xs.foldl insQ c ↔ y ∈ c ∨ y ∈ xs
 | [], c, h, _ => ⟨h, by simp, by simp⟩
 | x :: xs, c, h, hx => by
  have nx := hx x List.mem_cons_self
  obtain ⟨a, b, d⟩ := fold_ok xs (insQ c x) (ins_ok h nx) fun y hy => hx y (List.mem_cons_of_mem _ hy); have := ins_len h nx
  refine ⟨a, by simp only [List.foldl_cons, List.length_cons]; omega, fun y => ?_⟩
  rw [List.foldl_cons, d, ins_mem h nx, List.mem_cons]
  constructor
  ·rintro ((z | z) | z)
   ·exact .inl z
   ·exact .inr (.inl z)
   ·exact .inr (.inr z)
  ·rintro (z | z | z)
   ·exact .inl (.inl z)
   ·exact .inl (.inr z)
   ·exact .inr z
theorem cols_fold : ∀ (ts : List Thg) (c : List Q2), ColOk c → (∀ t ∈ ts, TOk t) → ColOk (ts.foldl (fun c t => t.es.foldl insQ c) c) ∧ (ts.foldl (fun c t => t.es.foldl insQ c) c).length ≤ c.length + 2 * ts.length ∧ ∀ y, y ∈ ts.foldl (fun c t => t.es.foldl insQ c) c ↔ y ∈ c ∨ ∃ t ∈ ts, y ∈ t.es
 | [], c, h, _ => ⟨h, by simp, by simp⟩
 | t :: ts, c, h, ht => by
  have ok := ht t List.mem_cons_self
  obtain ⟨a, b, d⟩ := fold_ok t.es c h (es_num ok); obtain ⟨a', b', d'⟩ := cols_fold ts _ a fun y hy => ht y (List.mem_cons_of_mem _ hy); have := es_len t
  refine ⟨a', by simp only [List.foldl_cons, List.length_cons]; omega, fun y => ?_⟩
  rw [List.foldl_cons, d', d]
  constructor
  ·rintro ((z | z) | ⟨u, hu, z⟩)
   ·exact .inl z
   ·exact .inr ⟨t, List.mem_cons_self, z⟩
   ·exact .inr ⟨u, List.mem_cons_of_mem _ hu, z⟩
  ·rintro (z | ⟨u, hu, z⟩)
   ·exact .inl (.inl z)
   ·rcases List.mem_cons.mp hu with rfl | hu
    ·exact .inl (.inr z)
    ·exact .inr ⟨u, hu, z⟩
theorem nil_ok : ColOk [] := ⟨List.Pairwise.nil, fun _ h => by cases h⟩
theorem cols_ok {ts : List Thg} (h : Ws ts) : ColOk (cols ts) := (cols_fold ts [] nil_ok h.ok).1
theorem cols_len {ts : List Thg} (h : Ws ts) : (cols ts).length ≤ 12 := by
 have := (cols_fold ts [] nil_ok h.ok).2.1
 have := h.le
 unfold cols; simp at *; omega
theorem cols_mem {ts : List Thg} (h : Ws ts) (y : Q2) : y ∈ cols ts ↔ ∃ t ∈ ts, y ∈ t.es := by
 have := (cols_fold ts [] nil_ok h.ok).2.2 y
 unfold cols; rw [this]; simp
theorem cols_in {ts : List Thg} (h : Ws ts) {t : Thg} (ht : t ∈ ts) : In (cols ts) t := ⟨h.ok t ht, cols_ok h, cols_len h, fun x hx => (cols_mem h x).mpr ⟨t, ht, hx⟩⟩
theorem cols_ne {ts : List Thg} (h : Ws ts) : cols ts ≠ [] := by
 cases ts with
 | nil => have := h.ne; simp at this
 | cons t r =>
  have : t.x ∈ cols (t :: r) := (cols_mem h _).mpr ⟨t, List.mem_cons_self, by unfold Thg.es; split <;> simp⟩
  exact List.ne_nil_of_mem this
theorem col_nd {c : List Q2} (h : ColOk c) : c.Nodup := List.Pairwise.imp (fun {a b} q e => by subst e; exact lt_ir _ q) h.srt
theorem split_at {c : List Q2} {x : Q2} (h : ColOk c) (hx : x ∈ c) : ∃ A B, c = A ++ x :: B ∧ A.length = c.idxOf x ∧ (∀ a ∈ A, ltQ a x) ∧ (∀ b ∈ B, ltQ x b) ∧ ColOk B := by
 obtain ⟨A, B, rfl⟩ := List.append_of_mem hx; have hs := h.srt
 rw [List.pairwise_append] at hs; have nA : x ∉ A := fun q => lt_ir x (hs.2.2 x q x List.mem_cons_self)
 refine ⟨A, B, rfl, ?_, fun a ha => hs.2.2 a ha x List.mem_cons_self, (List.pairwise_cons.mp hs.2.1).1, (List.pairwise_cons.mp hs.2.1).2, fun b hb => h.num b (by simp [hb])⟩
 rw [List.idxOf_append, if_neg nA]; simp
theorem ix_get {c : List Q2} {x : Q2} (hx : x ∈ c) : c[c.idxOf x]? = some x := by
 have := List.idxOf_lt_length_iff.mpr hx
 rw [List.getElem?_eq_getElem this, List.getElem_idxOf this]
theorem ix_lt {c : List Q2} {x y : Q2} (h : ColOk c) (hx : x ∈ c) (hy : y ∈ c) : ltQ x y ↔ c.idxOf x < c.idxOf y := by
 have lx := List.idxOf_lt_length_iff.mpr hx
 have ly := List.idxOf_lt_length_iff.mpr hy
 have ex := List.getElem_idxOf lx
 have ey := List.getElem_idxOf ly
 have pw := List.pairwise_iff_getElem.mp h.srt
 constructor
 ·intro q; refine Nat.lt_of_not_le fun z => ?_; rcases Nat.lt_or_eq_of_le z with z | z
  ·have := pw _ _ ly lx z
   rw [ex, ey] at this; exact lt_ir x (lt_tr (h.num x hx).p (h.num y hy).p (h.num x hx).p q this)
  ·have : x = y := by rw [← ex, ← ey]; congr 1; exact z.symm
   subst this; exact lt_ir x q
 ·intro q; have := pw _ _ lx ly q
  rw [ex, ey] at this; exact this
end K85
namespace K85
open PySem PySem.Spec PyProof.Rows L2 DL K01
def pL (i j : Nat) : List Nat := List.replicate i 46 ++ 111 :: List.replicate j 46
def sLn (i m j : Nat) : List Nat := List.replicate i 46 ++ 91 :: (List.replicate m 61 ++ 93 :: List.replicate j 46)
abbrev ofL (l : List Nat) : Str := ⟨l.toArray⟩
theorem map_const {α : Type} {f : α → Nat} {v : Nat} : ∀ {l : List α}, (∀ x ∈ l, f x = v) → l.map f = List.replicate l.length v
 | [], _ => rfl
 | x :: l, h => by rw [List.map_cons, h x List.mem_cons_self, map_const (l := l) fun y hy => h y (List.mem_cons_of_mem _ hy)]; rfl
theorem lt_asym {x y : Q2} (hx : 0 < x.2) (hy : 0 < y.2) (h : ltQ x y) : ¬ ltQ y x := fun q => lt_ir x (lt_tr hx hy hx h q)
theorem lt_ne {x y : Q2} (h : ltQ x y) : x ≠ y := fun e => by subst e; exact lt_ir _ h
theorem sg_point {c : List Q2} {t : Thg} (h : In c t) (hk : t.k = false) : c.map (sgc t) = pL (c.idxOf t.x) (c.length - c.idxOf t.x - 1) ∧ c.idxOf t.x < c.length := by
 have hx : t.x ∈ c := h.mem _ (by unfold Thg.es; simp [hk])
 obtain ⟨A, B, e, hA, lA, lB, _⟩ := split_at h.col hx; refine ⟨?_, List.idxOf_lt_length_iff.mpr hx⟩; have e1 : A.map (sgc t) = List.replicate A.length 46 := map_const fun a ha => by unfold sgc; simp [hk, lt_ne (lA a ha)]
 have e2 : B.map (sgc t) = List.replicate B.length 46 := map_const fun b hb => by unfold sgc; simp [hk, (lt_ne (lB b hb)).symm]
 have e3 : sgc t t.x = 111 := by unfold sgc; simp [hk]
 have e4 : c.length - c.idxOf t.x - 1 = B.length := by
  rw [← hA]
  conv => lhs; rw [e]
  simp
 rw [e4, ← hA]
 conv => lhs; rw [e]
 rw [List.map_append, List.map_cons, e1, e2, e3]; rfl
theorem sg_stretch {c : List Q2} {t : Thg} (h : In c t) (hk : t.k = true) : ∃ m, c.map (sgc t) = sLn (c.idxOf t.x) m (c.length - c.idxOf t.y - 1) ∧ c.idxOf t.y = c.idxOf t.x + m + 1 ∧ c.idxOf t.y < c.length := by
 have hx : t.x ∈ c := h.mem _ (by unfold Thg.es; simp [hk])
 have hy : t.y ∈ c := h.mem _ (by unfold Thg.es; simp [hk])
 have hxy := h.ok.st hk
 have px := h.ok.nx.p
 have py := h.ok.ny.p
 obtain ⟨A, B, e, hA, lA, lB, oB⟩ := split_at h.col hx; have yB : t.y ∈ B := by
  rw [e, List.mem_append, List.mem_cons] at hy; rcases hy with q | q | q
  ·exact absurd (lA _ q) (lt_asym px py hxy)
  ·exact absurd q.symm (lt_ne hxy)
  ·exact q
 obtain ⟨C, E, e', hC, lC, lE, _⟩ := split_at oB yB; have hyc : c.idxOf t.y = A.length + C.length + 1 := by
  have nA : t.y ∉ A := fun q => lt_asym px py hxy (lA _ q)
  have nC : t.y ∉ C := fun q => lt_ir _ (lC _ q)
  conv => lhs; rw [e]
  rw [List.idxOf_append, if_neg nA, List.idxOf_cons, e', List.idxOf_append, if_neg nC]; have : (t.x == t.y) = false := by simpa using lt_ne hxy
  rw [this]; simp; omega
 have nB : ∀ b ∈ B, 0 < b.2 := fun b hb => (oB.num b hb).p
 refine ⟨C.length, ?_, by rw [hyc, ← hA], List.idxOf_lt_length_iff.mpr (by exact h.mem _ (by unfold Thg.es; simp [hk]))⟩
 have e1 : A.map (sgc t) = List.replicate A.length 46 := map_const fun a ha => by
  have q1 := lA a ha
  have pa : 0 < a.2 := (h.col.num a (by rw [e]; simp [ha])).p
  have q2 := lt_tr pa px py q1 hxy
  unfold sgc; simp [hk, lt_ne q1, lt_ne q2, lt_asym pa px q1]
 have e2 : C.map (sgc t) = List.replicate C.length 61 := map_const fun b hb => by
  have q1 := lB b (by rw [e']; simp [hb])
  have q2 := lC b hb
  unfold sgc; simp [hk, (lt_ne q1).symm, lt_ne q2, q1, q2]
 have e3 : E.map (sgc t) = List.replicate E.length 46 := map_const fun b hb => by
  have q1 := lB b (by rw [e']; simp [hb])
  have q2 := lE b hb
  unfold sgc; simp [hk, (lt_ne q1).symm, (lt_ne q2).symm, lt_asym py (nB b (by rw [e']; simp [hb])) q2]
 have e4 : sgc t t.x = 91 := by unfold sgc; simp [hk]
 have e5 : sgc t t.y = 93 := by unfold sgc; simp [hk, (lt_ne hxy).symm]
 have e6 : c.length - c.idxOf t.y - 1 = E.length := by
  rw [hyc]
  conv => lhs; rw [e, e']
  simp; omega
 rw [e6, ← hA]
 conv => lhs; rw [e, e']
 rw [List.map_append, List.map_cons, List.map_append, List.map_cons, e1, e2, e3, e4, e5]; rfl
theorem strip_p : ∀ i < 12, ∀ j < 12, Txt.stripChars (ofL (pL i j)) (Str.ofString ".") = Str.ofString "o" ∧ (Txt.lstripChars (ofL (pL i j)) (Str.ofString ".")).length = j + 1 ∧ Txt.find (ofL (pL i j)) (Str.ofString "o") = i ∧ Txt.contains (ofL (pL i j)) (Str.ofString "o") = true := by decide +kernel
def ok1 (i m j : Nat) : Bool := decide (Txt.stripChars (ofL (sLn i m j)) (Str.ofString ".") = ofL (sLn 0 m 0))
def ok2 (i m j : Nat) : Bool := decide ((Txt.lstripChars (ofL (sLn i m j)) (Str.ofString ".")).length = m + j + 2)
def ok3 (i m j : Nat) : Bool := decide (Txt.find (ofL (sLn i m j)) (Str.ofString "[") = (i : Int)) && Txt.contains (ofL (sLn i m j)) (Str.ofString "[")
def ok4 (i m j : Nat) : Bool := decide (Txt.find (ofL (sLn i m j)) (Str.ofString "]") = ((i + m + 1 : Nat) : Int)) && Txt.contains (ofL (sLn i m j)) (Str.ofString "]")
def allS (f : Nat → Nat → Nat → Bool) : Bool := (List.range 11).all fun i => (List.range (11 - i)).all fun m => (List.range (11 - i - m)).all fun j => f i m j
theorem all_1 : allS ok1 = true := by decide +kernel
theorem all_2 : allS ok2 = true := by decide +kernel
theorem all_3 : allS ok3 = true := by decide +kernel
theorem all_4 : allS ok4 = true := by decide +kernel
theorem all_get {f : Nat → Nat → Nat → Bool} (h : allS f = true) {i m j : Nat} (hi : i + m + j < 11) : f i m j = true :=
 List.all_eq_true.mp (List.all_eq_true.mp (List.all_eq_true.mp h i (List.mem_range.mpr (by omega))) m (List.mem_range.mpr (by omega))) j (List.mem_range.mpr (by omega))
theorem strip_s {i m j : Nat} (hi : i + m + j < 11) : Txt.stripChars (ofL (sLn i m j)) (Str.ofString ".") = ofL (sLn 0 m 0) ∧ (Txt.lstripChars (ofL (sLn i m j)) (Str.ofString ".")).length = m + j + 2 ∧ (Txt.find (ofL (sLn i m j)) (Str.ofString "[") = (i : Int) ∧ Txt.contains (ofL (sLn i m j)) (Str.ofString "[") = true) ∧
  Txt.find (ofL (sLn i m j)) (Str.ofString "]") = ((i + m + 1 : Nat) : Int) ∧ Txt.contains (ofL (sLn i m j)) (Str.ofString "]") = true := by
 have h1 := all_get all_1 hi
 have h2 := all_get all_2 hi
 have h3 := all_get all_3 hi
 have h4 := all_get all_4 hi
 unfold ok1 at h1; unfold ok2 at h2; unfold ok3 at h3; unfold ok4 at h4; simp only [Bool.and_eq_true, decide_eq_true_eq] at h1 h2 h3 h4; exact ⟨h1, h2, h3, h4⟩
theorem inner_s : ∀ m : Nat, m < 12 → Str.ofString "[" ++ Txt.mul (Str.ofString "=") (m : Int) ++ Str.ofString "]" = ofL (sLn 0 m 0) ∧ ofL (sLn 0 m 0) ≠ Str.ofString "o" := by decide +kernel
end K85
namespace K85
open PySem PySem.Spec PyProof.Rows L2 DL K01
theorem NumOk.b1 {x : Q2} (h : NumOk x) : Bd 20 x.1 := by
 have := h.lo; have := h.hi
 unfold Bd; have e : (2 : Nat) ^ 20 = 1048576 := by decide
 omega
theorem NumOk.b2 {x : Q2} (h : NumOk x) : Bd 20 x.2 := by
 have := h.pos; have := h.le
 unfold Bd; have e : (2 : Nat) ^ 20 = 1048576 := by decide
 omega
theorem NumOk.fr {x : Q2} (h : NumOk x) : Fr 20 (fq x) := ⟨x, rfl, h.p, h.b1, h.b2⟩
theorem vc_is_below : ∀ ds m R, ds.length = p_is_below.length → sp_is_below ds m R → b_is_below (EN R) (start2 N_is_below ds) m := by
 rintro ds m R hl ⟨x, y, rfl, hx, hy, h⟩; simp [b_is_below]; exact ⟨mulL (hx.b1.mono (by decide)), mulL (hy.b1.mono (by decide)), h⟩
theorem eqv_fq (a b : Q2) : (fq a).eqv (fq b) = decide (a = b) := by
 obtain ⟨a1, a2⟩ := a; obtain ⟨b1, b2⟩ := b; simp [PyData.eqv, PyData.eqvAll]; rfl
theorem any_fq (c : List Q2) (t : Q2) : (c.map fq).any (fun y => y.eqv (fq t)) = decide (t ∈ c) := by
 induction c with
 | nil => rfl
 | cons x r ih =>
  rw [List.map_cons, List.any_cons, ih, eqv_fq]
  by_cases e : x = t <;> by_cases q : t ∈ r <;> simp [e, q, Ne.symm, eq_comm]
theorem lay_fq : ∀ c : List Q2, PyData.canLayAll0 (c.map fq) = true
 | [] => rfl
 | x :: r => by
  have := lay_fq r
  simp [PyData.canLayAll0, PyData.canLay0] at this ⊢; exact this
theorem low_loop {m : Mu} {Q : List PyData → Mu → Prop} {t : Q2} (ht : NumOk t) : ∀ (c : List Q2) (acc : List PyData) (o : Option D), (∀ x ∈ c, NumOk x) → acc.length + c.length ≤ 100 → Q (acc ++ (lowQ c t).map fq) m →
  loopC (gN 0) (dTst (dCall 2 sp_is_below (dCons (dVar 0) (dCons (dVar 1) dNil)))) (dVar 0) (c.map fun x => .dat (fq x)) acc [o, some (.dat (fq t))] m Q
 | [], acc, o, _, _, h => by simpa [loopC, lowQ] using h
 | x :: r, acc, o, hn, hl, h => by
  simp only [List.length_cons] at hl; have q : acc.length < sizeLine := Nat.lt_of_lt_of_le (show acc.length < 1000 by omega) (sz (by decide))
  rw [List.map_cons, loopC]; show dTst _ [some (.dat (fq x)), some (.dat (fq t))] m _
  refine ⟨_, rfl, _, rfl, rfl, x, t, rfl, hn x List.mem_cons_self, ht, _, rfl, ?_⟩
  by_cases c : ltQ x t
  ·refine ite_t (decide_eq_true c) ⟨_, rfl, _, rfl, q, low_loop ht r _ _ (fun y hy => hn y (List.mem_cons_of_mem _ hy)) (by simp; omega) ?_⟩
   unfold lowQ at h ⊢; rw [List.filter_cons_of_pos (by simpa using c)] at h
   simpa using h
  ·refine ite_f (decide_eq_false c) (low_loop ht r _ _ (fun y hy => hn y (List.mem_cons_of_mem _ hy)) (by omega) ?_)
   unfold lowQ at h ⊢; rw [List.filter_cons_of_neg (by simpa using c)] at h
   exact h
theorem vc_put_in : ∀ ds m R, ds.length = p_put_in.length → sp_put_in ds m R → b_put_in (EN R) (start2 N_put_in ds) m := by
 rintro ds m R hl ⟨c, t, rfl, hc, ht, hn, h⟩; show b_put_in (EN R) [some (.dat (.list (c.map fq))), some (.dat (fq t)), none] m
 refine ⟨_, rfl, _, rfl, lay_fq c, by simp [PyData.canLay0, PyData.canLayAll0], by simp [PyData.depth, PyData.depthAll], _, rfl, ?_⟩
 rw [any_fq]; unfold insQ at h
 by_cases q : t ∈ c
 ·rw [if_pos q] at h; exact ite_t (decide_eq_true q) ⟨_, rfl, h⟩
 ·rw [if_neg q] at h; refine ite_f (decide_eq_false q) ?_; show b_put_in_1 (EN R) [some (.dat (.list (c.map fq))), some (.dat (fq t)), none] m
  have hlow : (lowQ c t).length ≤ c.length := List.length_filter_le _ _
  refine ⟨_, rfl, .inl ⟨_, rfl, ?_⟩⟩; show loopC _ _ _ ((c.map fq).map .dat) [] [none, some (.dat (fq t))] m _
  rw [List.map_map]; refine low_loop ht c [] none hc.num (by simp; omega) ?_
  show b_put_in_2 (EN R) [some (.dat (.list (c.map fq))), some (.dat (fq t)), some (.dat (.list ([] ++ (lowQ c t).map fq)))] m
  rw [List.nil_append]; refine ⟨_, rfl, _, rfl, [fq t], rfl, (sz (by decide) : 1 ≤ sizeLine), by simp; exact sz (by omega), _, rfl, _, rfl, _, rfl, .inr (.inl ⟨_, rfl, ?_⟩)⟩
  rw [show (((lowQ c t).map fq).length : Int) = (((lowQ c t).length : Nat) : Int) by simp, cut_from (by simpa using hlow)]
  refine ⟨by simp; exact sz (by omega), ?_⟩
  rw [List.map_append, List.map_cons, List.map_drop] at h; simpa using h
end K85
namespace K85
open PySem PySem.Spec PyProof.Rows L2 DL K01
theorem kd_pt (k : Bool) : decide (kd k = Str.ofString "point") = !k := by cases k <;> decide +kernel
theorem zipT {α : Type} (f g : α → PyData) : ∀ ts : List α, (ts.map f).zip (ts.map g) = ts.map fun t => (f t, g t)
 | [] => rfl
 | t :: ts => by rw [List.map_cons, List.map_cons, List.map_cons, List.zip_cons_cons, zipT f g ts]
abbrev thD (t : Thg) : PyData := .tuple [.str t.nm, .str (kd t.k)]
theorem col_inner {m : Mu} {E : Ends2} {a0 a1 a3 a4 a5 : Option D} : ∀ (xs c : List Q2) (o : Option D), ColOk c → (∀ x ∈ xs, NumOk x) → c.length + xs.length ≤ 13 → (∀ o, E.nx [a0, a1, some (.dat (.list ((xs.foldl insQ c).map fq))), a3, a4, a5, o] m) →
  loopL (gN 6) b_columns_of_L1 E (xs.map fun x => .dat (fq x)) [a0, a1, some (.dat (.list (c.map fq))), a3, a4, a5, o] m
 | [], c, o, _, _, _, h => h o
 | x :: xs, c, o, hc, hx, hl, h => by
  simp only [List.length_cons] at hl; have nx := hx x List.mem_cons_self
  have il := ins_len hc nx
  rw [List.map_cons, loopL]; refine ⟨_, rfl, _, rfl, rfl, c, x, rfl, hc, nx, by omega, ?_⟩
  exact col_inner xs (insQ c x) _ (ins_ok hc nx) (fun y hy => hx y (List.mem_cons_of_mem _ hy)) (by omega) h
theorem col_outer {m : Mu} {E : Ends2} {a0 a1 : Option D} : ∀ (ts : List Thg) (c : List Q2) (o3 o4 o5 o6 : Option D), ColOk c → (∀ t ∈ ts, TOk t) → c.length + 2 * ts.length ≤ 13 →
  (∀ o3 o4 o5 o6, E.nx [a0, a1, some (.dat (.list ((ts.foldl (fun c t => t.es.foldl insQ c) c).map fq))), o3, o4, o5, o6] m) →
  loopL (gT 2 (gNs (gT 2 (gNs (gN 3) (gNs (gN 4) gN0))) (gNs (gN 5) gN0))) b_columns_of_L0 E (ts.map fun t => .dat (.tuple [thD t, t.d])) [a0, a1, some (.dat (.list (c.map fq))), o3, o4, o5, o6] m
 | [], c, o3, o4, o5, o6, _, _, _, h => h o3 o4 o5 o6
 | t :: ts, c, o3, o4, o5, o6, hc, ht, hl, h => by
  simp only [List.length_cons] at hl; have ok := ht t List.mem_cons_self
  obtain ⟨f1, f2, _⟩ := fold_ok t.es c hc (es_num ok); have f3 := es_len t
  rw [List.map_cons, loopL]; refine ⟨_, rfl, rfl, _, rfl, rfl, rfl, rfl, ?_⟩; show b_columns_of_L0 _ [a0, a1, some (.dat (.list (c.map fq))), some (.dat (.str t.nm)), some (.dat (.str (kd t.k))), some (.dat t.d), o6] m
  refine ⟨_, rfl, _, rfl, ?_⟩; have key : ∀ xs, t.es = xs → loopL (gN 6) b_columns_of_L1 { nx := dNext { nx := loopL (gT 2 (gNs (gT 2 (gNs (gN 3) (gNs (gN 4) gN0))) (gNs (gN 5) gN0))) b_columns_of_L0 E (ts.map fun t => .dat (.tuple [thD t, t.d])), rt := E.rt, bk := E.nx, ct := loopL (gT 2 (gNs (gT 2 (gNs (gN 3) (gNs (gN 4) gN0))) (gNs (gN 5) gN0))) b_columns_of_L0 E (ts.map fun t => .dat (.tuple [thD t, t.d])) }, rt := E.rt, bk := E.nx, ct := loopL (gT 2 (gNs (gT 2 (gNs (gN 3) (gNs (gN 4) gN0))) (gNs (gN 5) gN0))) b_columns_of_L0 E (ts.map fun t => .dat (.tuple [thD t, t.d])) } (xs.map fun x => .dat (fq x)) [a0, a1, some (.dat (.list (c.map fq))), some (.dat (.str t.nm)), some (.dat (.str (kd t.k))), some (.dat t.d), o6] m := by
   rintro xs rfl; refine col_inner t.es c _ hc (es_num ok) (by omega) fun o => ?_
   exact col_outer ts _ _ _ _ _ f1 (fun u hu => ht u (List.mem_cons_of_mem _ hu)) (by omega) h
  by_cases hk : t.k = false
  ·have e1 : t.es = [t.x] := by unfold Thg.es; simp [hk]
   have e2 : t.d = fq t.x := by unfold Thg.d; simp [hk]
   refine ite_t (by rw [kd_pt, hk]; rfl) ⟨_, rfl, [t.d], rfl, (sz (by decide) : 1 ≤ sizeLine), .inr ⟨_, rfl, ?_⟩⟩
   have := key _ e1
   rw [e2] at this ⊢; exact this
  ·have hk : t.k = true := by simpa using hk
   have e1 : t.es = [t.x, t.y] := by unfold Thg.es; simp [hk]
   have e2 : t.d = .tuple [fq t.x, fq t.y] := by unfold Thg.d; simp [hk]
   refine ite_f (by rw [kd_pt, hk]; rfl) ⟨_, rfl, .inr ⟨[fq t.x, fq t.y], by rw [e2], ?_⟩⟩
   exact key _ e1
theorem vc_columns_of : ∀ ds m R, ds.length = p_columns_of.length → sp_columns_of ds m R → b_columns_of (EN R) (start2 N_columns_of ds) m := by
 rintro ds m R hl ⟨ts, rfl, hw, h⟩; have := hw.le
 refine ⟨[], rfl, sz (by decide), ?_⟩
 show b_columns_of_1 (EN R) [some (.dat (TH ts)), some (.dat (TEL ts)), some (.dat (.list [])), none, none, none, none] m
 refine ⟨_, rfl, _, rfl, _, _, rfl, rfl, ?_⟩; rw [zipT, List.map_map]; exact col_outer ts [] _ _ _ _ nil_ok hw.ok (by simp; omega) fun _ _ _ _ => ⟨_, rfl, h⟩
end K85
namespace K85
open PySem PySem.Spec PyProof.Rows L2 DL K01
theorem join_ones : ∀ l : List Nat, Txt.join (Str.ofString "") (l.map fun k => (⟨#[k]⟩ : Str)) = ofL l := fun l => by
 have e : ∀ l : List Nat, Str.join (Str.ofString "") (l.map fun k => (⟨#[k]⟩ : Str)) = ofL l := fun l => by
  induction l with
  | nil => rfl
  | cons a r ih =>
   cases r with
   | nil => rfl
   | cons b r =>
    rw [List.map_cons] at ih; rw [List.map_cons, List.map_cons, Str.join, ih]
    ·apply TX.ext
     rw [Str.cps_append, Str.cps_append]; have : (Str.ofString "").cps.toList = [] := by decide +kernel
     simp [this]
    ·intro h; cases h
 exact (StrLaws.glued_eq_join _ _).trans (e l)
theorem Kn.upd {m m1 : Mu} {p : Addr} {x : Cel} (h : Kn m m1) (hp : m p = none) : Kn m (updM m1 p x) := fun c hc => by
 have : c ≠ p := fun e => by rw [e, hp] at hc; cases hc
 rw [updM_ne this]; exact h c hc
theorem Kn.none {m m1 : Mu} {p : Addr} (h : Kn m m1) (hp : m1 p = none) : m p = none := by
 cases e : m p with
 | none => rfl
 | some x => have := h p (by rw [e]; rfl); rw [hp, e] at this; cases this
theorem rep1 {α : Type} (x : α) (n : Nat) : (List.replicate n [x]).flatten = List.replicate n x := by
 induction n with
 | zero => rfl
 | succ n ih => rw [List.replicate_succ, List.flatten_cons, ih]; rfl
theorem set_rep {α : Type} (x y : α) {i n : Nat} (h : i < n) : (List.replicate n x).set i y = List.replicate i x ++ y :: List.replicate (n - i - 1) x := by
 rw [List.set_eq_take_append_cons_drop, if_pos (by simpa using h), List.take_replicate, List.drop_replicate]
 rw [Nat.min_eq_left (by omega), show n - (i + 1) = n - i - 1 by omega]
theorem idx_use {c : List Q2} {x : Q2} {m : Mu} {Q : DK} {f g : DE} {d : St2} (hx : x ∈ c) (hn : c.length ≤ 12) (hf : ∀ K : DK, K (.dat (.list (c.map fq))) m → f d m K) (hg : ∀ K : DK, K (.dat (fq x)) m → g d m K) (h : Q (I (c.idxOf x : Nat)) m) : dIdxD f g d m Q := by
 have hlt := List.idxOf_lt_length_iff.mpr hx
 refine hf _ ⟨_, rfl, hg _ ⟨_, c.idxOf x, rfl, lay_fq c, by simp [PyData.canLay0, PyData.canLayAll0], by simp [PyData.depth, PyData.depthAll], by omega, ⟨fq x, by rw [List.getElem?_map, ix_get hx]; rfl, by rw [eqv_fq]; simp⟩, fun i z hi hz => ?_, h⟩⟩
 rw [List.getElem?_map] at hz
 cases e : c[i]? with
 | none => rw [e] at hz; cases hz
 | some y =>
  rw [e] at hz
  cases hz
  rw [eqv_fq]; refine decide_eq_false fun q => ?_; subst q; have hl := (List.getElem?_eq_some_iff.mp e).1
  have := (List.getElem?_eq_some_iff.mp e).2
  have q := List.not_of_lt_findIdx (p := (· == y)) (xs := c) (i := i) hi
  rw [this] at q; simp at q
abbrev ones (l : List Nat) : List PyData := l.map fun k => .str ⟨#[k]⟩
theorem so2 {m : Mu} {R : DK} {a0 a1 a2 a4 a5 : Option D} {p : Addr} {l : List Nat} (hn : l.length ≤ 100) (hm : m p = some (.l (ones l))) (h : R (.dat (.str (ofL l))) m) : b_signs_of_2 (EN R) [a0, a1, a2, some (.cel p), a4, a5] m := by
 refine ⟨_, rfl, l.map fun k => ⟨#[k]⟩, by simp [hm, Function.comp_def], by decide +kernel, ?_, ?_⟩
 ·have : ((l.map fun k => (⟨#[k]⟩ : Str)).map (·.length)).sum = l.length := by
   rw [List.map_map]; clear hm h hn
   induction l with
   | nil => rfl
   | cons a r ih => rw [List.map_cons, List.sum_cons, ih, List.length_cons]; show 1 + r.length = _; omega
  rw [this, List.length_map]; omega
 ·rw [join_ones]; exact h
theorem dotS : (Str.ofString ".") = ⟨#[46]⟩ := by decide +kernel
theorem oS : (Str.ofString "o") = ⟨#[111]⟩ := by decide +kernel
theorem lbS : (Str.ofString "[") = ⟨#[91]⟩ := by decide +kernel
theorem rbS : (Str.ofString "]") = ⟨#[93]⟩ := by decide +kernel
theorem eqS1 : (Str.ofString "=") = ⟨#[61]⟩ := by decide +kernel
theorem vc_signs_of : ∀ ds m R, ds.length = p_signs_of.length → sp_signs_of ds m R → b_signs_of (EN R) (start2 N_signs_of ds) m := by
 rintro ds m R hl ⟨t, c, rfl, hi, h⟩; have hn := hi.len
 refine ⟨[.str "."], rfl, (sz (by decide) : 1 ≤ sizeLine), fun c0 h0 => ?_⟩
 refine ⟨_, rfl, [.str "."], updM_same, by simp, by simp; omega, by simp; exact sz (by omega), fun p hp => ?_⟩
 rw [show ((((c.map fq).length : Nat) : Int)).toNat = c.length by simp, rep1]
 obtain ⟨m2, e2⟩ : ∃ m2, m2 = updM (updM m c0 (.l [.str "."])) p (.l (List.replicate c.length (.str "."))) := ⟨_, rfl⟩; have k2 : Kn m m2 := by rw [e2]; exact ((Kn.refl.upd h0).upd (Kn.none (Kn.refl.upd h0) hp))
 have pm : m p = none := Kn.none (Kn.refl.upd h0) hp
 have g2 : m2 p = some (.l (List.replicate c.length (.str "."))) := by rw [e2]; exact updM_same
 rw [← e2]; clear e2; show b_signs_of_1 (EN R) [some (.dat (.str (kd t.k))), some (.dat t.d), some (.dat (.list (c.map fq))), some (.cel p), none, none] m2
 refine ⟨_, rfl, _, rfl, ?_⟩
 by_cases hk : t.k = false
 ·refine ite_t (by rw [kd_pt, hk]; rfl) ?_
  have ed : t.d = fq t.x := by unfold Thg.d; simp [hk]
  have hx : t.x ∈ c := hi.mem _ (by unfold Thg.es; simp [hk])
  obtain ⟨es, hlt⟩ := sg_point hi hk; refine ⟨_, rfl, ?_⟩; refine idx_use hx hn (fun K q => ⟨_, rfl, q⟩) (fun K q => ⟨_, rfl, by rw [ed]; exact q⟩) ⟨p, _, _, c.idxOf t.x, _, rfl, rfl, rfl, g2, by simp [ixN, hlt], ?_⟩
  refine so2 (l := c.map (sgc t)) (by simp; omega) ?_ (h _ (k2.upd pm))
  rw [updM_same, set_rep _ _ hlt, es]; simp [pL, ones, dotS, oS]
 ·have hk : t.k = true := by simpa using hk
  refine ite_f (by rw [kd_pt, hk]; rfl) ?_
  have ed : t.d = .tuple [fq t.x, fq t.y] := by unfold Thg.d; simp [hk]
  have hx : t.x ∈ c := hi.mem _ (by unfold Thg.es; simp [hk])
  have hy : t.y ∈ c := hi.mem _ (by unfold Thg.es; simp [hk])
  obtain ⟨mm, es, hyx, hlt⟩ := sg_stretch hi hk; show b_signs_of_B0 _ [some (.dat (.str (kd t.k))), some (.dat t.d), some (.dat (.list (c.map fq))), some (.cel p), none, none] m2
  simp only [b_signs_of_B0, dSeq, dSet]; refine idx_use hx hn (fun K q => ⟨_, rfl, q⟩) (fun K q => ⟨_, rfl, by rw [ed]; exact ⟨_, at0 _ _, q⟩⟩) ?_
  show b_signs_of_B0_1 _ [some (.dat (.str (kd t.k))), some (.dat t.d), some (.dat (.list (c.map fq))), some (.cel p), some (I (c.idxOf t.x : Nat)), none] m2
  simp only [b_signs_of_B0_1, dSeq, dSet]; refine idx_use hy hn (fun K q => ⟨_, rfl, q⟩) (fun K q => ⟨_, rfl, by rw [ed]; exact ⟨_, at1 _ _ _, q⟩⟩) ?_
  show b_signs_of_B0_2 _ [some (.dat (.str (kd t.k))), some (.dat t.d), some (.dat (.list (c.map fq))), some (.cel p), some (I (c.idxOf t.x : Nat)), some (I (c.idxOf t.y : Nat))] m2
  refine ⟨[.str "["], rfl, (sz (by decide) : 1 ≤ sizeLine), [.str "="], rfl, (sz (by decide) : 1 ≤ sizeLine), fun c1 h1 => ?_⟩
  refine ⟨_, rfl, _, rfl, [.str "="], updM_same, by omega, by omega, sz (show 1 * ((c.idxOf t.y : Int) - (c.idxOf t.x : Int) - 1).toNat ≤ 1000 by omega), ?_⟩
  rw [show ((c.idxOf t.y : Int) - (c.idxOf t.x : Int) - 1).toNat = mm by omega, rep1]
  refine ⟨by simp; exact sz (by omega), [.str "]"], rfl, (sz (by decide) : 1 ≤ sizeLine), by simp; exact sz (by omega), ?_⟩
  have pc : p ≠ c1 := fun e => by rw [e] at g2; rw [h1] at g2; cases g2
  refine ⟨_, rfl, _, rfl, _, rfl, _, rfl, _, rfl, p, _, List.replicate c.length (.str "."), c.idxOf t.x, c.idxOf t.y + 1, rfl, rfl, rfl, by simp, by omega, by rw [List.length_replicate]; omega, by rw [List.length_replicate]; omega, by simp only [List.length_append, List.length_cons, List.length_nil, List.length_replicate]; omega, by rw [updM_ne pc]; exact g2, ?_⟩
  refine so2 (l := c.map (sgc t)) (by simp; omega) ?_ (h _ ((k2.upd (Kn.none k2 h1)).upd pm))
  rw [updM_same, es, List.take_replicate, List.drop_replicate, Nat.min_eq_left (by omega), show c.length - (c.idxOf t.y + 1) = c.length - c.idxOf t.y - 1 by omega]
  simp [sLn, ones, dotS, lbS, rbS, eqS1]
end K85
namespace K85
open PySem PySem.Spec PyProof.Rows L2 DL K01
theorem join2 (a b : Str) : Txt.join (Str.ofString " ") [a, b] = a ++ Str.ofString " " ++ b := StrLaws.glued_eq_join _ _
theorem l_e : Str.empty.length = 0 := rfl
theorem l_s : (Str.ofString " ").length = 1 := by decide +kernel
theorem sg_len (c : List Q2) (t : Thg) : (sgS c t).length = c.length := by simp [sgS, Str.length]
theorem num_len {n : Q2} (nk : NumOk n) : (numT n).length ≤ 15 := by
 have n1 : n.1.natAbs ≤ 999999 := by have := nk.lo; have := nk.hi; omega
 have n2 : n.2.natAbs ≤ 999999 := by have := nk.pos; have := nk.le; omega
 have l1 := sI_len n1
 have l2 := sI_len n2
 have ls : (Str.ofString "/").length = 1 := by decide +kernel
 unfold numT
 split
 ·rw [strLen_append, strLen_append, ls]; omega
 ·omega
theorem row_loop {m0 : Mu} {c : List Q2} {Q : List PyData → Mu → Prop} : ∀ (ts : List Thg) (acc : List PyData) (o0 o1 o2 : Option D) (m : Mu), (∀ t ∈ ts, In c t ∧ good t.nm) → acc.length + ts.length ≤ 100 → Kn m0 m → (∀ m', Kn m0 m' → Q (acc ++ ts.map fun t => .str (rowS c t)) m') →
  loopC (gT 2 (gNs (gT 2 (gNs (gN 1) (gNs (gN 2) gN0))) (gNs (gN 0) gN0))) dTrue (dJs Str.empty [(dFv (dVar 1)), (dCon (.str " ")), (dFv (dCall 3 sp_signs_of (dCons (dVar 2) (dCons (dVar 0) (dCons (dVar 3) dNil)))))]) (ts.map fun t => .dat (.tuple [thD t, t.d])) acc [o0, o1, o2, some (.dat (.list (c.map fq)))] m Q
 | [], acc, _, _, _, m, _, _, k, h => by
  have := h m k
  rw [List.map_nil, List.append_nil] at this; exact this
 | t :: ts, acc, o0, o1, o2, m, hi, hl, k, h => by
  simp only [List.length_cons] at hl; obtain ⟨hin, hg⟩ := hi t List.mem_cons_self; have q : acc.length < sizeLine := Nat.lt_of_lt_of_le (show acc.length < 1000 by omega) (sz (by decide))
  have g8 := hg.2.2
  have gl := sg_len c t
  have g12 := hin.len
  rw [List.map_cons, loopC]; refine ⟨_, rfl, rfl, _, rfl, rfl, rfl, rfl, ?_⟩; simp only [dTrue, if_true]; refine ⟨_, rfl, .inr ⟨_, rfl, sz (by omega), _, rfl, sz (by simp only [strLen_append, l_e]; omega), _, rfl, sz (by simp only [strLen_append, l_e, l_s]; omega), ?_⟩⟩
  refine ⟨_, rfl, _, rfl, _, rfl, rfl, t, c, rfl, hin, fun m1 k1 => .inr ⟨_, rfl, sz (by omega), _, rfl, sz (by simp only [strLen_append, l_e, l_s]; omega), _, rfl, q, ?_⟩⟩
  rw [em]; refine row_loop ts _ _ _ _ m1 (fun u hu => hi u (List.mem_cons_of_mem _ hu)) (by simp; omega) (k.trans k1) fun m' k' => ?_
  have := h m' k'
  rw [List.map_cons] at this; rw [show rowS c t = t.nm ++ Str.ofString " " ++ sgS c t from join2 _ _] at this
  simpa using this
theorem num_loop {m : Mu} {Q : List PyData → Mu → Prop} : ∀ (c : List Q2) (acc : List PyData) (o : Option D), (∀ x ∈ c, NumOk x) → acc.length + c.length ≤ 100 → Q (acc ++ c.map fun x => .str (numT x)) m →
  loopC (gN 0) dTrue (dCall 1 sp_shown_number (dCons (dVar 0) dNil)) (c.map fun x => .dat (fq x)) acc [o] m Q
 | [], acc, _, _, _, h => by
  rw [List.map_nil, List.append_nil] at h; exact h
 | x :: r, acc, o, hn, hl, h => by
  simp only [List.length_cons] at hl; have q : acc.length < sizeLine := Nat.lt_of_lt_of_le (show acc.length < 1000 by omega) (sz (by decide))
  rw [List.map_cons, loopC]; simp only [gN, dTrue, if_true]; refine ⟨_, rfl, rfl, x, rfl, hn x List.mem_cons_self, _, rfl, q, ?_⟩; exact num_loop r _ _ (fun y hy => hn y (List.mem_cons_of_mem _ hy)) (by simp; omega) (by simpa using h)
theorem sum_nums : ∀ {c : List Q2}, (∀ x ∈ c, NumOk x) → ((c.map numT).map (·.length)).sum ≤ 15 * c.length
 | [], _ => by simp
 | x :: r, h => by
  have := sum_nums (c := r) fun y hy => h y (List.mem_cons_of_mem _ hy)
  have := num_len (h x List.mem_cons_self)
  simp only [List.map_cons, List.sum_cons, List.length_cons]; omega
theorem atS : (Str.ofString "@").length = 1 := by decide +kernel
theorem vc_drawn : ∀ ds m R, ds.length = p_drawn.length → sp_drawn ds m R → b_drawn (EN R) (start2 N_drawn ds) m := by
 rintro ds m R hl ⟨ts, rfl, hw, h⟩; have h6 := hw.le
 have c12 := cols_len hw
 have cok := cols_ok hw
 refine ⟨_, rfl, _, rfl, rfl, ts, rfl, hw, ?_⟩; show b_drawn_1 (EN R) [some (.dat (TH ts)), some (.dat (TEL ts)), some (.dat (.list ((cols ts).map fq))), none] m
 refine ⟨_, rfl, _, rfl, _, _, rfl, rfl, ?_⟩; rw [zipT, List.map_map]; refine row_loop (m0 := m) ts [] none none none m (fun t ht => ⟨cols_in hw ht, hw.gd t ht⟩) (by simp; omega) .refl fun m' k' => ?_
 show b_drawn_2 (EN R) [some (.dat (TH ts)), some (.dat (TEL ts)), some (.dat (.list ((cols ts).map fq))), some (.dat (.list ([] ++ ts.map fun t => .str (rowS (cols ts) t))))] m'
 refine ⟨_, rfl, [.str "@"], rfl, (sz (by decide) : 1 ≤ sizeLine), _, rfl, .inl ⟨_, rfl, ?_⟩⟩
 rw [List.map_map]; refine num_loop (cols ts) [] none cok.num (by simp; omega) ?_
 refine ⟨by simp; exact sz (by omega), "@" :: (cols ts).map numT, by simp [Function.comp_def], by rw [l_s]; decide, ?_, ?_⟩
 ·have := sum_nums cok.num
  simp only [List.map_cons, List.sum_cons, List.length_cons, List.length_map, atS]; omega
 ·refine ⟨[.str (lastS (cols ts))], rfl, (sz (by decide) : 1 ≤ sizeLine), by simp; exact sz (by omega), fun a ha => ?_⟩
  refine h a _ (Kn.none k' ha) (k'.upd (Kn.none k' ha)) ?_; rw [updM_same]; simp [linesOf, Function.comp_def]
end K85
namespace K85
open PySem PySem.Spec PyProof.Rows L2 DL K01
theorem len_ofL (l : List Nat) : (ofL l).length = l.length := by simp [Str.length]
theorem len_p (i j : Nat) : (pL i j).length = i + j + 1 := by simp [pL]; omega
theorem len_s (i m j : Nat) : (sLn i m j).length = i + m + j + 2 := by simp [sLn]; omega
theorem sg_cases {c : List Q2} {t : Thg} (h : In c t) : (t.k = false ∧ ∃ j, sgS c t = ofL (pL (c.idxOf t.x) j) ∧ c.idxOf t.x + j + 1 = c.length) ∨ (t.k = true ∧ ∃ m j, sgS c t = ofL (sLn (c.idxOf t.x) m j) ∧ c.idxOf t.y = c.idxOf t.x + m + 1 ∧ c.idxOf t.x + m + j + 2 = c.length) := by
 by_cases hk : t.k = false
 ·obtain ⟨e, hl⟩ := sg_point h hk; exact .inl ⟨hk, _, by unfold sgS; rw [e], by omega⟩
 ·have hk : t.k = true := by simpa using hk
  obtain ⟨m, e, h1, h2⟩ := sg_stretch h hk; exact .inr ⟨hk, m, _, by unfold sgS; rw [e], h1, by omega⟩
theorem vc_read_signs : ∀ ds m R, ds.length = p_read_signs.length → sp_read_signs ds m R → b_read_signs (EN R) (start2 N_read_signs ds) m := by
 rintro ds m R hl ⟨t, c, rfl, hi, h⟩; have c12 := hi.len
 have sl := sg_len c t
 have slz : (sgS c t).length ≤ sizeLine := sz (by omega)
 refine ⟨_, rfl, _, rfl, slz, _, rfl, ?_⟩; show b_read_signs_1 (EN R) [some (.dat (.str (sgS c t))), some (.dat (.str (Txt.stripChars (sgS c t) (Str.ofString ".")))), none] m
 refine ⟨_, rfl, slz, _, rfl, _, rfl, slz, _, rfl, ?_⟩; rcases sg_cases hi with ⟨hk, j, e, ej⟩ | ⟨hk, mm, j, e, ey, ej⟩
 ·obtain ⟨s1, s2, _⟩ := strip_p (c.idxOf t.x) (by omega) j (by omega)
  rw [e, s1]; refine ⟨by rw [s2]; exact sz (by omega), ?_⟩
  rw [s2, len_ofL, len_p]; show b_read_signs_2 (EN R) [some (.dat (.str (ofL (pL (c.idxOf t.x) j)))), some (.dat (.str (Str.ofString "o"))), some (I (((c.idxOf t.x + j + 1 : Nat) : Int) - ((j + 1 : Nat) : Int)))] m
  refine ⟨_, rfl, _, rfl, ite_t (by decide +kernel) ⟨_, rfl, [.int (((c.idxOf t.x + j + 1 : Nat) : Int) - ((j + 1 : Nat) : Int))], rfl, (sz (by decide) : 1 ≤ sizeLine), ?_⟩⟩
  rw [show ((c.idxOf t.x + j + 1 : Nat) : Int) - ((j + 1 : Nat) : Int) = (c.idxOf t.x : Int) by omega]
  have : plc c t = [(c.idxOf t.x : Int)] := by unfold plc Thg.es; simp [hk]
  rw [this] at h; exact h
 ·obtain ⟨s1, s2, _⟩ := strip_s (i := c.idxOf t.x) (m := mm) (j := j) (by omega)
  obtain ⟨s3, s4⟩ := inner_s mm (by omega)
  have l0 : (ofL (sLn 0 mm 0)).length = mm + 2 := by rw [len_ofL, len_s]; omega
  rw [e, s1]; refine ⟨by rw [s2]; exact sz (by omega), ?_⟩
  rw [s2, len_ofL, len_s]; have eb : ((c.idxOf t.x + mm + j + 2 : Nat) : Int) - ((mm + j + 2 : Nat) : Int) = (c.idxOf t.x : Int) := by omega
  show b_read_signs_2 (EN R) [some (.dat (.str (ofL (sLn (c.idxOf t.x) mm j)))), some (.dat (.str (ofL (sLn 0 mm 0)))), some (I (((c.idxOf t.x + mm + j + 2 : Nat) : Int) - ((mm + j + 2 : Nat) : Int)))] m
  rw [eb]; show b_read_signs_2 (EN R) [some (.dat (.str (ofL (sLn (c.idxOf t.x) mm j)))), some (.dat (.str (ofL (sLn 0 mm 0)))), some (I (c.idxOf t.x : Nat))] m
  refine ⟨_, rfl, _, rfl, ite_f (decide_eq_false s4) ?_⟩; show b_read_signs_3 (EN R) [some (.dat (.str (ofL (sLn (c.idxOf t.x) mm j)))), some (.dat (.str (ofL (sLn 0 mm 0)))), some (I (c.idxOf t.x : Nat))] m
  have tl : (Str.ofString "[" ++ Txt.mul (Str.ofString "=") (mm : Int)).length + (Str.ofString "]").length = mm + 2 := by rw [← strLen_append, s3, l0]
  refine ⟨_, rfl, _, rfl, sz (by omega), ?_⟩
  simp only [dCon, aSub]; rw [l0, show ((mm + 2 : Nat) : Int) - 2 = (mm : Int) by omega]
  refine ⟨by decide +kernel, by omega, by omega, ?_⟩
  refine ⟨sz (by rw [← strLen_append]; omega), ?_⟩
  refine ⟨sz (by omega), ?_⟩
  rw [s3]; refine ⟨_, rfl, ite_t (decide_eq_true rfl) ⟨_, rfl, _, rfl, _, rfl, sz (by omega), [.int (c.idxOf t.x : Nat), .int ((c.idxOf t.x : Nat) + ((ofL (sLn 0 mm 0)).length : Nat) - 1)], rfl, (sz (by decide) : 2 ≤ sizeLine), ?_⟩⟩
  have : plc c t = [(c.idxOf t.x : Int), (c.idxOf t.y : Int)] := by unfold plc Thg.es; simp [hk]
  rw [this, ey] at h; rw [l0, show ((c.idxOf t.x : Nat) : Int) + ((mm + 2 : Nat) : Int) - 1 = ((c.idxOf t.x + mm + 1 : Nat) : Int) by omega]
  exact h
end K85
namespace K85
open PySem PySem.Spec PyProof.Rows L2 DL K01
theorem good_ok {z : Str} (h : good z) : PyData.strOk z = true := sOk _ fun c hc => by have := (h.1 c hc).2; omega
theorem lay_rw (c : List Q2) : ∀ {ts : List Thg}, (∀ u ∈ ts, good u.nm) → PyData.canLayAll0 (ts.map (rwD c)) = true ∧ PyData.depthAll (ts.map (rwD c)) ≤ 10
 | [], _ => ⟨rfl, by simp [PyData.depthAll]⟩
 | t :: ts, h => by
  obtain ⟨h1, h2⟩ := lay_rw c (ts := ts) fun u hu => h u (List.mem_cons_of_mem _ hu); obtain ⟨g1, g2⟩ := lay_ints (plc c t); have g0 := good_ok (h t List.mem_cons_self)
  refine ⟨?_, ?_⟩
  ·simp only [List.map_cons, PyData.canLayAll0, PyData.canLay0, g1, g0, h1, Bool.and_self]
  ·simp only [List.map_cons, PyData.depthAll, PyData.depth]; omega
theorem at_last (xs : List PyData) (x : PyData) : atI (xs ++ [x]) (-1) = some x := by
 have e : ixN (xs ++ [x]).length (-1) = some xs.length := by
  unfold ixN; rw [if_neg (by decide), if_pos (by simp; omega)]
  simp; omega
 unfold atI; rw [e]; simp
theorem at_first {xs : List PyData} {x : PyData} (h : xs[0]? = some x) : atI xs 0 = some x := by
 cases xs with
 | nil => simp at h
 | cons y r => simp at h; subst h; exact at0 _ _
theorem ne_nil_view {m : Mu} {a : Addr} {xs : List PyData} (hm : m a = some (.l xs)) (h : PyData.canLayAll0 xs = true ∧ PyData.depthAll xs ≤ 10) {Q : DK} (hq : Q (.dat (.bool (!xs.isEmpty))) m) : aNeX (.cel a) (.dat (.list [])) m Q := by
 refine ⟨.list xs, .list [], by simp [hm], rfl, by simpa [PyData.canLay0] using h.1, rfl, by simp only [PyData.depth]; omega, ?_⟩
 have : PyData.eqv (.list xs) (.list []) = xs.isEmpty := by cases xs <;> simp [PyData.eqv, PyData.eqvAll]
 rw [this]; exact hq
theorem vc_read_thing_row : ∀ ds m R, ds.length = p_read_thing_row.length → sp_read_thing_row ds m R → b_read_thing_row (EN R) (start2 N_read_thing_row ds) m := by
 rintro ds m R hl ⟨c, ts, t, i, a, rfl, ha, h5, hi, hg, hu, h⟩; have gt : good t.nm := hg t (by simp)
 have gts : ∀ u ∈ ts, good u.nm := fun u hu => hg u (by simp [hu])
 have lay := lay_rw c gts
 have c12 := hi.len
 have sl := sg_len c t
 refine ⟨_, rfl, _, at0 _ _, ?_⟩; show b_read_thing_row_1 (EN R) [some (.dat (sL [t.nm, sgS c t])), some (I i), some (.cel a), some (.dat (.str t.nm)), none, none] m
 refine ⟨_, rfl, _, ha, rfl, rfl, by simp [PyData.depth], _, rfl, ?_⟩
 have e6 : PyData.eqv (.int ((ts.map (rwD c)).length : Nat)) (.int 6) = false := by
  simp [PyData.eqv]; omega
 rw [e6]; refine ite_f rfl ?_; refine ⟨_, rfl, rfl, _, rfl, gt, _, rfl, ?_⟩; refine ite_f rfl ?_; refine ⟨_, rfl, [], rfl, sz (by decide), ne_nil_view ha lay ⟨_, rfl, ?_⟩⟩
 have rest : b_read_thing_row_2 (EN R) [some (.dat (sL [t.nm, sgS c t])), some (I i), some (.cel a), some (.dat (.str t.nm)), none, none] m := by
  refine ⟨_, rfl, _, rfl, rfl, [t.nm, sgS c t], 1, i, sgS c t, rfl, rfl, by simp, ?_⟩
  show b_read_thing_row_3 (EN R) [some (.dat (sL [t.nm, sgS c t])), some (I i), some (.cel a), some (.dat (.str t.nm)), some (.dat (.str (sgS c t))), none] m
  refine ⟨_, rfl, rfl, t, c, rfl, hi, ?_⟩; show b_read_thing_row_4 (EN R) [some (.dat (sL [t.nm, sgS c t])), some (I i), some (.cel a), some (.dat (.str t.nm)), some (.dat (.str (sgS c t))), some (.dat (.list ((plc c t).map .int)))] m
  refine ⟨_, rfl, _, rfl, ite_f rfl ?_⟩; refine ⟨_, rfl, [], rfl, sz (by decide), ne_nil_view ha lay ⟨_, rfl, ?_⟩⟩
  have fin : b_read_thing_row_5 (EN R) [some (.dat (sL [t.nm, sgS c t])), some (I i), some (.cel a), some (.dat (.str t.nm)), some (.dat (.str (sgS c t))), some (.dat (.list ((plc c t).map .int)))] m := by
   refine ⟨_, rfl, _, rfl, ite_f (by simp) ?_⟩
   refine ⟨_, rfl, _, rfl, _, rfl, sz (by omega), [.str t.nm, .list ((plc c t).map .int), .int ((sgS c t).length : Nat)], rfl, (sz (by decide) : 3 ≤ sizeLine), ?_⟩
   rw [sl]; exact h
  cases ts with
  | nil => exact ite_f rfl (ite_f rfl fin)
  | cons u us =>
   refine ite_t rfl ⟨_, rfl, sz (by omega), _, rfl, _, _, ha, at0 _ _, ?_⟩
   refine ⟨.int c.length, by rfl, rfl, rfl, by simp [PyData.depth], _, rfl, ?_⟩
   rw [sl]; refine ite_f (by simp [PyData.eqv]) fin
 rcases List.eq_nil_or_concat ts with rfl | ⟨us, u, rfl⟩
 ·exact ite_f rfl (ite_f rfl rest)
 ·rw [show (us.concat u) = us ++ [u] from List.concat_eq_append] at *
  refine ite_t (by simp) ⟨_, rfl, _, rfl, _, rfl, _, _, ha, by rw [List.map_append]; exact at_last _ _, ?_⟩
  refine ⟨.str u.nm, at0 _ _, ?_⟩; have lt : u.nm.cps.toList < t.nm.cps.toList := by
   have := (List.pairwise_append.mp (show (((us ++ [u]).map (·.nm)) ++ [t.nm]).Pairwise fun a b => a.cps.toList < b.cps.toList from by simpa [up] using hu)).2.2
   exact this u.nm (by simp) t.nm (by simp)
  refine ⟨_, rfl, ite_f (by simp [lt]) rest⟩
end K85
namespace K85
open PySem PySem.Spec PyProof.Rows L2 DL K01
theorem good_free {z : Str} (h : good z) {c : Nat} (hc : c < 97) : c ∉ z.cps.toList := fun q => by have := (h.1 c q).1; omega
theorem sg_free (c : List Q2) (t : Thg) : 32 ∉ (sgS c t).cps.toList := fun h => by
 have : ∀ x, sgc t x ≠ 32 := fun x => by unfold sgc; split <;> (try split) <;> (try split) <;> (try split) <;> decide
 simp [sgS] at h; obtain ⟨a, b, _, e⟩ := h; exact this _ e
theorem num_free (n : Q2) : 32 ∉ (numT n).cps.toList := fun h => by
 have f : ∀ i : Int, 32 ∉ (sI i).cps.toList := fun i => int_text_free' 32 ⟨by decide, by decide⟩ i
 unfold numT at h
 split at h
 ·rw [Str.cps_append, Str.cps_append, Array.toList_append, Array.toList_append, List.mem_append, List.mem_append] at h; rcases h with (h | h) | h
  ·exact f _ h
  ·rw [sl_is] at h; simp at h
  ·exact f _ h
 ·exact f _ h
theorem at_is : (Str.ofString "@") = ⟨#[64]⟩ := by decide +kernel
theorem split_row {c : List Q2} {t : Thg} (h : good t.nm) : Txt.split (rowS c t) (Str.ofString " ") = [t.nm, sgS c t] := by
 refine TX.split_join (by simp) fun w hw => ?_
 rcases List.mem_cons.mp hw with rfl | hw
 ·exact good_free h (by decide)
 ·rw [List.mem_singleton.mp hw]; exact sg_free c t
theorem split_last (c : List Q2) : Txt.split (lastS c) (Str.ofString " ") = Str.ofString "@" :: c.map numT := by
 refine TX.split_join (by simp) fun w hw => ?_
 rcases List.mem_cons.mp hw with rfl | hw
 ·rw [at_is]; simp
 ·obtain ⟨x, _, rfl⟩ := List.mem_map.mp hw; exact num_free x
theorem row_len {c : List Q2} {t : Thg} (h : good t.nm) (hc : c.length ≤ 12) : (rowS c t).length ≤ 100 := by
 rw [show rowS c t = t.nm ++ Str.ofString " " ++ sgS c t from join2 _ _, strLen_append, strLen_append, l_s, sg_len]
 have := h.2.2
 omega
theorem last_len {c : List Q2} (h : ∀ x ∈ c, NumOk x) (hc : c.length ≤ 12) : (lastS c).length ≤ 1000 := by
 have e : lastS c = Str.join (Str.ofString " ") (Str.ofString "@" :: c.map numT) := StrLaws.glued_eq_join _ _
 have := StrLaws.join_length_le (Str.ofString " ") (Str.ofString "@" :: c.map numT)
 have := sum_nums h
 rw [e]; simp only [List.map_cons, List.sum_cons, List.length_cons, List.length_map, l_s, atS] at *; omega
theorem nm_at {z : Str} (h : good z) : decide (z = Str.ofString "@") = false := decide_eq_false fun e => by
 have := good_free h (c := 64) (by decide)
 rw [e, at_is] at this; simp at this
theorem trs_loop {m0 : Mu} {a : Addr} {R : DK} {c : List Q2} {o0 : Option D} {E : Ends2} (hE : E.rt = R) (hnum : ∀ x ∈ c, NumOk x) (hc : c.length ≤ 12) (ha0 : m0 a = none) : ∀ (rest done : List Thg) (k : Nat) (m : Mu) (o2 o3 o4 : Option D), (∀ t ∈ done ++ rest, good t.nm ∧ In c t) → up ((done ++ rest).map (·.nm)) → (done ++ rest).length ≤ 6 → done ++ rest ≠ [] → Kn m0 m → m a = some (.l (done.map (rwD c))) →
  (∀ t m', m0 t = none → a ≠ t → Kn m0 m' → m' t = some (.tc [.cel a, .dat (sL (Str.ofString "@" :: c.map numT))]) → m' a = some (.l ((done ++ rest).map (rwD c))) → R (.cel t) m') →
  loopL (gT 2 (gNs (gN 2) (gNs (gN 3) gN0))) b_read_thing_rows_L0 E ((((rest.map (rowS c) ++ [lastS c]).map PyData.str).zipIdx k).map fun z => .dat (.tuple [.int z.2, z.1])) [o0, some (.cel a), o2, o3, o4] m
 | [], done, k, m, o2, o3, o4, hg, hu, hl, hne, kn, hm, h => by
  have hne : done ≠ [] := by simpa using hne
  have ll := last_len hnum hc
  rw [List.map_nil, List.nil_append, List.map_cons, List.map_nil, List.zipIdx_cons, List.map_cons, loopL]; refine ⟨_, rfl, rfl, rfl, ?_⟩; refine ⟨_, rfl, _, rfl, by omega, _, rfl, by decide +kernel, ?_⟩
  rw [split_last]; refine ⟨sz (by simp; omega), ?_⟩
  refine ⟨_, rfl, _, at0 _ _, _, rfl, ite_t (decide_eq_true rfl) ?_⟩; refine ⟨_, rfl, [], rfl, sz (by decide), ne_nil_view hm (lay_rw c fun u hu => (hg u (by simp [hu])).1) ⟨_, rfl, ?_⟩⟩
  have e : (!(done.map (rwD c)).isEmpty) = true := by cases done with | nil => exact absurd rfl hne | cons _ _ => rfl
  refine ite_t e ?_; refine ⟨_, rfl, _, rfl, (sz (by decide) : 2 ≤ sizeLine), fun t ht => ?_⟩
  have nt : a ≠ t := fun q => by rw [← q, hm] at ht; cases ht
  show E.rt _ _
  rw [hE]; refine h t _ (Kn.none kn ht) nt (kn.upd (Kn.none kn ht)) updM_same (by rw [updM_ne nt, hm, List.append_nil])
 | t :: rest, done, k, m, o2, o3, o4, hg, hu, hl, hne, kn, hm, h => by
  obtain ⟨gt, it⟩ := hg t (by simp)
  have rl := row_len (c := c) gt hc
  rw [List.map_cons, List.cons_append, List.map_cons, List.zipIdx_cons, List.map_cons, loopL]; refine ⟨_, rfl, rfl, rfl, ?_⟩; refine ⟨_, rfl, _, rfl, by omega, _, rfl, by decide +kernel, ?_⟩
  rw [split_row gt]; refine ⟨(sz (by decide) : 2 ≤ sizeLine), ?_⟩
  refine ⟨_, rfl, _, at0 _ _, _, rfl, ite_f (nm_at gt) (ite_f rfl ?_)⟩; refine ⟨_, rfl, a, rfl, ⟨_, hm⟩, _, rfl, _, rfl, _, rfl, rfl, ?_⟩; refine ⟨c, done, t, k, a, rfl, hm, by simp at hl; omega, it, fun u hu => (hg u (by simp at hu ⊢; rcases hu with q | q; exact .inl q; exact .inr (.inl q))).1, ?_, ?_⟩
  ·unfold up at hu ⊢; rw [show done ++ t :: rest = (done ++ [t]) ++ rest by simp, List.map_append, List.pairwise_append] at hu
   exact hu.1
  ·refine ⟨_, _, rfl, hm, Nat.lt_of_lt_of_le (show (done.map (rwD c)).length < 1000 by simp at hl ⊢; omega) (sz (by decide)), ?_⟩
   have e : done.map (rwD c) ++ [rwD c t] = (done ++ [t]).map (rwD c) := by simp
   refine trs_loop hE hnum hc ha0 rest (done ++ [t]) (k + 1) _ _ _ _ (by simpa using hg) (by simpa using hu) (by simpa using hl) (by simp) (kn.upd ha0) (by rw [updM_same, e]) (by simpa using h)
theorem vc_read_thing_rows : ∀ ds m R, ds.length = p_read_thing_rows.length → sp_read_thing_rows ds m R → b_read_thing_rows (EN R) (start2 N_read_thing_rows ds) m := by
 rintro ds m R hl ⟨ts, rfl, hw, h⟩; refine ⟨[], rfl, sz (by decide), fun a ha => ?_⟩
 show b_read_thing_rows_1 (EN R) [some (.dat (sL (linesOf ts))), some (.cel a), none, none, none] (updM m a (.l []))
 refine ⟨_, rfl, _, rfl, ?_⟩; have := hw.ne
 refine trs_loop (m0 := m) (R := R) (c := cols ts) rfl (cols_ok hw).num (cols_len hw) ha ts [] 0 _ _ _ _ (fun t ht => ⟨hw.gd t (by simpa using ht), cols_in hw (by simpa using ht)⟩) hw.up hw.le (by intro e; simp at e; subst e; simp at this) (Kn.new ha) updM_same fun t m' q1 q2 q3 q4 q5 => h a t m' ha q1 q2 q3 q4 q5
end K85
namespace K85
open PySem PySem.Spec PyProof.Rows L2 DL K01
theorem in_loop {m : Mu} {Q : List PyData → St2 → Mu → Prop} {o0 o1 o2 : Option D} : ∀ (zs : List Int) (acc : List PyData) (o3 : Option D), acc.length + zs.length ≤ 100 → (∀ o3, Q (acc ++ zs.map .int) [o0, o1, o2, o3] m) →
  loopA (stepI (gN 3) dTrue (dVar 3)) (zs.map fun z => .dat (.int z)) acc [o0, o1, o2, o3] m Q
 | [], acc, o3, _, h => by
  have := h o3
  rw [List.map_nil, List.append_nil] at this; exact this
 | z :: zs, acc, o3, hl, h => by
  simp only [List.length_cons] at hl; have q : acc.length < sizeLine := Nat.lt_of_lt_of_le (show acc.length < 1000 by omega) (sz (by decide))
  rw [List.map_cons, loopA]; simp only [DL.stepI, gN, dTrue, if_true]; exact ⟨_, rfl, _, rfl, q, in_loop zs _ _ (by simp; omega) fun o => by simpa using h o⟩
theorem plc_len (c : List Q2) (t : Thg) : (plc c t).length ≤ 2 := by unfold plc; rw [List.length_map]; exact es_len t
theorem used_loop {m : Mu} {c : List Q2} {Q : List PyData → St2 → Mu → Prop} : ∀ (ts : List Thg) (acc : List PyData) (o0 o1 o2 o3 : Option D), acc.length + 2 * ts.length ≤ 100 → (∀ d, Q (acc ++ (ts.flatMap (plc c)).map .int) d m) →
  loopA (stepO (gT 3 (gNs (gN 0) (gNs (gN 1) (gNs (gN 2) gN0)))) dTrue (dSeqI (dVar 1)) (stepI (gN 3) dTrue (dVar 3))) (ts.map fun t => .dat (rwD c t)) acc [o0, o1, o2, o3] m Q
 | [], acc, _, _, _, _, _, h => by
  have := h [‹Option D›, ‹Option D›, ‹Option D›, ‹Option D›]
  rw [List.flatMap_nil, List.map_nil, List.append_nil] at this; exact by simpa [loopA] using h _
 | t :: ts, acc, o0, o1, o2, o3, hl, h => by
  simp only [List.length_cons] at hl; have pl := plc_len c t
  rw [List.map_cons, loopA]; refine ⟨_, rfl, rfl, rfl, ?_⟩; simp only [dTrue, if_true]; refine ⟨_, rfl, .inl ⟨_, rfl, ?_⟩⟩; rw [List.map_map]; refine in_loop (plc c t) acc _ (by omega) fun o => ?_
  refine used_loop ts _ _ _ _ _ (by simp; omega) fun d => ?_
  have := h d
  rw [List.flatMap_cons, List.map_append, ← List.append_assoc] at this; exact this
theorem depth_fq : ∀ c : List Q2, PyData.depthAll (c.map fq) ≤ 10
 | [] => by simp [PyData.depthAll]
 | x :: r => by
  have := depth_fq r
  simp only [List.map_cons, PyData.depthAll, PyData.depth]; omega
theorem used_mem {ts : List Thg} (hw : Ws ts) {i : Nat} (hi : i < (cols ts).length) : (i : Int) ∈ ts.flatMap (plc (cols ts)) := by
 obtain ⟨t, ht, hx⟩ := (cols_mem hw (cols ts)[i]).mp (List.getElem_mem hi); refine List.mem_flatMap.mpr ⟨t, ht, List.mem_map.mpr ⟨_, hx, ?_⟩⟩; rw [(col_nd (cols_ok hw)).idxOf_getElem]
theorem vc_read_times : ∀ ds m R, ds.length = p_read_times.length → sp_read_times ds m R → b_read_times (EN R) (start2 N_read_times ds) m := by
 rintro ds m R hl ⟨ts, k, rfl, hw, h⟩; have h6 := hw.le
 have h1 := hw.ne
 have c12 := cols_len hw
 have cok := cols_ok hw
 obtain ⟨c, ec⟩ : ∃ c, c = cols ts := ⟨_, rfl⟩; refine ⟨_, rfl, .inl ⟨_, rfl, ?_⟩⟩; rw [List.map_map]; refine used_loop ts [] none none none none (by simp; omega) fun _ => ?_
 rw [List.nil_append]; show b_read_times_1 (EN R) [some (.dat (sL ("@" :: (cols ts).map numT))), some (I k), some (.dat (.list (ts.map (rwD (cols ts))))), some (.dat (.list ((ts.flatMap (plc (cols ts))).map .int))), none, none, none] m
 refine ⟨[], rfl, sz (by decide), fun a ha => ?_⟩
 show b_read_times_2 (EN R) [some (.dat (sL ("@" :: (cols ts).map numT))), some (I k), some (.dat (.list (ts.map (rwD (cols ts))))), some (.dat (.list ((ts.flatMap (plc (cols ts))).map .int))), some (.cel a), none, none] (updM m a (.l []))
 obtain ⟨t0, r0, e0⟩ : ∃ t r, ts = t :: r := by cases ts with | nil => simp at h1 | cons t r => exact ⟨t, r, rfl⟩
 refine ⟨_, rfl, _, at_first (x := rwD (cols ts) t0) (by rw [e0]; rfl), .int (cols ts).length, rfl, (cols ts).length, rfl, by omega, by omega, ?_⟩
 rw [show (((cols ts).length : Int)).toNat = (cols ts).length by simp]
 rw [← ec] at h cok c12 ⊢; refine loopL_int c.length (fun i d m' => (∃ o5 o6, d = [some (.dat (sL ("@" :: c.map numT))), some (I k), some (.dat (.list (ts.map (rwD c)))), some (.dat (.list ((ts.flatMap (plc c)).map .int))), some (.cel a), o5, o6]) ∧ m' a = some (.l ((c.take i).map fq)) ∧ Kn m m') ?_ ?_ c.length 0 (by omega) _ _ ⟨⟨none, none, rfl⟩, updM_same, Kn.new ha⟩
 ·rintro d m' ⟨⟨o5, o6, rfl⟩, hm, kn⟩; rw [List.take_length] at hm; refine ⟨_, rfl, _, rfl, _, hm, ?_⟩; refine ⟨_, rfl, ite_f ?_ ⟨_, rfl, h a m' ha kn hm⟩⟩; simp
 ·rintro i d m' kk hi ⟨⟨o5, o6, rfl⟩, hm, kn⟩ hk; have nx := cok.num _ (List.getElem_mem hi)
  have ln : (c.take i).length = i := by simp; omega
  refine ⟨_, rfl, _, rfl, _, rfl, rfl, Str.ofString "@" :: c.map numT, i + 1, k, numT c[i], rfl, by simp [hi], by simp; omega, ?_⟩
  refine ⟨rfl, c[i], rfl, nx, ?_⟩; show b_read_times_L0_1 _ [some (.dat (sL ("@" :: c.map numT))), some (I k), some (.dat (.list (ts.map (rwD c)))), some (.dat (.list ((ts.flatMap (plc c)).map .int))), some (.cel a), some (I i), some (.dat (fq c[i]))] m'
  refine ⟨_, rfl, _, rfl, ite_f rfl ?_⟩; refine ⟨_, rfl, [], rfl, sz (by decide), ne_nil_view hm ⟨lay_fq _, depth_fq _⟩ ⟨_, rfl, ?_⟩⟩
  have app : b_read_times_L0_2 { (EN R) with nx := kk, ct := kk, bk := b_read_times_3 (EN R) } [some (.dat (sL ("@" :: c.map numT))), some (I k), some (.dat (.list (ts.map (rwD c)))), some (.dat (.list ((ts.flatMap (plc c)).map .int))), some (.cel a), some (I i), some (.dat (fq c[i]))] m' := by
   refine ⟨_, rfl, a, rfl, ⟨_, hm⟩, _, rfl, _, _, rfl, hm, Nat.lt_of_lt_of_le (show ((c.take i).map fq).length < 1000 by simp; omega) (sz (by decide)), ?_⟩
   refine hk _ _ ⟨⟨_, _, rfl⟩, ?_, kn.upd ha⟩; rw [updM_same, List.take_succ, List.getElem?_eq_getElem hi, List.map_append]; rfl
  have mem : ∀ X : DS, dIf (dTst (dBin aNotIn (dVar 5) (dVar 3))) (dSeq dNevS dNext) dNext { ({ (EN R) with nx := kk, ct := kk, bk := b_read_times_3 (EN R) } : Ends2) with nx := b_read_times_L0_2 { (EN R) with nx := kk, ct := kk, bk := b_read_times_3 (EN R) } } [some (.dat (sL ("@" :: c.map numT))), some (I k), some (.dat (.list (ts.map (rwD c)))), some (.dat (.list ((ts.flatMap (plc c)).map .int))), some (.cel a), some (I i), some (.dat (fq c[i]))] m' := fun _ => by
   refine ⟨_, rfl, _, rfl, _, rfl, _, rfl, ite_f ?_ app⟩; have := used_mem hw (i := i) (by rw [← ec]; exact hi)
   rw [← ec] at this; simpa using this
  cases i with
  | zero =>
   refine ite_f (by simp) ?_
   exact ite_f rfl (mem dNext)
  | succ j =>
   have hj : j < c.length := by omega
   refine ite_t (by simp; intro e; rw [e] at hi; simp at hi) ?_
   refine ⟨_, rfl, _, rfl, _, _, hm, ?_, _, rfl, rfl, c[j], c[j + 1], rfl, cok.num _ (List.getElem_mem hj), nx, _, rfl, ?_⟩
   ·rw [List.take_succ, List.getElem?_eq_getElem hj]; simp only [Option.toList, List.map_append, List.map_cons, List.map_nil]; exact at_last _ _
   ·have lt : ltQ c[j] c[j + 1] := List.pairwise_iff_getElem.mp cok.srt j (j + 1) hj hi (by omega)
    rw [decide_eq_true lt]; exact ite_f rfl (mem dNext)
end K85
namespace K85
open PySem PySem.Spec PyProof.Rows L2 DL K01
theorem kn_off {m m1 : Mu} {t : Addr} (h : Kn m m1) (ht : m t = none) : Kn m (offM m1 t) := fun c hc => by
 have ne : c ≠ t := fun e => by rw [e, ht] at hc; cases hc
 unfold offM; rw [if_neg ne]; exact h c hc
theorem len_es (c : List Q2) (t : Thg) : PyData.eqv (.int (((plc c t).map PyData.int).length : Nat)) (.int 1) = !t.k := by
 unfold plc Thg.es
 cases t.k <;> simp [PyData.eqv] <;> decide
theorem nm_loop {m : Mu} {c : List Q2} {Q : List PyData → Mu → Prop} : ∀ (ts : List Thg) (acc : List PyData) (o0 o1 o2 : Option D), acc.length + ts.length ≤ 100 → Q (acc ++ ts.map thD) m →
  loopC (gT 3 (gNs (gN 0) (gNs (gN 1) (gNs (gN 2) gN0)))) dTrue (dTup (dCons (dVar 0) (dCons (dIte (dTst (dBin aEq (dCallB bLen (dCons (dVar 1) dNil)) (dCon (.int 1)))) (dCon (.str "point")) (dCon (.str "stretch"))) dNil))) (ts.map fun t => .dat (rwD c t)) acc [o0, o1, o2] m Q
 | [], acc, _, _, _, _, h => by
  rw [List.map_nil, List.append_nil] at h; exact h
 | t :: ts, acc, o0, o1, o2, hl, h => by
  simp only [List.length_cons] at hl; have q : acc.length < sizeLine := Nat.lt_of_lt_of_le (show acc.length < 1000 by omega) (sz (by decide))
  rw [List.map_cons, loopC]; refine ⟨_, rfl, rfl, rfl, ?_⟩; simp only [dTrue, if_true]; refine ⟨_, rfl, _, rfl, rfl, rfl, by simp [PyData.depth], _, rfl, ?_⟩
  rw [len_es]; have nx := nm_loop (m := m) (c := c) (Q := Q) ts (acc ++ [thD t]) (some (.dat (.str t.nm))) (some (.dat (.list ((plc c t).map .int)))) (some (.dat (.int c.length))) (by simp; omega) (by simpa using h)
  by_cases hk : t.k = false
  ·refine ite_t (by rw [hk]; rfl) ⟨[.str t.nm, .str "point"], rfl, (sz (by decide) : 2 ≤ sizeLine), _, rfl, q, ?_⟩
   have e : thD t = .tuple [.str t.nm, .str "point"] := by simp [thD, kd, hk]
   rw [e] at nx; exact nx
  ·have hk : t.k = true := by simpa using hk
   refine ite_f (by rw [hk]; rfl) ⟨[.str t.nm, .str "stretch"], rfl, (sz (by decide) : 2 ≤ sizeLine), _, rfl, q, ?_⟩
   have e : thD t = .tuple [.str t.nm, .str "stretch"] := by simp [thD, kd, hk]
   rw [e] at nx; exact nx
theorem pl_loop {m : Mu} {c : List Q2} {Q : List PyData → Mu → Prop} : ∀ (xs : List Q2) (acc : List PyData) (o0 : Option D), (∀ x ∈ xs, x ∈ c) → acc.length + xs.length ≤ 100 → Q (acc ++ xs.map fq) m →
  loopC (gN 0) dTrue (dBin aIx (dVar 1) (dVar 0)) ((xs.map fun x => PyData.int (c.idxOf x : Nat)).map .dat) acc [o0, some (.dat (.list (c.map fq)))] m Q
 | [], acc, _, _, _, h => by
  rw [List.map_nil, List.append_nil] at h; exact h
 | x :: xs, acc, o0, hx, hl, h => by
  simp only [List.length_cons] at hl; have q : acc.length < sizeLine := Nat.lt_of_lt_of_le (show acc.length < 1000 by omega) (sz (by decide))
  rw [List.map_cons, List.map_cons, loopC]; simp only [gN, dTrue, if_true]; refine ⟨_, rfl, _, rfl, _, atI_nat (by rw [List.getElem?_map, ix_get (hx x List.mem_cons_self)]; rfl), _, rfl, q, ?_⟩
  exact pl_loop xs _ _ (fun y hy => hx y (List.mem_cons_of_mem _ hy)) (by simp; omega) (by simpa using h)
theorem fd_loop {m : Mu} {c : List Q2} {Q : List PyData → Mu → Prop} : ∀ (ts : List Thg) (acc : List PyData) (o0 o1 o2 : Option D), (∀ t ∈ ts, ∀ x ∈ t.es, x ∈ c) → acc.length + ts.length ≤ 100 → Q (acc ++ ts.map fun t => .list (t.es.map fq)) m →
  loopC (gT 3 (gNs (gN 0) (gNs (gN 1) (gNs (gN 2) gN0)))) dTrue (dLC [none, some 3] (dSeqI (dVar 1)) (gN 0) dTrue (dBin aIx (dVar 1) (dVar 0))) (ts.map fun t => .dat (rwD c t)) acc [o0, o1, o2, some (.dat (.list (c.map fq)))] m Q
 | [], acc, _, _, _, _, _, h => by
  rw [List.map_nil, List.append_nil] at h; exact h
 | t :: ts, acc, o0, o1, o2, hx, hl, h => by
  simp only [List.length_cons] at hl; have q : acc.length < sizeLine := Nat.lt_of_lt_of_le (show acc.length < 1000 by omega) (sz (by decide))
  have el := es_len t
  rw [List.map_cons, loopC]; refine ⟨_, rfl, rfl, rfl, ?_⟩; simp only [dTrue, if_true]; refine ⟨_, rfl, .inl ⟨_, rfl, ?_⟩⟩; show loopC _ _ _ (((plc c t).map .int).map .dat) [] [none, some (.dat (.list (c.map fq)))] m _
  unfold plc; rw [List.map_map (l := t.es)]; refine pl_loop t.es [] none (hx t List.mem_cons_self) (by simp; omega) ⟨_, rfl, q, ?_⟩
  exact fd_loop ts _ _ _ _ (fun u hu => hx u (List.mem_cons_of_mem _ hu)) (by simp; omega) (by simpa using h)
theorem tel_loop {m : Mu} {Q : List PyData → Mu → Prop} : ∀ (ts : List Thg) (acc : List PyData) (o : Option D), acc.length + ts.length ≤ 100 → Q (acc ++ ts.map Thg.d) m →
  loopC (gN 0) dTrue (dIte (dTst (dBin aEq (dCallB bLen (dCons (dVar 0) dNil)) (dCon (.int 1)))) (dBin aIx (dVar 0) (dCon (.int 0))) (dCallB bTuple (dCons (dVar 0) dNil))) ((ts.map fun t => PyData.list (t.es.map fq)).map .dat) acc [o] m Q
 | [], acc, _, _, h => by
  rw [List.map_nil, List.append_nil] at h; exact h
 | t :: ts, acc, o, hl, h => by
  simp only [List.length_cons] at hl; have q : acc.length < sizeLine := Nat.lt_of_lt_of_le (show acc.length < 1000 by omega) (sz (by decide))
  rw [List.map_cons, List.map_cons, loopC]; simp only [gN, dTrue, if_true]; refine ⟨_, rfl, rfl, rfl, by simp [PyData.depth], _, rfl, ?_⟩
  have nx := tel_loop (m := m) (Q := Q) ts (acc ++ [t.d]) (some (.dat (.list (t.es.map fq)))) (by simp; omega) (by simpa using h)
  have el : PyData.eqv (.int ((t.es.map fq).length : Nat)) (.int 1) = !t.k := by
   unfold Thg.es
   cases t.k <;> simp [PyData.eqv] <;> decide
  by_cases hk : t.k = false
  ·have e1 : t.es = [t.x] := by unfold Thg.es; simp [hk]
   have e2 : t.d = fq t.x := by unfold Thg.d; simp [hk]
   refine ite_t (by rw [el, hk]; rfl) ⟨_, rfl, fq t.x, by rw [e1]; exact at0 _ _, _, rfl, q, ?_⟩
   rw [e2] at nx; exact nx
  ·have hk : t.k = true := by simpa using hk
   have e1 : t.es = [t.x, t.y] := by unfold Thg.es; simp [hk]
   have e2 : t.d = .tuple [fq t.x, fq t.y] := by unfold Thg.d; simp [hk]
   refine ite_f (by rw [el, hk]; rfl) ⟨_, rfl, _, rfl, q, ?_⟩
   rw [e2] at nx; rw [e1] at nx ⊢; exact nx
theorem vc_read_drawing : ∀ ds m R, ds.length = p_read_drawing.length → sp_read_drawing ds m R → b_read_drawing (EN R) (start2 N_read_drawing ds) m := by
 rintro ds m R hl ⟨ts, rfl, hw, h⟩; have h6 := hw.le
 refine ⟨_, rfl, rfl, ts, rfl, hw, fun a t m1 ha ht hat k1 q1 q2 => ⟨t, a, _, _, rfl, ht, ha, hat, q1, q2, ?_⟩⟩; have k2 : Kn m (offM (offM m1 t) a) := kn_off (kn_off k1 ht) ha
 obtain ⟨m2, e2⟩ : ∃ m2, m2 = offM (offM m1 t) a := ⟨_, rfl⟩; rw [← e2] at k2 ⊢; refine ⟨_, rfl, rfl, rfl, ?_⟩; show b_read_drawing_1 (EN R) [some (.dat (sL (linesOf ts))), some (.dat (.list (ts.map (rwD (cols ts))))), some (.dat (sL ("@" :: (cols ts).map numT))), none, none, none] m2
 refine ⟨_, rfl, _, rfl, _, rfl, rfl, ts, _, rfl, hw, fun b m3 hb k3 q3 => ⟨b, _, rfl, hb, q3, ?_⟩⟩; have k4 : Kn m (offM m3 b) := kn_off (k2.trans k3) (Kn.none k2 hb)
 obtain ⟨m4, e4⟩ : ∃ m4, m4 = offM m3 b := ⟨_, rfl⟩; rw [← e4] at k4 ⊢; show b_read_drawing_2 (EN R) [some (.dat (sL (linesOf ts))), some (.dat (.list (ts.map (rwD (cols ts))))), some (.dat (sL ("@" :: (cols ts).map numT))), some (.dat (.list ((cols ts).map fq))), none, none] m4
 refine ⟨_, rfl, _, rfl, _, rfl, ite_f (by simp [linesOf]) ?_⟩
 show b_read_drawing_3 (EN R) [some (.dat (sL (linesOf ts))), some (.dat (.list (ts.map (rwD (cols ts))))), some (.dat (sL ("@" :: (cols ts).map numT))), some (.dat (.list ((cols ts).map fq))), none, none] m4
 refine ⟨_, rfl, .inl ⟨_, rfl, ?_⟩⟩; rw [List.map_map]; refine nm_loop ts [] none none none (by simp; omega) ?_
 show b_read_drawing_4 (EN R) [some (.dat (sL (linesOf ts))), some (.dat (.list (ts.map (rwD (cols ts))))), some (.dat (sL ("@" :: (cols ts).map numT))), some (.dat (.list ((cols ts).map fq))), some (.dat (.tuple ([] ++ ts.map thD))), none] m4
 refine ⟨_, rfl, .inl ⟨_, rfl, ?_⟩⟩; rw [List.map_map]; refine fd_loop ts [] none none none (fun t ht => (cols_in hw ht).mem) (by simp; omega) ?_
 show b_read_drawing_5 (EN R) [some (.dat (sL (linesOf ts))), some (.dat (.list (ts.map (rwD (cols ts))))), some (.dat (sL ("@" :: (cols ts).map numT))), some (.dat (.list ((cols ts).map fq))), some (.dat (.tuple ([] ++ ts.map thD))), some (.dat (.list ([] ++ ts.map fun t => PyData.list (t.es.map fq))))] m4
 rw [List.nil_append, List.nil_append]; refine ⟨_, rfl, _, rfl, .inl ⟨_, rfl, ?_⟩⟩; refine tel_loop ts [] none (by simp; omega) ?_
 exact ⟨[TH ts, TEL ts], rfl, (sz (by decide) : 2 ≤ sizeLine), h m4 k4⟩
end K85
namespace K85
open PySem PySem.Spec PyProof.Rows L2 DL K01
theorem vc__law_time_text : ∀ ds m R, ds.length = p__law_time_text.length → sp__law_time_text ds m R → b__law_time_text (EN R) (start2 N__law_time_text ds) m := by
 rintro ds m R hl ⟨n, rfl, nk, h⟩; have n1 : n.1.natAbs ≤ 999999 := by have := nk.lo; have := nk.hi; omega
 have n2 : n.2.natAbs ≤ 999999 := by have := nk.pos; have := nk.le; omega
 have l1 := sI_len n1
 have l2 := sI_len n2
 have ls : (Str.ofString "/").length = 1 := by decide +kernel
 have np := nk.pos
 refine ⟨_, rfl, _, at1 _ _ _, rfl, rfl, by simp [PyData.depth], _, rfl, ?_⟩
 unfold numT at h
 by_cases c : 1 < n.2
 ·rw [if_pos c] at h; refine ite_f (by simp [PyData.eqv]; omega) ?_
  refine ⟨_, rfl, _, at0 _ _, log_n n1, sz (by rw [ls]; show (sI n.1).length + 1 ≤ 1000; omega), ?_⟩
  refine ⟨_, rfl, _, at1 _ _ _, log_n n2, sz (by rw [strLen_append, ls]; show (sI n.1).length + 1 + (sI n.2).length ≤ 1000; omega), h⟩
 ·rw [if_neg c] at h; refine ite_t (by simp [PyData.eqv]; omega) ⟨_, rfl, _, at0 _ _, log_n n1, h⟩
theorem vc__law_seen : ∀ ds m R, ds.length = p__law_seen.length → sp__law_seen ds m R → b__law_seen (EN R) (start2 N__law_seen ds) m := by
 rintro ds m R hl ⟨c, t, rfl, hi, gt, h⟩; have rl := row_len (c := c) gt hi.len
 have c12 := hi.len
 refine ⟨_, rfl, _, rfl, by omega, _, rfl, by decide +kernel, ?_⟩
 rw [split_row gt]; refine ⟨(sz (by decide) : 2 ≤ sizeLine), _, at1 _ _ _, ?_⟩
 show b__law_seen_1 (EN R) [some (.dat (.str (rowS c t))), some (.dat (.str (kd t.k))), some (.dat (.str (sgS c t)))] m
 refine ⟨_, rfl, _, rfl, ?_⟩; unfold seenT Thg.d at h; rcases sg_cases hi with ⟨hk, j, e, ej⟩ | ⟨hk, mm, j, e, ey, ej⟩
 ·obtain ⟨_, _, s3, s4⟩ := strip_p (c.idxOf t.x) (by omega) j (by omega)
  refine ite_t (by rw [kd_pt, hk]; rfl) ?_
  rw [e]; refine ⟨_, rfl, _, rfl, _, rfl, s4, ?_⟩; rw [s3]; simp only [hk] at h; exact ⟨[.int (c.idxOf t.x : Nat), .int 1], rfl, (sz (by decide) : 2 ≤ sizeLine), h⟩
 ·obtain ⟨_, _, ⟨s3, s4⟩, s5, s6⟩ := strip_s (i := c.idxOf t.x) (m := mm) (j := j) (by omega)
  refine ite_f (by rw [kd_pt, hk]; rfl) ?_
  rw [e]; refine ⟨_, rfl, _, rfl, _, rfl, s4, ?_⟩; rw [s3]; refine ⟨[.int (c.idxOf t.x : Nat), .int 1], rfl, (sz (by decide) : 2 ≤ sizeLine), _, rfl, _, rfl, _, rfl, s6, ?_⟩
  rw [s5, ← ey]; simp only [hk] at h; exact ⟨[.int (c.idxOf t.y : Nat), .int 1], rfl, (sz (by decide) : 2 ≤ sizeLine), [fq ((c.idxOf t.x : Int), 1), fq ((c.idxOf t.y : Int), 1)], rfl, (sz (by decide) : 2 ≤ sizeLine), h⟩
theorem cmp_neg (x y : Q2) : decide (cmpI x y < 0) = decide (ltQ x y) := by
 unfold cmpI ltQ
 by_cases h : x.1 * y.2 < y.1 * x.2
 ·have : ¬ x.1 * y.2 > y.1 * x.2 := by omega
  simp [h, this]
 ·simp only [h, if_false, decide_false]
  split <;> decide
theorem lcm_loop {m : Mu} {Q : List PyData → Mu → Prop} {t : Q2} (ht : NumOk t) : ∀ (c : List Q2) (acc : List PyData) (o : Option D), (∀ x ∈ c, NumOk x) → acc.length + c.length ≤ 100 → Q (acc ++ (lowQ c t).map fq) m →
  loopC (gN 0) (dTst (dBin aLt (dCall 2 sp__law_cmp (dCons (dVar 0) (dCons (dVar 1) dNil))) (dCon (.int 0)))) (dVar 0) ((c.map fq).map .dat) acc [o, some (.dat (fq t))] m Q
 | [], acc, o, _, _, h => by
  have : lowQ [] t = [] := rfl
  rw [this, List.map_nil, List.append_nil] at h; exact h
 | x :: r, acc, o, hn, hl, h => by
  simp only [List.length_cons] at hl; have q : acc.length < sizeLine := Nat.lt_of_lt_of_le (show acc.length < 1000 by omega) (sz (by decide))
  have nx := hn x List.mem_cons_self
  rw [List.map_cons, List.map_cons, loopC]; refine ⟨_, rfl, _, rfl, rfl, x, t, rfl, nx.b1.mono (by decide), nx.b2.mono (by decide), ht.b1.mono (by decide), ht.b2.mono (by decide), _, rfl, ?_⟩
  by_cases c : ltQ x t
  ·refine ite_t (by rw [cmp_neg, decide_eq_true c]) ⟨_, rfl, _, rfl, q, lcm_loop ht r _ _ (fun y hy => hn y (List.mem_cons_of_mem _ hy)) (by simp; omega) ?_⟩
   unfold lowQ at h ⊢; rw [List.filter_cons_of_pos (by simpa using c)] at h
   simpa using h
  ·refine ite_f (by rw [cmp_neg, decide_eq_false c]) (lcm_loop ht r _ _ (fun y hy => hn y (List.mem_cons_of_mem _ hy)) (by omega) ?_)
   unfold lowQ at h ⊢; rw [List.filter_cons_of_neg (by simpa using c)] at h
   exact h
theorem low_take {c : List Q2} {t : Q2} (h : ColOk c) (ht : NumOk t) : c.take (lowQ c t).length = lowQ c t :=
 (congrArg (List.take (lowQ c t).length) (low_split h ht).1).trans (List.take_left' rfl)
theorem back {m : Mu} {a : Addr} {x : Cel} (h : m a = some x) : updM (offM m a) a x = m := by
 funext b
 unfold updM offM
 by_cases e : b = a
 ·simp [e, h]
 ·simp [e]
theorem lc_inner {m0 : Mu} {a : Addr} {E : Ends2} {a0 a1 a3 a4 a5 : Option D} (h0 : m0 a = none) : ∀ (xs c : List Q2) (m : Mu) (o6 o7 : Option D), ColOk c → (∀ x ∈ xs, NumOk x) → c.length + xs.length ≤ 13 → Kn m0 m → m a = some (.l (c.map fq)) →
  (∀ m' o6 o7, Kn m0 m' → m' a = some (.l ((xs.foldl insQ c).map fq)) → E.nx [a0, a1, some (.cel a), a3, a4, a5, o6, o7] m') →
  loopL (gN 6) b__law_columns_L1 E (xs.map fun x => .dat (fq x)) [a0, a1, some (.cel a), a3, a4, a5, o6, o7] m
 | [], c, m, o6, o7, _, _, _, k, hm, h => h m o6 o7 k hm
 | x :: xs, c, m, o6, o7, hc, hx, hl, k, hm, h => by
  simp only [List.length_cons] at hl; have nx := hx x List.mem_cons_self
  have il := ins_len hc nx
  have ll : (lowQ c x).length ≤ c.length := List.length_filter_le _ _
  rw [List.map_cons, loopL]; refine ⟨a, c.map fq, rfl, hm, ?_, ?_⟩
  ·show ∀ y ∈ [none, some (D.dat (fq x))], y ≠ some (.cel a)
   simp
  ·refine lcm_loop nx c [] none hc.num (by simp; omega) ?_
   show b__law_columns_L1_1 _ [a0, a1, some (.cel a), a3, a4, a5, some (.dat (fq x)), some (I (([] ++ (lowQ c x).map fq).length : Nat))] (updM (offM m a) a (.l (c.map fq)))
   rw [back hm, show (([] : List PyData) ++ (lowQ c x).map fq).length = (lowQ c x).length by simp]
   have low := low_take hc nx
   have go : ∀ m' c', Kn m0 m' → m' a = some (.l (c'.map fq)) → c' = insQ c x → ∀ o6 o7, loopL (gN 6) b__law_columns_L1 E (xs.map fun x => .dat (fq x)) [a0, a1, some (.cel a), a3, a4, a5, o6, o7] m' := fun m' c' k' hm' e o6 o7 => by
    subst e; exact lc_inner h0 xs (insQ c x) m' o6 o7 (ins_ok hc nx) (fun y hy => hx y (List.mem_cons_of_mem _ hy)) (by omega) k' hm' h
   have ins : x ∉ c → dSeq (dExpr (dIns (dVar 2) (dVar 7) (dVar 6))) dNext { nx := dNext { nx := loopL (gN 6) b__law_columns_L1 E (xs.map fun x => .dat (fq x)), rt := E.rt, bk := E.nx, ct := loopL (gN 6) b__law_columns_L1 E (xs.map fun x => .dat (fq x)) }, rt := E.rt, bk := E.nx, ct := loopL (gN 6) b__law_columns_L1 E (xs.map fun x => .dat (fq x)) } [a0, a1, some (.cel a), a3, a4, a5, some (.dat (fq x)), some (I ((lowQ c x).length : Nat))] m := fun nin => by
    refine ⟨_, rfl, a, rfl, ⟨_, hm⟩, _, rfl, _, rfl, _, (lowQ c x).length, _, rfl, rfl, hm, by simpa using ll, by simp; omega, ?_⟩
    refine go _ (insQ c x) (k.upd h0) ?_ rfl _ _; rw [updM_same]; unfold insQ; rw [if_neg nin, List.map_append, List.map_cons, ← List.map_take, low, ← List.map_drop]
   refine ⟨_, rfl, _, rfl, _, hm, rfl, rfl, by simp [PyData.depth], _, rfl, ?_⟩
   by_cases q : (lowQ c x).length = c.length
   ·refine ite_t (by simp [PyData.eqv, q]) (ite_t rfl (ins fun z => ?_))
    have := (ins_law hc nx).mp z
    rw [q] at this; simp at this
   ·refine ite_f (by simp [PyData.eqv]; omega) ?_
    have hlt : (lowQ c x).length < c.length := by omega
    refine ⟨_, rfl, _, rfl, _, fq c[(lowQ c x).length], hm, atI_nat (by rw [List.getElem?_map, List.getElem?_eq_getElem hlt]; rfl), ?_⟩
    refine ⟨_, rfl, by simp [PyData.canLay0, PyData.canLayAll0], by simp [PyData.canLay0, PyData.canLayAll0], by simp [PyData.depth, PyData.depthAll], _, rfl, ?_⟩
    rw [eqv_fq]
    by_cases z : x ∈ c
    ·have := (ins_law hc nx).mp z
     rw [List.getElem?_eq_getElem hlt] at this; have e : c[(lowQ c x).length] = x := Option.some.inj this
     refine ite_f (by rw [e]; simp) (go m c k hm (by unfold insQ; rw [if_pos z]) _ _)
    ·refine ite_t ?_ (ins z); have : c[(lowQ c x).length] ≠ x := fun e => z (e ▸ List.getElem_mem hlt)
     simp [this]
end K85
namespace K85
open PySem PySem.Spec PyProof.Rows L2 DL K01
theorem kd_str (k : Bool) : decide (kd k = Str.ofString "stretch") = k := by cases k <;> decide +kernel
theorem lc_outer {m0 : Mu} {a : Addr} {E : Ends2} {a0 a1 : Option D} (h0 : m0 a = none) : ∀ (ts : List Thg) (c : List Q2) (m : Mu) (o3 o4 o5 o6 o7 : Option D), ColOk c → (∀ t ∈ ts, TOk t) → c.length + 2 * ts.length ≤ 13 → Kn m0 m → m a = some (.l (c.map fq)) →
  (∀ m' o3 o4 o5 o6 o7, Kn m0 m' → m' a = some (.l ((ts.foldl (fun c t => t.es.foldl insQ c) c).map fq)) → E.nx [a0, a1, some (.cel a), o3, o4, o5, o6, o7] m') →
  loopL (gT 2 (gNs (gT 2 (gNs (gN 3) (gNs (gN 4) gN0))) (gNs (gN 5) gN0))) b__law_columns_L0 E (ts.map fun t => .dat (.tuple [thD t, t.d])) [a0, a1, some (.cel a), o3, o4, o5, o6, o7] m
 | [], c, m, o3, o4, o5, o6, o7, _, _, _, k, hm, h => h m o3 o4 o5 o6 o7 k hm
 | t :: ts, c, m, o3, o4, o5, o6, o7, hc, ht, hl, k, hm, h => by
  simp only [List.length_cons] at hl; have ok := ht t List.mem_cons_self
  obtain ⟨f1, f2, _⟩ := fold_ok t.es c hc (es_num ok); have f3 := es_len t
  rw [List.map_cons, loopL]; refine ⟨_, rfl, rfl, _, rfl, rfl, rfl, rfl, ?_⟩; show b__law_columns_L0 _ [a0, a1, some (.cel a), some (.dat (.str t.nm)), some (.dat (.str (kd t.k))), some (.dat t.d), o6, o7] m
  have key : ∀ xs, t.es = xs → ∀ E', E'.nx = dNext { nx := loopL (gT 2 (gNs (gT 2 (gNs (gN 3) (gNs (gN 4) gN0))) (gNs (gN 5) gN0))) b__law_columns_L0 E (ts.map fun t => .dat (.tuple [thD t, t.d])), rt := E.rt, bk := E.nx, ct := loopL (gT 2 (gNs (gT 2 (gNs (gN 3) (gNs (gN 4) gN0))) (gNs (gN 5) gN0))) b__law_columns_L0 E (ts.map fun t => .dat (.tuple [thD t, t.d])) } → loopL (gN 6) b__law_columns_L1 E' (xs.map fun x => .dat (fq x)) [a0, a1, some (.cel a), some (.dat (.str t.nm)), some (.dat (.str (kd t.k))), some (.dat t.d), o6, o7] m := by
   rintro xs rfl E' eE; refine lc_inner h0 t.es c m _ _ hc (es_num ok) (by omega) k hm fun m' o6 o7 k' hm' => ?_
   rw [eE]; exact lc_outer h0 ts _ m' _ _ _ _ _ f1 (fun u hu => ht u (List.mem_cons_of_mem _ hu)) (by omega) k' hm' h
  by_cases hk : t.k = false
  ·have e1 : t.es = [t.x] := by unfold Thg.es; simp [hk]
   have e2 : t.d = fq t.x := by unfold Thg.d; simp [hk]
   have kk := key _ e1
   rw [e2] at kk ⊢; refine ⟨_, rfl, [fq t.x], rfl, (sz (by decide) : 1 ≤ sizeLine), _, rfl, [.list [fq t.x], .list [.int t.x.1, .int t.x.2]], rfl, (sz (by decide) : 2 ≤ sizeLine), _, rfl, ?_⟩
   refine ⟨.list [fq t.x], by rw [kd_str, hk]; exact at0 _ _, .inl ⟨_, rfl, ?_⟩⟩
   exact kk _ rfl
  ·have hk : t.k = true := by simpa using hk
   have e1 : t.es = [t.x, t.y] := by unfold Thg.es; simp [hk]
   have e2 : t.d = .tuple [fq t.x, fq t.y] := by unfold Thg.d; simp [hk]
   have kk := key _ e1
   rw [e2] at kk ⊢; refine ⟨_, rfl, [.tuple [fq t.x, fq t.y]], rfl, (sz (by decide) : 1 ≤ sizeLine), _, rfl, [.list [.tuple [fq t.x, fq t.y]], .list [fq t.x, fq t.y]], rfl, (sz (by decide) : 2 ≤ sizeLine), _, rfl, ?_⟩
   refine ⟨.list [fq t.x, fq t.y], by rw [kd_str, hk]; exact at1 _ _ _, .inl ⟨_, rfl, ?_⟩⟩
   exact kk _ rfl
theorem vc__law_columns : ∀ ds m R, ds.length = p__law_columns.length → sp__law_columns ds m R → b__law_columns (EN R) (start2 N__law_columns ds) m := by
 rintro ds m R hl ⟨ts, rfl, hw, h⟩; have := hw.le
 refine ⟨[], rfl, sz (by decide), fun a ha => ?_⟩
 show b__law_columns_1 (EN R) [some (.dat (TH ts)), some (.dat (TEL ts)), some (.cel a), none, none, none, none, none] (updM m a (.l []))
 refine ⟨_, rfl, _, rfl, _, _, rfl, rfl, ?_⟩; rw [zipT, List.map_map]; exact lc_outer ha ts [] _ _ _ _ _ _ nil_ok hw.ok (by simp; omega) (Kn.new ha) updM_same fun m' _ _ _ _ _ k' hm' => ⟨_, rfl, h a m' ha k' hm'⟩
theorem tm_of {t : Thg} (h : TOk t) : Tm t.k t.d := by
 unfold Thg.d
 by_cases hk : t.k = false
 ·exact .inl ⟨hk, by simp [hk]; exact h.nx.fr⟩
 ·have hk : t.k = true := by simpa using hk
  exact .inr ⟨hk, fq t.x, fq t.y, by simp [hk], h.nx.fr, h.ny.fr⟩
theorem pr_of {t : Thg} (h : TOk t) : prF t.k t.d = .tuple [fq t.x, fq t.y] := by
 unfold prF Thg.d
 by_cases hk : t.k = false
 ·simp [hk, h.pt hk]
 ·have hk : t.k = true := by simpa using hk
  simp [hk]
theorem snoc (l : List Nat) (k : Nat) : ofL l ++ (⟨#[k]⟩ : Str) = ofL (l ++ [k]) := TX.ext (by simp [Str.cps_append])
theorem lay1 (x : Q2) : (fq x).canLay0 = true ∧ (fq x).depth ≤ 100 := ⟨by simp [PyData.canLay0, PyData.canLayAll0], by simp [PyData.depth, PyData.depthAll]⟩
theorem sg_loop {m : Mu} {E : Ends2} {t : Thg} (ok : TOk t) {a0 a1 a2 a3 a4 : Option D} : ∀ (cs : List Q2) (acc : List Nat) (o : Option D), (∀ x ∈ cs, NumOk x) → acc.length + cs.length ≤ 100 →
  (∀ o, E.nx [a0, a1, a2, a3, a4, some (.dat (.str (kd t.k))), some (.dat t.d), some (.dat (fq t.x)), some (.dat (fq t.y)), some (.dat (.str (ofL (acc ++ cs.map (sgc t))))), o] m) →
  loopL (gN 10) b__law_drawn_L1 E ((cs.map fq).map .dat) [a0, a1, a2, a3, a4, some (.dat (.str (kd t.k))), some (.dat t.d), some (.dat (fq t.x)), some (.dat (fq t.y)), some (.dat (.str (ofL acc))), o] m
 | [], acc, o, _, _, h => by
  have := h o
  rw [List.map_nil, List.append_nil] at this; exact this
 | x :: cs, acc, o, hn, hl, h => by
  simp only [List.length_cons] at hl; have nx := hn x List.mem_cons_self
  rw [List.map_cons, List.map_cons, loopL]; have go : ∀ (k : Nat), sgc t x = k → loopL (gN 10) b__law_drawn_L1 E ((cs.map fq).map .dat) [a0, a1, a2, a3, a4, some (.dat (.str (kd t.k))), some (.dat t.d), some (.dat (fq t.x)), some (.dat (fq t.y)), some (.dat (.str (ofL acc ++ (⟨#[k]⟩ : Str)))), some (.dat (fq x))] m := by
   rintro k rfl; rw [snoc]; refine sg_loop ok cs _ _ (fun y hy => hn y (List.mem_cons_of_mem _ hy)) (by simp; omega) fun o => ?_
   have := h o
   rw [List.map_cons] at this; simpa using this
  have al : ∀ k : Nat, (ofL acc).length + (⟨#[k]⟩ : Str).length ≤ sizeLine := fun k => sz (by rw [len_ofL]; show acc.length + 1 ≤ 1000; omega)
  refine ⟨_, rfl, _, rfl, ?_⟩
  by_cases hk : t.k = false
  ·refine ite_t (by rw [kd_pt, hk]; rfl) ?_
   have ed : t.d = fq t.x := by unfold Thg.d; simp [hk]
   refine ⟨_, rfl, _, rfl, ?_⟩; rw [ed] at go ⊢; refine ⟨_, rfl, (lay1 x).1, (lay1 t.x).1, (lay1 x).2, _, rfl, ?_⟩; rw [eqv_fq]
   by_cases c : x = t.x
   ·refine ite_t (decide_eq_true c) ?_; rw [oS]; exact ⟨al 111, go 111 (by unfold sgc; simp [hk, c])⟩
   ·refine ite_f (decide_eq_false c) ?_; rw [dotS]; exact ⟨al 46, go 46 (by unfold sgc; simp [hk, c])⟩
  ·have hk : t.k = true := by simpa using hk
   refine ite_f (by rw [kd_pt, hk]; rfl) ?_
   refine ⟨_, rfl, _, rfl, (lay1 x).1, (lay1 t.x).1, (lay1 x).2, _, rfl, ?_⟩; rw [eqv_fq]
   by_cases c : x = t.x
   ·refine ite_t (decide_eq_true c) (ite_t rfl ?_); refine ⟨_, rfl, _, rfl, _, rfl, (lay1 x).1, (lay1 t.x).1, (lay1 x).2, _, rfl, ?_⟩; rw [eqv_fq]; refine ite_t (decide_eq_true c) ?_; rw [lbS]; exact ⟨al 91, go 91 (by unfold sgc; simp [hk, c])⟩
   ·refine ite_f (decide_eq_false c) ?_; refine ⟨_, rfl, _, rfl, (lay1 x).1, (lay1 t.y).1, (lay1 x).2, _, rfl, ?_⟩; rw [eqv_fq]
    by_cases c2 : x = t.y
    ·refine ite_t (decide_eq_true c2) ?_; refine ⟨_, rfl, _, rfl, _, rfl, (lay1 x).1, (lay1 t.x).1, (lay1 x).2, _, rfl, ?_⟩; rw [eqv_fq]; refine ite_f (decide_eq_false c) ?_; rw [rbS]; exact ⟨al 93, go 93 (by unfold sgc; simp [hk, c, c2]; intro q; exact absurd q (by rw [← c2]; exact c))⟩
    ·refine ite_f (decide_eq_false c2) ?_; refine ⟨_, rfl, _, rfl, _, rfl, rfl, t.x, x, rfl, ok.nx.b1.mono (by decide), ok.nx.b2.mono (by decide), nx.b1.mono (by decide), nx.b2.mono (by decide), _, rfl, ?_⟩
     have dotted : ∀ (q : ¬ (ltQ t.x x ∧ ltQ x t.y)), aAdd (.dat (.str (ofL acc))) (.dat (.str (Str.ofString "."))) m fun v m' => loopL (gN 10) b__law_drawn_L1 E ((cs.map fq).map .dat) [a0, a1, a2, a3, a4, some (.dat (.str (kd t.k))), some (.dat t.d), some (.dat (fq t.x)), some (.dat (fq t.y)), some v, some (.dat (fq x))] m' := fun q => by
      rw [dotS]; exact ⟨al 46, go 46 (by unfold sgc; simp only [hk, c, c2, q, if_false, if_true])⟩
     by_cases l1 : ltQ t.x x
     ·refine ite_t (by rw [cmp_neg, decide_eq_true l1]) ?_
      refine ⟨_, rfl, _, rfl, rfl, x, t.y, rfl, nx.b1.mono (by decide), nx.b2.mono (by decide), ok.ny.b1.mono (by decide), ok.ny.b2.mono (by decide), _, rfl, ?_⟩
      by_cases l2 : ltQ x t.y
      ·refine ite_t (by rw [cmp_neg, decide_eq_true l2]) ?_
       rw [eqS1]; exact ⟨al 61, go 61 (by unfold sgc; simp only [hk, c, c2, l1, l2, if_false, if_true, and_self])⟩
      ·refine ite_f (by rw [cmp_neg, decide_eq_false l2]) (dotted fun q => l2 q.2)
     ·refine ite_f (by rw [cmp_neg, decide_eq_false l1]) (ite_f rfl (dotted fun q => l1 q.1))
end K85
namespace K85
open PySem PySem.Spec PyProof.Rows L2 DL K01
theorem dl_loop {m0 : Mu} {b : Addr} {E : Ends2} {c : List Q2} {a0 a1 : Option D} (h0 : m0 b = none) (hc : ∀ x ∈ c, NumOk x) (c12 : c.length ≤ 12) : ∀ (ts : List Thg) (done : List PyData) (m : Mu) (o4 o5 o6 o7 o8 o9 o10 : Option D), (∀ t ∈ ts, TOk t ∧ good t.nm) → done.length + ts.length ≤ 100 → Kn m0 m → m b = some (.l done) →
  (∀ m' o4 o5 o6 o7 o8 o9 o10, Kn m0 m' → m' b = some (.l (done ++ ts.map fun t => .str (rowS c t))) → E.nx [a0, a1, some (.dat (.list (c.map fq))), some (.cel b), o4, o5, o6, o7, o8, o9, o10] m') →
  loopL (gT 2 (gNs (gT 2 (gNs (gN 4) (gNs (gN 5) gN0))) (gNs (gN 6) gN0))) b__law_drawn_L0 E (ts.map fun t => .dat (.tuple [thD t, t.d])) [a0, a1, some (.dat (.list (c.map fq))), some (.cel b), o4, o5, o6, o7, o8, o9, o10] m
 | [], done, m, o4, o5, o6, o7, o8, o9, o10, _, _, k, hm, h => h m o4 o5 o6 o7 o8 o9 o10 k (by rw [List.map_nil, List.append_nil]; exact hm)
 | t :: ts, done, m, o4, o5, o6, o7, o8, o9, o10, ht, hl, k, hm, h => by
  simp only [List.length_cons] at hl; obtain ⟨ok, gt⟩ := ht t List.mem_cons_self; have g8 := gt.2.2
  have sl := sg_len c t
  rw [List.map_cons, loopL]; refine ⟨_, rfl, rfl, _, rfl, rfl, rfl, rfl, ?_⟩; show b__law_drawn_L0 _ [a0, a1, some (.dat (.list (c.map fq))), some (.cel b), some (.dat (.str t.nm)), some (.dat (.str (kd t.k))), some (.dat t.d), o7, o8, o9, o10] m
  refine ⟨_, rfl, _, rfl, rfl, t.k, t.d, rfl, tm_of ok, ?_⟩; rw [pr_of ok]; refine ⟨_, rfl, rfl, rfl, ?_⟩; show b__law_drawn_L0_2 _ [a0, a1, some (.dat (.list (c.map fq))), some (.cel b), some (.dat (.str t.nm)), some (.dat (.str (kd t.k))), some (.dat t.d), some (.dat (fq t.x)), some (.dat (fq t.y)), some (.dat (.str (Str.ofString ""))), o10] m
  rw [show Str.ofString "" = ofL [] from by decide +kernel]
  refine ⟨_, rfl, .inl ⟨_, rfl, ?_⟩⟩; refine sg_loop ok c [] _ hc (by simp; omega) fun o => ?_
  rw [List.nil_append]; show b__law_drawn_L0_3 _ [a0, a1, some (.dat (.list (c.map fq))), some (.cel b), some (.dat (.str t.nm)), some (.dat (.str (kd t.k))), some (.dat t.d), some (.dat (fq t.x)), some (.dat (fq t.y)), some (.dat (.str (sgS c t))), o] m
  refine ⟨_, rfl, b, rfl, ⟨_, hm⟩, _, rfl, sz (by rw [l_s]; omega), ?_⟩
  refine ⟨_, rfl, sz (by rw [strLen_append, l_s]; omega), _, _, rfl, hm, Nat.lt_of_lt_of_le (show done.length < 1000 by omega) (sz (by decide)), ?_⟩
  refine dl_loop h0 hc c12 ts (done ++ [.str (rowS c t)]) _ _ _ _ _ _ _ _ (fun u hu => ht u (List.mem_cons_of_mem _ hu)) (by simp; omega) (k.upd h0) ?_ fun m' p4 p5 p6 p7 p8 p9 p10 k' hm' => h m' p4 p5 p6 p7 p8 p9 p10 k' (by rw [hm', List.map_cons]; simp)
  rw [updM_same, show rowS c t = t.nm ++ Str.ofString " " ++ sgS c t from join2 _ _]
theorem last_eq {c : List Q2} (h : c ≠ []) : Str.ofString "@ " ++ Txt.join (Str.ofString " ") (c.map numT) = lastS c := by
 have e1 : lastS c = Str.join (Str.ofString " ") (Str.ofString "@" :: c.map numT) := StrLaws.glued_eq_join _ _
 have e2 : Txt.join (Str.ofString " ") (c.map numT) = Str.join (Str.ofString " ") (c.map numT) := StrLaws.glued_eq_join _ _
 rw [e1, e2]
 cases c with
 | nil => exact absurd rfl h
 | cons x r =>
  have : Str.ofString "@ " = Str.ofString "@" ++ Str.ofString " " := by decide +kernel
  rw [this]; rfl
theorem vc__law_drawn : ∀ ds m R, ds.length = p__law_drawn.length → sp__law_drawn ds m R → b__law_drawn (EN R) (start2 N__law_drawn ds) m := by
 rintro ds m R hl ⟨ts, rfl, hw, h⟩; have h6 := hw.le
 have c12 := cols_len hw
 have cok := cols_ok hw
 refine ⟨_, rfl, _, rfl, rfl, ts, rfl, hw, fun a m1 ha k1 q1 => ⟨a, _, rfl, ha, q1, ?_⟩⟩; have k2 : Kn m (offM m1 a) := kn_off k1 ha
 obtain ⟨m2, e2⟩ : ∃ m2, m2 = offM m1 a := ⟨_, rfl⟩; rw [← e2] at k2 ⊢; show b__law_drawn_1 (EN R) [some (.dat (TH ts)), some (.dat (TEL ts)), some (.dat (.list ((cols ts).map fq))), none, none, none, none, none, none, none, none] m2
 refine ⟨[], rfl, sz (by decide), fun b hb => ?_⟩
 show b__law_drawn_2 (EN R) [some (.dat (TH ts)), some (.dat (TEL ts)), some (.dat (.list ((cols ts).map fq))), some (.cel b), none, none, none, none, none, none, none] (updM m2 b (.l []))
 refine ⟨_, rfl, _, rfl, _, _, rfl, rfl, ?_⟩; rw [zipT, List.map_map]; have hb0 := Kn.none k2 hb
 refine dl_loop (m0 := m) hb0 cok.num c12 ts [] _ _ _ _ _ _ _ _ (fun t ht => ⟨hw.ok t ht, hw.gd t ht⟩) (by simp; omega) (k2.upd hb0) updM_same fun m' o4 o5 o6 o7 o8 o9 o10 k' hm' => ?_
 show b__law_drawn_3 (EN R) [some (.dat (TH ts)), some (.dat (TEL ts)), some (.dat (.list ((cols ts).map fq))), some (.cel b), o4, o5, o6, o7, o8, o9, o10] m'
 refine ⟨_, rfl, _, rfl, .inl ⟨_, rfl, ?_⟩⟩; rw [List.map_map]; refine num_loop (cols ts) [] none cok.num (by simp; omega) ?_
 have ll := last_len cok.num c12
 have su := sum_nums cok.num
 refine ⟨(cols ts).map numT, by simp [Function.comp_def], by rw [l_s]; decide, by simp only [List.length_map]; omega, ?_⟩
 refine ⟨by rw [← strLen_append, last_eq (cols_ne hw)]; exact sz ll, [.str (lastS (cols ts))], by rw [← last_eq (cols_ne hw)]; rfl, (sz (by decide) : 1 ≤ sizeLine), _, hm', by simp; exact sz (by omega), ?_⟩
 have := h m' k'
 unfold linesOf sL at this; simpa [Function.comp_def] using this
end K85
namespace K85
open PySem PySem.Spec PyProof.Rows L2 DL K01
theorem num_of {t b : Int} (hb : 0 < b) : ∃ n : Int × Int, fr t b = fq n ∧ 0 < n.2 ∧ Int.gcd n.1 n.2 = 1 ∧ n.1.natAbs ≤ t.natAbs ∧ n.2 ≤ b := by
 have g0 := gcd_pos (t := t) (b := b) (by omega)
 have d1 : ((t.gcd b : Nat) : Int) ∣ t := Int.gcd_dvd_left ..
 have d2 : ((t.gcd b : Nat) : Int) ∣ b := Int.gcd_dvd_right ..
 refine ⟨(t / (t.gcd b : Nat), b / (t.gcd b : Nat)), rfl, (div_pos g0 d2).mpr hb, ?_, ?_, ?_⟩
 ·have := Int.gcd_ediv_gcd_ediv_gcd (i := t) (j := b) (by omega)
  exact this
 ·exact Int.natAbs_ediv_le_natAbs _ _
 ·exact Int.ediv_le_self _ (by omega)
def MN : List (List Str) := [["a", "ab", "b", "point", "zz", "zzzzzzzz"], ["begin", "end", "gap", "may", "o", "strict"]]
theorem mn_ok : ∀ zs ∈ MN, zs.length = 6 ∧ (∀ z ∈ zs, good z) ∧ up zs := by unfold good up; decide +kernel
theorem cut_sub {α : Type} (xs : List α) (lo hi : Option Int) : (cutP xs lo hi).Sublist xs := (List.take_sublist _ _).trans (List.drop_sublist _ _)
theorem cut_map {α β : Type} (g : α → β) (xs : List α) (lo hi : Option Int) : cutP (xs.map g) lo hi = (cutP xs lo hi).map g := by
 unfold cutP; rw [List.length_map, ← List.map_drop, ← List.map_take]
abbrev th0 (t : Str × Bool) : PyData := .tuple [.str t.1, .str (kd t.2)]
theorem st_loop {a : Addr} {L : Int} {m0 : Mu} {Q : List PyData → Mu → Prop} (hL : L ≤ 1000000) : ∀ (zs : List Str) (acc : List PyData) (b : Int) (o : Option D) (m : Mu), b + zs.length ≤ 1000 → acc.length + zs.length ≤ 100 → Fed b L m0 m a →
  (∀ (ts : List (Str × Bool)) m', ts.map (·.1) = zs → Fed (b + zs.length) L m0 m' a → Q (acc ++ ts.map th0) m') →
  loopC (gN 0) dTrue (dTup (dCons (dVar 0) (dCons (dBin aIx (dLst (dCons (dCon (.str "stretch")) (dCons (dCon (.str "point")) dNil))) (dBin aDiv (dCall 2 sp__law_draw (dCons (dVar 1) (dCons (dCon (.int 5)) dNil))) (dCon (.int 3)))) dNil))) ((zs.map PyData.str).map .dat) acc [o, some (.cel a)] m Q
 | [], acc, b, o, m, _, _, hf, h => by
  have := h [] m rfl (by simpa using hf)
  rw [List.map_nil, List.append_nil] at this; exact this
 | z :: zs, acc, b, o, m, hb, hl, hf, h => by
  simp only [List.length_cons] at hl hb; have q : acc.length < sizeLine := Nat.lt_of_lt_of_le (show acc.length < 1000 by omega) (sz (by decide))
  rw [List.map_cons, List.map_cons, loopC]; simp only [gN, dTrue, if_true]; refine ⟨_, rfl, [.str "stretch", .str "point"], rfl, (sz (by decide) : 2 ≤ sizeLine), _, rfl, rfl, ?_⟩
  refine draw_use (by decide) (by decide) (by omega) (by omega) hf fun r m1 r0 r5 hf1 => ⟨by decide, by decide, ?_⟩
  have : ∃ k, atI [PyData.str "stretch", .str "point"] (r.fdiv 3) = some (.str (kd k)) := by
   have hr : r = 0 ∨ r = 1 ∨ r = 2 ∨ r = 3 ∨ r = 4 := by omega
   rcases hr with rfl | rfl | rfl | rfl | rfl
   ·exact ⟨true, at0 _ _⟩
   ·exact ⟨true, at0 _ _⟩
   ·exact ⟨true, at0 _ _⟩
   ·exact ⟨false, at1 _ _ _⟩
   ·exact ⟨false, at1 _ _ _⟩
  obtain ⟨k, hk⟩ := this; refine ⟨_, hk, [.str z, .str (kd k)], rfl, (sz (by decide) : 2 ≤ sizeLine), _, rfl, q, ?_⟩
  refine st_loop hL zs _ (b + 1) _ m1 (by omega) (by simp; omega) hf1 fun ts m' e hf' => ?_
  have := h ((z, k) :: ts) m' (by rw [List.map_cons, e]) (by simpa [Int.add_assoc, Int.add_comm 1] using hf')
  simpa using this
theorem vc__law_six_things : ∀ ds m R, ds.length = p__law_six_things.length → sp__law_six_things ds m R → b__law_six_things (EN R) (start2 N__law_six_things ds) m := by
 rintro ds m R hl ⟨a, L, rfl, hL, tp, h⟩; refine ⟨(["a", "ab", "b", "point", "zz", "zzzzzzzz"] : List Str).map PyData.str, rfl, (sz (by decide) : 6 ≤ sizeLine), (["begin", "end", "gap", "may", "o", "strict"] : List Str).map PyData.str, rfl, (sz (by decide) : 6 ≤ sizeLine), MN.map fun zs => .list (zs.map .str), rfl, (sz (by decide) : 2 ≤ sizeLine), ?_⟩
 show b__law_six_things_1 (EN R) [some (.cel a), some (.dat (.list (MN.map fun zs => .list (zs.map .str)))), none, none, none] m
 refine ⟨_, rfl, _, rfl, rfl, ?_⟩; refine draw_use (by decide) (by decide) (by omega) (by decide) (Fed.refl tp) fun r m1 r0 r2 f1 => ?_
 obtain ⟨zs, hz, ez⟩ : ∃ zs ∈ MN, atI (MN.map fun zs => PyData.list (zs.map .str)) r = some (.list (zs.map .str)) := by
  have hr : r = 0 ∨ r = 1 := by omega
  rcases hr with rfl | rfl
  ·exact ⟨_, List.mem_cons_self, at0 _ _⟩
  ·exact ⟨_, List.mem_cons_of_mem _ List.mem_cons_self, at1 _ _ _⟩
 obtain ⟨l6, gd, hu⟩ := mn_ok zs hz; refine ⟨_, ez, ?_⟩; show b__law_six_things_2 (EN R) [some (.cel a), some (.dat (.list (MN.map fun zs => .list (zs.map .str)))), some (.dat (.list (zs.map .str))), none, none] m1
 refine ⟨_, rfl, rfl, ?_⟩; refine draw_use (by decide) (by decide) (by omega) (by omega) f1 fun r3 m3 r30 r36 f3 => ?_
 show b__law_six_things_3 (EN R) [some (.cel a), some (.dat (.list (MN.map fun zs => .list (zs.map .str)))), some (.dat (.list (zs.map .str))), some (I (1 + r3)), none] m3
 refine ⟨_, rfl, _, rfl, rfl, ?_⟩; refine draw_use (by omega) (by omega) (by omega) (by omega) f3 fun r4 m4 r40 r46 f4 => ?_
 show b__law_six_things_4 (EN R) [some (.cel a), some (.dat (.list (MN.map fun zs => .list (zs.map .str)))), some (.dat (.list (zs.map .str))), some (I (1 + r3)), some (I r4)] m4
 refine ⟨_, rfl, _, rfl, _, rfl, _, rfl, _, rfl, _, rfl, .inr (.inl ⟨_, rfl, .inl ⟨_, rfl, ?_⟩⟩)⟩; rw [cut_map]; have sub := cut_sub zs (some r4) (some (r4 + (1 + r3)))
 have cl : (cutP zs (some r4) (some (r4 + (1 + r3)))).length = (1 + r3).toNat := by
  obtain ⟨f, rfl⟩ : ∃ f : Nat, r4 = f := ⟨r4.toNat, by omega⟩
  obtain ⟨g, rfl⟩ : ∃ g : Nat, r3 = g := ⟨r3.toNat, by omega⟩
  have q1 : ¬ ((f : Int) < 0) := by omega
  have q2 : ¬ ((f : Int) + (1 + (g : Int)) < 0) := by omega
  unfold cutP HT.sIx; simp [l6, q1, q2]; omega
 have cl6 : (cutP zs (some r4) (some (r4 + (1 + r3)))).length ≤ 6 := by rw [cl]; omega
 refine st_loop (by omega) _ [] _ none m4 (by omega) (by simp; omega) f4 fun ts m' e hf => ?_
 rw [List.nil_append]; have el : ts.length = (1 + r3).toNat := by have := congrArg List.length e; rw [List.length_map, cl] at this; exact this
 refine h ts m' (by omega) (by omega) (fun t ht => gd t.1 (sub.subset (e ▸ List.mem_map.mpr ⟨t, ht, rfl⟩))) (by rw [e]; exact List.Pairwise.sublist sub hu) (hf.mono (by omega))
theorem fr_lt {t u b : Int} (hb : 0 < b) (h : t < u) : ∀ n k : Q2, fr t b = fq n → fr u b = fq k → ltQ n k := by
 intro n k e1 e2; unfold fr at e1 e2; have g1 := gcd_pos (t := t) (b := b) (by omega)
 have g2 := gcd_pos (t := u) (b := b) (by omega)
 have d1 : ((t.gcd b : Nat) : Int) ∣ t := Int.gcd_dvd_left ..
 have d2 : ((t.gcd b : Nat) : Int) ∣ b := Int.gcd_dvd_right ..
 have d3 : ((u.gcd b : Nat) : Int) ∣ u := Int.gcd_dvd_left ..
 have d4 : ((u.gcd b : Nat) : Int) ∣ b := Int.gcd_dvd_right ..
 have m1 := Int.mul_ediv_cancel' d1
 have m2 := Int.mul_ediv_cancel' d2
 have m3 := Int.mul_ediv_cancel' d3
 have m4 := Int.mul_ediv_cancel' d4
 injection e1 with e1
 injection e2 with e2
 injection e1 with a1 r1
 injection r1 with a2 _
 injection e2 with a3 r2
 injection r2 with a4 _
 injection a1 with a1
 injection a2 with a2
 injection a3 with a3
 injection a4 with a4
 rw [a1] at m1; rw [a2] at m2; rw [a3] at m3; rw [a4] at m4
 generalize ((t.gcd b : Nat) : Int) = g at *
 generalize ((u.gcd b : Nat) : Int) = k' at *
 unfold ltQ; refine Int.lt_of_mul_lt_mul_left (a := g * k') ?_ (Int.le_of_lt (Int.mul_pos g1 g2)); have q : t * b < u * b := Int.mul_lt_mul_of_pos_right h hb
 have e5 : g * k' * (n.1 * k.2) = t * b := by
  conv => rhs; rw [← m1, ← m4]
  rw [Int.mul_assoc, Int.mul_assoc, Int.mul_left_comm k']
 have e6 : g * k' * (k.1 * n.2) = u * b := by
  conv => rhs; rw [← m3, ← m2]
  rw [Int.mul_assoc, Int.mul_left_comm g, Int.mul_assoc, Int.mul_left_comm g k.1]
 rw [e5, e6]; exact q
end K85
namespace K85
open PySem PySem.Spec PyProof.Rows L2 DL K01
theorem num_fr {t b : Int} (h1 : 1 ≤ b) (h2 : b ≤ 999999) (h3 : -999999 ≤ t) (h4 : t ≤ 999999) : ∃ n, fr t b = fq n ∧ NumOk n := by
 obtain ⟨n, e, p, g, q1, q2⟩ := num_of (t := t) (b := b) (by omega)
 exact ⟨n, e, by omega, by omega, by omega, by omega, g⟩
theorem frac_use {t b : Int} {m : Mu} {R : DK} (h1 : 1 ≤ b) (h2 : b ≤ 999999) (h : R (.dat (fr t b)) m) : sp__law_frac [I t, I b] m R := by
 refine ⟨t, b, rfl, by omega, ?_, h⟩
 refine Bd.mono (m := 20) ?_ (by decide)
 unfold Bd; have e : (2 : Nat) ^ 20 = 1048576 := by decide
 omega
theorem at5 {r : Int} (h0 : 0 ≤ r) (h : r < 5) : ∃ v : Int, atI [PyData.int 1, .int 1, .int 2, .int 3, .int 999999] r = some (.int v) ∧ 1 ≤ v ∧ v ≤ 999999 := by
 have hr : r = 0 ∨ r = 1 ∨ r = 2 ∨ r = 3 ∨ r = 4 := by omega
 rcases hr with rfl | rfl | rfl | rfl | rfl
 ·exact ⟨1, rfl, by decide, by decide⟩
 ·exact ⟨1, rfl, by decide, by decide⟩
 ·exact ⟨2, rfl, by decide, by decide⟩
 ·exact ⟨3, rfl, by decide, by decide⟩
 ·exact ⟨999999, rfl, by decide, by decide⟩
theorem ft_loop {a f : Addr} {L : Int} {m0 : Mu} {E : Ends2} {a1 : Option D} (hL : L ≤ 1000000) (hfa : f ≠ a) (h0 : m0 f = none) : ∀ (ns : List (Str × Bool)) (done : List Thg) (b : Int) (m : Mu) (o3 o4 o5 o6 o7 o8 : Option D), b + 4 * ns.length ≤ 1000 → done.length + ns.length ≤ 100 → Fed b L m0 m a → m f = some (.l (done.map Thg.d)) →
  (∀ (ts : List Thg) m' o3 o4 o5 o6 o7 o8, ts.map (fun t => (t.nm, t.k)) = ns → (∀ t ∈ ts, TOk t) → Fed (b + 4 * ns.length) L m0 m' a → m' f = some (.l ((done ++ ts).map Thg.d)) → E.nx [some (.cel a), a1, some (.cel f), o3, o4, o5, o6, o7, o8] m') →
  loopL (gT 2 (gNs (gN 3) (gNs (gN 4) gN0))) b__law_far_telling_L0 E (ns.map fun t => .dat (th0 t)) [some (.cel a), a1, some (.cel f), o3, o4, o5, o6, o7, o8] m
 | [], done, b, m, o3, o4, o5, o6, o7, o8, _, _, hf, hm, h => h [] m o3 o4 o5 o6 o7 o8 rfl (by simp) (by simpa using hf) (by simpa using hm)
 | (nm, kk) :: ns, done, b, m, o3, o4, o5, o6, o7, o8, hb, hl, hf, hm, h => by
  simp only [List.length_cons] at hl hb; rw [List.map_cons, loopL]; refine ⟨_, rfl, rfl, rfl, ?_⟩; show b__law_far_telling_L0 _ [some (.cel a), a1, some (.cel f), some (.dat (.str nm)), some (.dat (.str (kd kk))), o5, o6, o7, o8] m
  refine ⟨[.int 1, .int 1, .int 2, .int 3, .int 999999], rfl, (sz (by decide) : 5 ≤ sizeLine), _, rfl, rfl, ?_⟩
  refine draw_use2 (by decide) (by decide) (by omega) (by omega) hf fun r1 m1 p1 q1 f1 s1 => ?_
  obtain ⟨bt, e1, bt1, bt2⟩ := at5 p1 q1; refine ⟨_, e1, ?_⟩; show b__law_far_telling_L0_1 _ [some (.cel a), a1, some (.cel f), some (.dat (.str nm)), some (.dat (.str (kd kk))), some (I bt), o6, o7, o8] m1
  refine ⟨_, rfl, rfl, ?_⟩; refine draw_use2 (by decide) (by decide) (by omega) (by omega) f1 fun r2 m2 p2 q2 f2 s2 => ?_
  show b__law_far_telling_L0_2 _ [some (.cel a), a1, some (.cel f), some (.dat (.str nm)), some (.dat (.str (kd kk))), some (I bt), some (I (r2 - 2)), o7, o8] m2
  refine ⟨_, rfl, rfl, ?_⟩; refine draw_use2 (by decide) (by decide) (by omega) (by omega) f2 fun r3 m3 p3 q3 f3 s3 => ?_
  show b__law_far_telling_L0_3 _ [some (.cel a), a1, some (.cel f), some (.dat (.str nm)), some (.dat (.str (kd kk))), some (I bt), some (I (r2 - 2)), some (I r3), o8] m3
  have hm3 : m3 f = some (.l (done.map Thg.d)) := s3 f _ hfa (s2 f _ hfa (s1 f _ hfa hm))
  have cont : ∀ bg : Int, -999999 ≤ bg → bg ≤ 999990 → b__law_far_telling_L0_4 { nx := loopL (gT 2 (gNs (gN 3) (gNs (gN 4) gN0))) b__law_far_telling_L0 E (ns.map fun t => .dat (th0 t)), rt := E.rt, bk := E.nx, ct := loopL (gT 2 (gNs (gN 3) (gNs (gN 4) gN0))) b__law_far_telling_L0 E (ns.map fun t => .dat (th0 t)) } [some (.cel a), a1, some (.cel f), some (.dat (.str nm)), some (.dat (.str (kd kk))), some (I bt), some (I bg), some (I r3), o8] m3 := fun bg g1 g2 => by
   refine ⟨_, rfl, rfl, ?_⟩; refine draw_use2 (by decide) (by decide) (by omega) (by omega) f3 fun r4 m4 p4 q4 f4 s4 => ?_
   show b__law_far_telling_L0_5 _ [some (.cel a), a1, some (.cel f), some (.dat (.str nm)), some (.dat (.str (kd kk))), some (I bt), some (I bg), some (I r3), some (I (1 + r4))] m4
   have hm4 := s4 f _ hfa hm3
   obtain ⟨n1, en1, ok1⟩ := num_fr bt1 bt2 g1 (by omega)
   obtain ⟨n2, en2, ok2⟩ := num_fr (t := bg + (1 + r4)) bt1 bt2 (by omega) (by omega)
   have dl : (done.map Thg.d).length < sizeLine := Nat.lt_of_lt_of_le (show (done.map Thg.d).length < 1000 by simp; omega) (sz (by decide))
   have fin : ∀ t : Thg, t.nm = nm → t.k = kk → TOk t → ∀ o3 o4 o5 o6 o7 o8, loopL (gT 2 (gNs (gN 3) (gNs (gN 4) gN0))) b__law_far_telling_L0 E (ns.map fun t => .dat (th0 t)) [some (.cel a), a1, some (.cel f), o3, o4, o5, o6, o7, o8] (updM m4 f (.l (done.map Thg.d ++ [t.d]))) := fun t e1 e2 ok o3 o4 o5 o6 o7 o8 => by
    refine ft_loop hL hfa h0 ns (done ++ [t]) (b + 1 + 1 + 1 + 1) _ _ _ _ _ _ _ (by omega) (by simp; omega) (f4.upd hfa h0) (by rw [updM_same]; simp) fun ts m' o3 o4 o5 o6 o7 o8 et ht hf' hm' => ?_
    refine h (t :: ts) m' o3 o4 o5 o6 o7 o8 (by rw [List.map_cons, et, e1, e2]) (fun u hu => ?_) ?_ (by rw [hm']; simp)
    ·rcases List.mem_cons.mp hu with rfl | hu
     ·exact ok
     ·exact ht u hu
    ·rw [List.length_cons]; refine hf'.mono (by omega)
   refine ⟨_, rfl, _, rfl, ?_⟩
   cases kk with
   | false =>
    refine ite_t (by decide +kernel) ?_
    refine ⟨_, rfl, f, rfl, ⟨_, hm4⟩, _, rfl, _, rfl, rfl, frac_use bt1 bt2 ?_⟩; rw [en1]; refine ⟨_, _, rfl, hm4, dl, ?_⟩; exact fin ⟨nm, false, n1, n1⟩ rfl rfl ⟨ok1, ok1, (fun q => by cases q), fun _ => rfl⟩ _ _ _ _ _ _
   | true =>
    refine ite_f (by decide +kernel) ?_
    refine ⟨_, rfl, f, rfl, ⟨_, hm4⟩, _, rfl, _, rfl, rfl, frac_use bt1 bt2 ?_⟩; refine ⟨_, rfl, _, rfl, _, rfl, rfl, frac_use bt1 bt2 ?_⟩; rw [en1, en2]; refine ⟨[fq n1, fq n2], rfl, (sz (by decide) : 2 ≤ sizeLine), _, _, rfl, hm4, dl, ?_⟩
    exact fin ⟨nm, true, n1, n2⟩ rfl rfl ⟨ok1, ok2, fun _ => fr_lt (by omega) (by omega) n1 n2 en1 en2, (fun q => by cases q)⟩ _ _ _ _ _ _
  refine ⟨_, rfl, _, rfl, ?_⟩
  by_cases c : r3 < 2
  ·refine ite_t (decide_eq_true c) ?_; refine ⟨_, rfl, [.int 999990, .int (-999999)], rfl, (sz (by decide) : 2 ≤ sizeLine), _, rfl, ?_⟩
   have hr : r3 = 0 ∨ r3 = 1 := by omega
   rcases hr with e | e
   ·exact ⟨.int 999990, by rw [e]; exact at0 _ _, cont 999990 (by decide) (by decide)⟩
   ·exact ⟨.int (-999999), by rw [e]; exact at1 _ _ _, cont (-999999) (by decide) (by decide)⟩
  ·exact ite_f (decide_eq_false c) (cont _ (by omega) (by omega))
theorem vc__law_far_telling : ∀ ds m R, ds.length = p__law_far_telling.length → sp__law_far_telling ds m R → b__law_far_telling (EN R) (start2 N__law_far_telling ds) m := by
 rintro ds m R hl ⟨a, L, ns, rfl, n6, hL, tp, h⟩; refine ⟨[], rfl, sz (by decide), fun f hf => ?_⟩
 obtain ⟨nfa, nf0⟩ := (Fed.refl tp).new hf; show b__law_far_telling_1 (EN R) [some (.cel a), some (.dat (TH0 ns)), some (.cel f), none, none, none, none, none, none] (updM m f (.l []))
 refine ⟨_, rfl, .inr ⟨_, rfl, ?_⟩⟩; rw [List.map_map]; refine ft_loop (m0 := m) hL nfa nf0 ns [] 0 _ _ _ _ _ _ _ (by omega) (by simp; omega) ((Fed.refl tp).upd nfa nf0) updM_same fun ts m' o3 o4 o5 o6 o7 o8 e ht hf' hm' => ?_
 show b__law_far_telling_2 (EN R) [some (.cel a), some (.dat (TH0 ns)), some (.cel f), o3, o4, o5, o6, o7, o8] m'
 refine ⟨_, rfl, _, hm', ?_⟩; rw [List.nil_append]; exact h ts m' e ht (hf'.mono (by omega))
end K85
namespace K85
open PySem PySem.Spec PyProof.Rows L2 DL K01
def Sh (n d : Nat) (p : PyData) : Prop := p.showable = true ∧ p.shown.length ≤ n ∧ p.depth ≤ d
theorem Sh.mono {n d n' d' : Nat} {p : PyData} (h : Sh n d p) (h1 : n ≤ n') (h2 : d ≤ d') : Sh n' d' p := ⟨h.1, Nat.le_trans h.2.1 h1, Nat.le_trans h.2.2 h2⟩
theorem sh_all {n d : Nat} : ∀ {ps : List PyData}, (∀ p ∈ ps, Sh n d p) → PyData.showableAll ps = true ∧ ((PyData.shownAll ps).map (·.length)).sum ≤ n * ps.length ∧ (PyData.shownAll ps).length = ps.length ∧ PyData.depthAll ps ≤ d
 | [], _ => by simp [PyData.showableAll, PyData.shownAll, PyData.depthAll]
 | p :: ps, h => by
  obtain ⟨q1, q2, q3, q4⟩ := sh_all (ps := ps) fun y hy => h y (List.mem_cons_of_mem _ hy); obtain ⟨p1, p2, p3⟩ := h p List.mem_cons_self; refine ⟨?_, ?_, ?_, ?_⟩
  ·simp only [PyData.showableAll, p1, q1, Bool.and_self]
  ·simp only [PyData.shownAll, List.map_cons, List.sum_cons, List.length_cons, Nat.mul_succ]; omega
  ·simp only [PyData.shownAll, List.length_cons, q3]
  ·simp only [PyData.depthAll]; omega
theorem sh_tup {n d N : Nat} {ps : List PyData} (h : ∀ p ∈ ps, Sh n d p) (hN : n * ps.length + 2 * ps.length + 3 ≤ N) : Sh N (d + 1) (.tuple ps) := by
 obtain ⟨q1, q2, q3, q4⟩ := sh_all h; refine ⟨by simpa only [PyData.showable] using q1, ?_, by simp only [PyData.depth]; omega⟩
 simp only [PyData.shown]; refine Nat.le_trans (PySem.tupleText_len_le _) ?_; rw [q3]; omega
theorem sh_int {i : Int} (h : Bd 200 i) : Sh 1921 1 (.int i) := by
 refine ⟨?_, ?_, by simp [PyData.depth]⟩
 ·simp only [PyData.showable, decide_eq_true_eq]; exact Nat.lt_of_lt_of_le (h.log (by decide)) (by decide)
 ·simp only [PyData.shown]; exact PyProof.Rows.int_text_len_1921 (Nat.lt_of_lt_of_le (h.log (by decide)) (by decide))
theorem sh_int70 {i : Int} (h : Bd 62 i) : Sh 70 1 (.int i) := by
 refine ⟨(sh_int (h.mono (by decide))).1, ?_, by simp [PyData.depth]⟩
 simp only [PyData.shown]; rw [PySem.ofString_length]; exact Nat.le_trans (PySem.int_text_length_le (k := 62) (by decide) (h.log (by decide))) (by decide)
theorem sh_list {n d N : Nat} {ps : List PyData} (h : ∀ p ∈ ps, Sh n d p) (hN : n * ps.length + 2 * ps.length + 3 ≤ N) : Sh N (d + 1) (.list ps) := by
 obtain ⟨q1, q2, q3, q4⟩ := sh_all h; refine ⟨by simpa only [PyData.showable] using q1, ?_, by simp only [PyData.depth]; omega⟩
 simp only [PyData.shown]; refine Nat.le_trans (PySem.listText_len_le _) ?_; rw [q3]; omega
def low (z : Str) : Prop := ∀ c ∈ z.cps.toList, c < 1114112
theorem sh_str {z : Str} {n : Nat} (h : low z) (hl : z.length ≤ n) : Sh (10 * n + 2) 1 (.str z) := by
 refine ⟨by simp [PyData.showable], ?_, by simp [PyData.depth]⟩
 simp only [PyData.shown]; exact Nat.le_trans (StrLaws.reprText_len z fun c hc => Nat.lt_of_lt_of_le (h c hc) (by decide)) (by omega)
theorem low_good {z : Str} (g : good z) : low z := fun c hc => by have := g.1 c hc; omega
theorem low_app {a b : Str} (ha : low a) (hb : low b) : low (a ++ b) := fun c hc => by
 rw [Str.cps_append, Array.toList_append, List.mem_append] at hc; exact hc.elim (ha c) (hb c)
theorem low_kd (k : Bool) : low (kd k) := by
 have : ∀ c ∈ (kd k).cps.toList, c < 1114112 := by cases k <;> decide +kernel
 exact this
theorem low_num (n : Int × Int) : low (numT n) := fun c hc => by
 have d : ∀ i : Int, ∀ c ∈ (sI i).cps.toList, c < 1114112 := fun i c hc => Nat.lt_of_not_le fun q => int_text_free' c ⟨by omega, .inr (by omega)⟩ i hc
 have s : low (Str.ofString "/") := by
  have : ∀ c ∈ (Str.ofString "/").cps.toList, c < 1114112 := by decide +kernel
  exact this
 unfold numT at hc
 split at hc
 ·exact low_app (low_app (d _) s) (d _) c hc
 ·exact d _ c hc
theorem low_join : ∀ {ws : List Str}, (∀ w ∈ ws, low w) → low (Str.join ⟨#[32]⟩ ws)
 | [], _ => fun c hc => by simp [Str.join, Str.empty] at hc
 | [w], h => by simpa only [Str.join] using h w List.mem_cons_self
 | w :: v :: ws, h => fun c hc => by
  rw [TX.join_cons, List.mem_append, List.mem_cons] at hc; rcases hc with hc | rfl | hc
  ·exact h w List.mem_cons_self c hc
  ·decide
  ·exact low_join (fun u hu => h u (List.mem_cons_of_mem _ hu)) c hc
theorem low_txt {ws : List Str} (h : ∀ w ∈ ws, low w) : low (Txt.join " " ws) := by
 unfold Txt.join; rw [StrLaws.glued_eq_join, TX.sp_is]; exact low_join h
theorem sh_fq {n : Int × Int} (nk : NumOk n) : Sh 500 2 (fq n) := by
 have b : ∀ i : Int, i.natAbs ≤ 999999 → Bd 62 i := fun i h => by
  refine Bd.mono (m := 20) ?_ (by decide)
  unfold Bd; have e : (2 : Nat) ^ 20 = 1048576 := by decide
  omega
 refine sh_tup (n := 200) (d := 1) (fun p hp => ?_) (by simp)
 simp at hp; have := nk.pos
 have := nk.le
 have := nk.lo
 have := nk.hi
 rcases hp with rfl | rfl
 ·exact (sh_int70 (b _ (by omega))).mono (by decide) (by decide)
 ·exact (sh_int70 (b _ (by omega))).mono (by decide) (by decide)
theorem big : 1000000 ≤ sizeLine := by decide
theorem low_sg (c : List Q2) (t : Thg) : low (sgS c t) := fun k hk => by
 have : ∀ x, sgc t x < 1114112 := fun x => by unfold sgc; split <;> (try split) <;> (try split) <;> (try split) <;> decide
 simp [sgS] at hk; obtain ⟨a, b, _, e⟩ := hk; rw [← e]; exact this _
theorem low_row {c : List Q2} {t : Thg} (g : good t.nm) : low (rowS c t) := low_txt fun w hw => by
 rcases List.mem_cons.mp hw with rfl | hw
 ·exact low_good g
 ·rw [List.mem_singleton.mp hw]; exact low_sg c t
theorem low_last (c : List Q2) : low (lastS c) := low_txt fun w hw => by
 rcases List.mem_cons.mp hw with rfl | hw
 ·rw [at_is]; intro k hk; simp at hk; omega
 ·obtain ⟨x, _, rfl⟩ := List.mem_map.mp hw; exact low_num x
theorem low_lines {ts : List Thg} (hw : Ws ts) : ∀ z ∈ linesOf ts, low z ∧ z.length ≤ 1000 := fun z hz => by
 unfold linesOf at hz; rw [List.mem_append] at hz; rcases hz with hz | hz
 ·obtain ⟨t, ht, rfl⟩ := List.mem_map.mp hz; exact ⟨low_row (hw.gd t ht), Nat.le_trans (row_len (hw.gd t ht) (cols_len hw)) (by decide)⟩
 ·rw [List.mem_singleton.mp hz]; exact ⟨low_last _, last_len (cols_ok hw).num (cols_len hw)⟩
theorem len_lines (ts : List Thg) : (linesOf ts).length = ts.length + 1 := by simp [linesOf]
theorem sh_lines {ts : List Thg} (hw : Ws ts) : Sh 1000000 2 (sL (linesOf ts)) := by
 have := hw.le
 refine (sh_list (n := 10002) (d := 1) (N := 1000000) (fun p hp => ?_) (by rw [List.length_map, len_lines]; omega)).mono (by decide) (by decide)
 obtain ⟨z, hz, rfl⟩ := List.mem_map.mp hp; obtain ⟨h1, h2⟩ := low_lines hw z hz; exact (sh_str h1 h2).mono (by decide) (by decide)
theorem lay_strs : ∀ {zs : List Str}, (∀ z ∈ zs, low z) → PyData.canLayAll0 (zs.map .str) = true ∧ PyData.depthAll (zs.map .str) ≤ 1
 | [], _ => ⟨rfl, by simp [PyData.depthAll]⟩
 | z :: zs, h => by
  obtain ⟨h1, h2⟩ := lay_strs (zs := zs) fun w hw => h w (List.mem_cons_of_mem _ hw); have := sOk z (h z List.mem_cons_self)
  refine ⟨by simp only [List.map_cons, PyData.canLayAll0, PyData.canLay0, this, h1, Bool.and_self], ?_⟩
  simp only [List.map_cons, PyData.depthAll, PyData.depth]; omega
theorem eqv_strs : ∀ zs : List Str, PyData.eqvAll (zs.map .str) (zs.map .str) = true
 | [] => by simp [PyData.eqvAll]
 | z :: zs => by simp [PyData.eqvAll, PyData.eqv, eqv_strs zs]
theorem sh_both {ts : List Thg} (hw : Ws ts) : Sh 1000000 10 (.tuple [TH ts, TEL ts]) := by
 have h6 := hw.le
 have s1 : Sh 10000 3 (TH ts) := by
  refine (sh_tup (n := 1000) (d := 2) (N := 10000) (fun p hp => ?_) (by rw [List.length_map]; omega))
  obtain ⟨t, ht, rfl⟩ := List.mem_map.mp hp; refine (sh_tup (n := 102) (d := 1) (N := 1000) (fun q hq => ?_) (by simp))
  simp at hq; rcases hq with rfl | rfl
  ·exact (sh_str (n := 10) (low_good (hw.gd t ht)) (by have := (hw.gd t ht).2.2; omega)).mono (by decide) (by decide)
  ·exact (sh_str (n := 10) (low_kd t.k) (by cases t.k <;> decide +kernel)).mono (by decide) (by decide)
 have s2 : Sh 10000 4 (TEL ts) := by
  refine (sh_tup (n := 1500) (d := 3) (N := 10000) (fun p hp => ?_) (by rw [List.length_map]; omega))
  obtain ⟨t, ht, rfl⟩ := List.mem_map.mp hp; have ok := hw.ok t ht
  unfold Thg.d
  split
  ·refine (sh_tup (n := 500) (d := 2) (N := 1500) (fun q hq => ?_) (by simp))
   simp at hq; rcases hq with rfl | rfl
   ·exact sh_fq ok.nx
   ·exact sh_fq ok.ny
  ·exact (sh_fq ok.nx).mono (by decide) (by decide)
 refine (sh_tup (n := 10000) (d := 4) (N := 1000000) (fun p hp => ?_) (by simp)).mono (by decide) (by decide)
 simp at hp; rcases hp with rfl | rfl
 ·exact s1.mono (by decide) (by decide)
 ·exact s2
theorem cmp_ix {c : List Q2} {x y : Q2} (h : ColOk c) (hx : x ∈ c) (hy : y ∈ c) : cmpI ((c.idxOf x : Int), 1) ((c.idxOf y : Int), 1) = cmpI x y := by
 have a := ix_lt h hx hy
 have b := ix_lt h hy hx
 unfold cmpI; have e1 : ((c.idxOf x : Int) * 1 > (c.idxOf y : Int) * 1) ↔ x.1 * y.2 > y.1 * x.2 := by
  rw [Int.mul_one, Int.mul_one]; exact ⟨fun q => b.mpr (by omega), fun q => by have := b.mp q; omega⟩
 have e2 : ((c.idxOf x : Int) * 1 < (c.idxOf y : Int) * 1) ↔ x.1 * y.2 < y.1 * x.2 := by
  rw [Int.mul_one, Int.mul_one]; exact ⟨fun q => a.mpr (by omega), fun q => by have := a.mp q; omega⟩
 simp only [e1, e2]
end K85
namespace K85
open PySem PySem.Spec PyProof.Rows L2 DL K01
theorem my {c : List Q2} {t : Thg} (h : In c t) : t.x ∈ c ∧ t.y ∈ c := by
 by_cases hk : t.k = false
 ·have := h.mem t.x (by unfold Thg.es; simp [hk])
  exact ⟨this, by rw [h.ok.pt hk]; exact this⟩
 ·have hk : t.k = true := by simpa using hk
  exact ⟨h.mem _ (by unfold Thg.es; simp [hk]), h.mem _ (by unfold Thg.es; simp [hk])⟩
theorem pr_seen {c : List Q2} {t : Thg} (h : In c t) : prF t.k (seenT c t).d = .tuple [fq ((c.idxOf t.x : Int), 1), fq ((c.idxOf t.y : Int), 1)] := by
 unfold prF Thg.d seenT
 by_cases hk : t.k = false
 ·simp [hk, h.ok.pt hk]
 ·have hk : t.k = true := by simpa using hk
  simp [hk]
theorem fr_ix {i : Nat} (h : i ≤ 12) : Fr 20 (fq ((i : Int), 1)) := by
 refine ⟨_, rfl, (show (0 : Int) < 1 by decide), ?_, (show (1 : Int).natAbs < 2 ^ 20 by decide)⟩
 unfold Bd; have e : (2 : Nat) ^ 20 = 1048576 := by decide
 show (i : Int).natAbs < 2 ^ 20
 omega
theorem tm_seen {c : List Q2} {t : Thg} (h : In c t) : Tm t.k (seenT c t).d := by
 obtain ⟨mx, my⟩ := my h; have l1 := List.idxOf_lt_length_iff.mpr mx
 have l2 := List.idxOf_lt_length_iff.mpr my
 have := h.len
 unfold Thg.d seenT
 by_cases hk : t.k = false
 ·exact .inl ⟨hk, by simp only [hk]; exact fr_ix (by omega)⟩
 ·have hk : t.k = true := by simpa using hk
  exact .inr ⟨hk, _, _, by simp only [hk]; rfl, fr_ix (by omega), fr_ix (by omega)⟩
def wg (k l : Bool) (a b c d : Int) : Str :=
 if a < 0 then "ahead" else if b < 0 then "behind"
 else if k = true ∧ l = true ∧ a = 0 then "meets" else if k = true ∧ l = true ∧ b = 0 then "met"
 else rowW c d
theorem wd_wg {k l : Bool} {p q : PyData} {a0 a1 b0 b1 : Q2} (h : prF k p = .tuple [fq a0, fq a1]) (g : prF l q = .tuple [fq b0, fq b1]) : wdF k l p q = wg k l (cmpI a1 b0) (cmpI b1 a0) (cmpI a0 b0) (cmpI a1 b1) := by
 unfold wdF; rw [h, g]; rfl
theorem wd_seen {c : List Q2} {t u : Thg} (h : In c t) (g : In c u) : wdF t.k u.k (seenT c t).d (seenT c u).d = wdF t.k u.k t.d u.d := by
 obtain ⟨tx, ty⟩ := my h; obtain ⟨ux, uy⟩ := my g; rw [wd_wg (pr_seen h) (pr_seen g), wd_wg (pr_of h.ok) (pr_of g.ok), cmp_ix h.col ty ux, cmp_ix h.col uy tx, cmp_ix h.col tx ux, cmp_ix h.col ty uy]
theorem Tp.kn {n : Int} {m m' : Mu} {a : Addr} (h : Tp n m a) (k : Kn m m') : Tp n m' a := by
 obtain ⟨ns, i, j, e, r⟩ := h; exact ⟨ns, i, j, by rw [k a (by rw [e]; rfl)]; exact e, r⟩
theorem at_ts {ts : List Thg} {f : Thg → PyData} {i : Nat} {t : Thg} (h : ts[i]? = some t) : atI (ts.map f) (i : Int) = some (f t) := atI_nat (by rw [List.getElem?_map, h]; rfl)
theorem seen_loop {ts : List Thg} {c : List Q2} {m : Mu} {Q : List PyData → Mu → Prop} {due : List Str} (hi : ∀ t ∈ ts, In c t ∧ good t.nm) (hd : ∀ (i : Nat) (t : Thg), ts[i]? = some t → due[i]? = some (rowS c t)) (h6 : ts.length ≤ 6) (h : Q (ts.map fun t => (seenT c t).d) m) : ∀ (n i : Nat) (o : Option D), i + n = ts.length →
  loopC (gN 0) dTrue (dCall 2 sp__law_seen (dCons (dBin aIx (dVar 2) (dVar 0)) (dCons (dBin aIx (dBin aIx (dVar 1) (dVar 0)) (dCon (.int 1))) dNil))) (intsD (i : Int) n) ((ts.take i).map fun t => (seenT c t).d) [o, some (.dat (TH ts)), some (.dat (sL due))] m Q
 | 0, i, o, e => by
  have : ts.take i = ts := List.take_of_length_le (by omega)
  rw [this]; exact h
 | n + 1, i, o, e => by
  have hlt : i < ts.length := by omega
  have ht := List.getElem?_eq_getElem hlt
  obtain ⟨i1, i2⟩ := hi _ (List.getElem_mem hlt); rw [ints_cons, loopC]; simp only [gN, dTrue, if_true]; refine ⟨_, rfl, _, rfl, _, atI_nat (by rw [List.getElem?_map, hd i _ ht]; rfl), ?_⟩
  refine ⟨_, rfl, _, rfl, _, at_ts (f := fun t => .tuple [.str t.nm, .str (kd t.k)]) ht, ?_⟩; refine ⟨_, at1 _ _ _, rfl, c, ts[i], rfl, i1, i2, _, rfl, Nat.lt_of_lt_of_le (show ((ts.take i).map fun t => (seenT c t).d).length < 1000 by simp; omega) (sz (by decide)), ?_⟩
  have := seen_loop hi hd h6 h n (i + 1) (some (I i)) (by omega)
  rw [List.take_succ, ht, List.map_append] at this; exact this
end K85
namespace K85
open PySem PySem.Spec PyProof.Rows L2 DL K01
theorem due_at {ts : List Thg} {i : Nat} {t : Thg} (h : ts[i]? = some t) : (linesOf ts)[i]? = some (rowS (cols ts) t) := by
 unfold linesOf; have := (List.getElem?_eq_some_iff.mp h).1
 rw [List.getElem?_append_left (by simpa using this), List.getElem?_map, h]
 rfl
theorem law_rest {a : Addr} {L : Int} {ts : List Thg} {kk : St2 → Mu → Prop} {E : Ends2} {o0 o2 : Option D} (hE : E.nx = kk) (hw : Ws ts) (hk : ∀ m' o3 o4 o5 o6 o7 o8 o9 o10 o11 o12, Tp L m' a → kk [o0, some (.cel a), o2, o3, o4, o5, o6, o7, o8, o9, o10, o11, o12] m') {m : Mu} (tp : Tp L m a) (o5 o6 o7 o8 o9 o10 o11 o12 : Option D) :
  b_law_L0_2 E [o0, some (.cel a), o2, some (.dat (TH ts)), some (.dat (TEL ts)), o5, o6, o7, o8, o9, o10, o11, o12] m := by
 have h6 := hw.le
 have sl := sh_lines hw
 have sb := sh_both hw
 have ll := len_lines ts
 have lay := lay_strs (zs := linesOf ts) fun z hz => (low_lines hw z hz).1
 refine ⟨_, rfl, _, rfl, rfl, ts, rfl, hw, fun m1 k1 => ?_⟩; show b_law_L0_3 E [o0, some (.cel a), o2, some (.dat (TH ts)), some (.dat (TEL ts)), some (.dat (sL (linesOf ts))), o6, o7, o8, o9, o10, o11, o12] m1
 refine ⟨2, rfl, by decide, by decide, ?_⟩
 refine loopL_int 2 (fun j d m' => (∃ o6 o7, d = [o0, some (.cel a), o2, some (.dat (TH ts)), some (.dat (TEL ts)), some (.dat (sL (linesOf ts))), o6, o7, o8, o9, o10, o11, o12]) ∧ Kn m m') ?_ ?_ 2 0 rfl _ _ ⟨⟨_, _, rfl⟩, k1⟩
 ·rintro d m2 ⟨⟨o6, o7, rfl⟩, k2⟩; refine ⟨_, rfl, ?_⟩; show b_law_L0_5 E [o0, some (.cel a), o2, some (.dat (TH ts)), some (.dat (TEL ts)), some (.dat (sL (linesOf ts))), o6, o7, some (.dat (sL (linesOf ts))), o9, o10, o11, o12] m2
  refine ⟨_, rfl, rfl, ts, rfl, hw, fun m3 k3 => ?_⟩; refine ⟨sb.1, Nat.le_trans sb.2.1 big, Nat.le_trans sb.2.2 (by decide), _, rfl, _, rfl, [TH ts, TEL ts], rfl, (sz (by decide) : 2 ≤ sizeLine), sb.1, Nat.le_trans sb.2.1 big, Nat.le_trans sb.2.2 (by decide), _, rfl, ite_f (by simp) ?_⟩
  refine ⟨_, rfl, _, rfl, by simpa [PyData.canLay0] using lay.1, by simpa [PyData.canLay0] using lay.1, by have := lay.2; simp only [PyData.depth]; omega, _, rfl, ite_f (by simp [PyData.eqv, eqv_strs]) ?_⟩
  show b_law_L0_6 E [o0, some (.cel a), o2, some (.dat (TH ts)), some (.dat (TEL ts)), some (.dat (sL (linesOf ts))), o6, o7, some (.dat (sL (linesOf ts))), o9, o10, o11, o12] m3
  have tp3 : Tp L m3 a := tp.kn (k2.trans k3)
  refine ⟨_, rfl, ((ts.map fun t => PyData.tuple [.str t.nm, .str (kd t.k)]).length : Nat), rfl, by omega, by simp; omega, ?_⟩
  rw [show ((((ts.map fun t => PyData.tuple [.str t.nm, .str (kd t.k)]).length : Nat) : Int)).toNat = ts.length by simp]
  refine seen_loop (c := cols ts) (fun t ht => ⟨cols_in hw ht, hw.gd t ht⟩) (fun i t h => due_at h) h6 ?_ ts.length 0 none (by omega)
  show b_law_L0_7 E [o0, some (.cel a), o2, some (.dat (TH ts)), some (.dat (TEL ts)), some (.dat (sL (linesOf ts))), o6, o7, some (.dat (sL (linesOf ts))), some (.dat (.list (ts.map fun t => (seenT (cols ts) t).d))), o10, o11, o12] m3
  refine ⟨_, rfl, ((ts.map fun t => PyData.tuple [.str t.nm, .str (kd t.k)]).length : Nat), rfl, by omega, by simp; omega, ?_⟩
  rw [show ((((ts.map fun t => PyData.tuple [.str t.nm, .str (kd t.k)]).length : Nat) : Int)).toNat = ts.length by simp]
  refine loopL_int ts.length (fun j d m' => m' = m3 ∧ ∃ o10 o11 o12, d = [o0, some (.cel a), o2, some (.dat (TH ts)), some (.dat (TEL ts)), some (.dat (sL (linesOf ts))), o6, o7, some (.dat (sL (linesOf ts))), some (.dat (.list (ts.map fun t => (seenT (cols ts) t).d))), o10, o11, o12]) ?_ ?_ ts.length 0 (by omega) _ _ ⟨rfl, _, _, _, rfl⟩
  ·rintro d m' ⟨rfl, o10, o11, o12, rfl⟩; show E.nx _ _
   rw [hE]; exact hk _ _ _ _ _ _ _ _ _ _ _ tp3
  ·rintro i d m' k hi ⟨rfl, o10, o11, o12, rfl⟩ hk2; have hti := List.getElem?_eq_getElem hi
   refine ⟨_, rfl, ((ts.map fun t => PyData.tuple [.str t.nm, .str (kd t.k)]).length : Nat), rfl, by omega, by simp; omega, ?_⟩
   rw [show ((((ts.map fun t => PyData.tuple [.str t.nm, .str (kd t.k)]).length : Nat) : Int)).toNat = ts.length by simp]
   refine loopL_int ts.length (fun j d m'' => m'' = m' ∧ ∃ o11 o12, d = [o0, some (.cel a), o2, some (.dat (TH ts)), some (.dat (TEL ts)), some (.dat (sL (linesOf ts))), o6, o7, some (.dat (sL (linesOf ts))), some (.dat (.list (ts.map fun t => (seenT (cols ts) t).d))), some (I i), o11, o12]) ?_ ?_ ts.length 0 (by omega) _ _ ⟨rfl, _, _, rfl⟩
   ·rintro d m'' ⟨rfl, o11, o12, rfl⟩; exact hk2 _ _ ⟨rfl, _, _, _, rfl⟩
   ·rintro j d m'' k' hj ⟨rfl, o11, o12, rfl⟩ hk3; have htj := List.getElem?_eq_getElem hj
    have ii := cols_in hw (List.getElem_mem hi)
    have ij := cols_in hw (List.getElem_mem hj)
    show b_law_L3 _ [o0, some (.cel a), o2, some (.dat (TH ts)), some (.dat (TEL ts)), some (.dat (sL (linesOf ts))), o6, o7, some (.dat (sL (linesOf ts))), some (.dat (.list (ts.map fun t => (seenT (cols ts) t).d))), some (I i), some (I j), o12] m''
    refine ⟨_, rfl, _, rfl, _, at_ts (f := fun t => .tuple [.str t.nm, .str (kd t.k)]) hti, _, at1 _ _ _, _, rfl, _, rfl, _, at_ts hti, [.str (kd ts[i].k), ts[i].d], rfl, (sz (by decide) : 2 ≤ sizeLine), ?_⟩
    refine ⟨_, rfl, _, rfl, _, at_ts (f := fun t => .tuple [.str t.nm, .str (kd t.k)]) htj, _, at1 _ _ _, _, rfl, _, rfl, _, at_ts htj, [.str (kd ts[j].k), ts[j].d], rfl, (sz (by decide) : 2 ≤ sizeLine), ?_⟩
    refine ⟨[.tuple [.str (kd ts[i].k), ts[i].d], .tuple [.str (kd ts[j].k), ts[j].d]], rfl, (sz (by decide) : 2 ≤ sizeLine), ?_⟩
    show b_law_L3_1 _ [o0, some (.cel a), o2, some (.dat (TH ts)), some (.dat (TEL ts)), some (.dat (sL (linesOf ts))), o6, o7, some (.dat (sL (linesOf ts))), some (.dat (.list (ts.map fun t => (seenT (cols ts) t).d))), some (I i), some (I j), some (.dat (.list [.tuple [.str (kd ts[i].k), ts[i].d], .tuple [.str (kd ts[j].k), ts[j].d]]))] m''
    refine ⟨_, rfl, _, at0 _ _, _, at0 _ _, _, rfl, _, rfl, _, at_ts (f := fun t => (seenT (cols ts) t).d) hti, [.str (kd ts[i].k), (seenT (cols ts) ts[i]).d], rfl, (sz (by decide) : 2 ≤ sizeLine), ?_⟩
    refine ⟨_, rfl, _, at1 _ _ _, _, at0 _ _, _, rfl, _, rfl, _, at_ts (f := fun t => (seenT (cols ts) t).d) htj, [.str (kd ts[j].k), (seenT (cols ts) ts[j]).d], rfl, (sz (by decide) : 2 ≤ sizeLine), ?_⟩
    refine ⟨rfl, ts[i].k, ts[j].k, _, _, rfl, tm_seen ii, tm_seen ij, ?_⟩; refine ⟨_, rfl, _, at0 _ _, _, rfl, _, at1 _ _ _, rfl, ts[i].k, ts[j].k, _, _, rfl, tm_of ii.ok, tm_of ij.ok, ?_⟩; rw [wd_seen ii ij]; exact ⟨_, rfl, ite_f (by simp) (hk3 _ _ ⟨rfl, _, _, rfl⟩)⟩
 ·rintro j d m2 k hj ⟨⟨o6, o7, rfl⟩, k2⟩ hk2; show b_law_L1 _ [o0, some (.cel a), o2, some (.dat (TH ts)), some (.dat (TEL ts)), some (.dat (sL (linesOf ts))), some (I j), o7, o8, o9, o10, o11, o12] m2
  refine ⟨_, rfl, _, rfl, rfl, ts, rfl, hw, fun c m3 hc k3 hm3 => ?_⟩; show b_law_L1_1 _ [o0, some (.cel a), o2, some (.dat (TH ts)), some (.dat (TEL ts)), some (.dat (sL (linesOf ts))), some (I j), some (.cel c), o8, o9, o10, o11, o12] m3
  refine ⟨_, rfl, sL (linesOf ts), by simp [hm3], _, rfl, ite_f (by simp [DL.isK]) ?_⟩
  refine ⟨_, rfl, _, hm3, sl.1, Nat.le_trans sl.2.1 big, Nat.le_trans sl.2.2 (by decide), _, rfl, sl.1, Nat.le_trans sl.2.1 big, Nat.le_trans sl.2.2 (by decide), _, rfl, ite_f (by simp) ?_⟩
  refine ⟨_, rfl, c, rfl, ⟨_, hm3⟩, _, _, rfl, hm3, Nat.lt_of_lt_of_le (show ((linesOf ts).map PyData.str).length < 1000 by rw [List.length_map]; omega) (sz (by decide)), ?_⟩
  exact hk2 _ _ ⟨⟨_, _, rfl⟩, (k2.trans k3).upd (Kn.none k2 hc)⟩
theorem vc_law : ∀ ds m R, ds.length = p_law.length → sp_law ds m R → b_law (EN R) (start2 N_law ds) m := by
 rintro ds m R hl ⟨ns, rfl, hn, h⟩; refine ⟨_, rfl, rfl, ns, rfl, hn, fun a m1 tp => ?_⟩; show b_law_1 (EN R) [some (.dat (.list (ns.map .int))), some (.cel a), none, none, none, none, none, none, none, none, none, none, none] m1
 refine ⟨4, rfl, by decide, by decide, ?_⟩
 refine loopL_int 4 (fun i d m' => (∃ o2 o3 o4 o5 o6 o7 o8 o9 o10 o11 o12, d = [some (.dat (.list (ns.map .int))), some (.cel a), o2, o3, o4, o5, o6, o7, o8, o9, o10, o11, o12]) ∧ Tp (1000 * i) m' a) ?_ ?_ 4 0 rfl _ _ ⟨⟨_, _, _, _, _, _, _, _, _, _, _, rfl⟩, (by simpa using tp)⟩
 ·rintro d m' ⟨⟨o2, o3, o4, o5, o6, o7, o8, o9, o10, o11, o12, rfl⟩, _⟩; exact h m'
 ·rintro i d m' k hi ⟨⟨o2, o3, o4, o5, o6, o7, o8, o9, o10, o11, o12, rfl⟩, tp⟩ hk; show b_law_L0 _ [some (.dat (.list (ns.map .int))), some (.cel a), some (I i), o3, o4, o5, o6, o7, o8, o9, o10, o11, o12] m'
  refine ⟨_, rfl, rfl, a, 1000 * i, rfl, by omega, tp, fun ws m2 n1 n6 gd hu f2 => ?_⟩
  show b_law_L0_1 _ [some (.dat (.list (ns.map .int))), some (.cel a), some (I i), some (.dat (TH0 ws)), o4, o5, o6, o7, o8, o9, o10, o11, o12] m2
  refine ⟨_, rfl, _, rfl, rfl, a, 1000 * i + 20, ws, rfl, n6, by omega, f2.1, fun ts m3 et ok f3 => ?_⟩
  have eT : TH0 ws = TH ts := by rw [← et]; simp [TH0, TH, Function.comp_def]
  have en : ws.map (·.1) = ts.map (·.nm) := by rw [← et]; simp [Function.comp_def]
  have el : ws.length = ts.length := by rw [← et]; simp
  have hw : Ws ts := ⟨by omega, by omega, ok, fun t ht => gd (t.nm, t.k) (by rw [← et]; exact List.mem_map.mpr ⟨t, ht, rfl⟩), by rw [← en]; exact hu⟩
  show b_law_L0_2 _ [some (.dat (.list (ns.map .int))), some (.cel a), some (I i), some (.dat (TH0 ws)), some (.dat (TEL ts)), o5, o6, o7, o8, o9, o10, o11, o12] m3
  rw [eT]; refine law_rest rfl hw (fun m'' p3 p4 p5 p6 p7 p8 p9 p10 p11 p12 tp' => hk _ _ ⟨⟨_, _, _, _, _, _, _, _, _, _, _, rfl⟩, ?_⟩) f3.1 _ _ _ _ _ _ _ _; obtain ⟨ns', i', j', e, e1, e2, e3, e4⟩ := tp'; exact ⟨ns', i', j', e, e1, e2, by omega, e4⟩
end K85
namespace HD
open PySem PySem.W
section
variable {α β : Type} {tb : String → Option Builtin} {p : Program} {w : World} {n₀ : Nat} {ann : Option Value} {c : Code} {B : List Frame}
theorem go_go {b : Nat} : ∀ {n m : Nat} {s s1 s2 : Shared} {t t1 t2 : Thread}, segGo tb p w n₀ ann b n s t = some (s1, t1) → segGo tb p w n₀ ann b m s1 t1 = some (s2, t2) → segGo tb p w n₀ ann b (n + m) s t = some (s2, t2)
 | 0, m, s, s1, s2, t, t1, t2, h, k => by
  obtain ⟨rfl, rfl⟩ : s = s1 ∧ t = t1 := by simpa [segGo] using h
  rw [Nat.zero_add]; exact k
 | n + 1, m, s, s1, s2, t, t1, t2, h, k => by
  rw [show n + 1 + m = n + m + 1 by omega]
  unfold segGo at h ⊢
  cases he : endAt b t with
  | some f => rw [he] at h; cases h
  | none =>
   rw [he] at h
   cases hk : stepOk n₀ ann t with
   | false => rw [hk] at h; cases h
   | true =>
    rw [hk] at h
    cases hs : step (denote tb) p w s t with
    | halt o s' => rw [hs] at h; cases h
    | go s' t' => rw [hs] at h; exact go_go h k
def R (N : Nat) (tb : String → Option Builtin) (p : Program) (w : World) (n₀ : Nat) (ann : Option Value) (c : Code) (B : List Frame) (m : Sem α) (s : Shared) (pos : Pos) (a : α) (s' : Shared) (pos' : Pos) : Prop :=
 ∀ (K : α → Sem Fin) (H : Value → Sem Fin) (gd : Bool → Bool) (lv : List Value → List Value), ∃ n, n ≤ N ∧ segGo tb p w n₀ ann B.length n s ⟨m.wrap K H gd lv, c, pos, B⟩ = some (s', ⟨K a, c, pos', B⟩)
variable {s s1 s' : Shared} {pos pos1 pos' : Pos} {N N1 N2 : Nat}
theorem R.pure {a : α} : R 0 tb p w n₀ ann c B (Pure.pure a) s pos a s pos := fun K H gd lv => ⟨0, Nat.le_refl _, rfl⟩
theorem R.mono {m : Sem α} {a : α} (hN : N1 ≤ N) (h : R N1 tb p w n₀ ann c B m s pos a s' pos') : R N tb p w n₀ ann c B m s pos a s' pos' := fun K H gd lv => let ⟨n, l, e⟩ := h K H gd lv; ⟨n, Nat.le_trans l hN, e⟩
theorem R.bind {m : Sem α} {f : α → Sem β} {a : α} {b : β} (h : R N1 tb p w n₀ ann c B m s pos a s1 pos1) (k : R N2 tb p w n₀ ann c B (f a) s1 pos1 b s' pos') : R (N1 + N2) tb p w n₀ ann c B (m >>= f) s pos b s' pos' := fun K H gd lv => by
 obtain ⟨n1, l1, e1⟩ := h (fun a => (f a).wrap K H gd lv) H gd lv; obtain ⟨n2, l2, e2⟩ := k K H gd lv; refine ⟨n1 + n2, Nat.add_le_add l1 l2, ?_⟩; have e : (m >>= f).wrap K H gd lv = m.wrap (fun a => (f a).wrap K H gd lv) H gd lv := by
  rw [Sem.bind_eq_wrap', Sem.wrap_wrap]; rfl
 rw [e]; exact go_go e1 e2
end
end HD
set_option maxHeartbeats 0
namespace H85
open PySem PySem.W HD
abbrev prog : Program := PySem.Challenge.pw_whens_k85_drawn
abbrev q0 : Pos := ⟨0, 0, 0, 0⟩
def mf (k : Nat) (cl : Value) (g : Addr) (clo : List (Str × Addr)) (d kd dc pm : Value) (an : Option Addr) (cd ct : Value) (bi : Addr) : Obj := match prog.main.body.getD k (.Pass q0) with
 | .FunctionDef n a b _ _ _ s _ _ _ => ⟨cl, none, .func ⟨n, n, a, .stmts b, s, g, clo, d, kd, dc, pm, an, cd, ct, bi⟩, #[]⟩
 | _ => ⟨cl, none, .plain, #[]⟩
def mm (k j : Nat) (q : Str) (cl : Value) (g : Addr) (clo : List (Str × Addr)) (d kd dc pm : Value) (an : Option Addr) (cd ct : Value) (bi : Addr) : Obj := match prog.main.body.getD k (.Pass q0) with
 | .ClassDef _ _ _ bo _ _ _ _ _ _ _ => match bo.getD j (.Pass q0) with
  | .FunctionDef n a b _ _ _ s _ _ _ => ⟨cl, none, .func ⟨n, q, a, .stmts b, s, g, clo, d, kd, dc, pm, an, cd, ct, bi⟩, #[]⟩
  | _ => ⟨cl, none, .plain, #[]⟩
 | _ => ⟨cl, none, .plain, #[]⟩
def tq (xs : List Value) : Obj := ⟨.type "tuple", none, .seq xs.toArray, #[]⟩
def lf (o : Obj) : BT := .node o .nil .nil
def ts (t : Nat) (xs : List Str) : Obj := tq (xs.mapIdx fun i x => .str x (t + i))
def fo (k : Nat) (m : Str) (t c : Nat) : Obj := mf k (.type "function") 3 [] .none .none .none (.str m t) none (.ref c) .none 0
def mz (k : Nat) : Obj := mf k .none 0 [] .none .none .none .none none .none .none 0
def oz : Obj := ⟨.none, none, .fields #[], #[]⟩
def cc (n : Str) (t : Nat) (L c : Int) (a b e : Nat) (x y : Value) : Obj := ⟨.type "code", none, .fields #[.str n t, .str n (t + 1), .str "/claim/cut.py" (t + 2), .int L 0, .int c 0, .int 0 0, .int 0 0, .int 3 0, .ref a, .bool true, .int 181 0, .ref (a + 1), .none, x, y, .ref b, .int (.ofNat e) 0, .int L 0, .str "/claim/cut.py" (e + 1)], #[]⟩
def c0 (n : Str) (t : Nat) (L c : Int) (a e : Nat) : Obj := cc n t L c a (a + 2) e .none .none
def c1 (n : Str) (t : Nat) (L c : Int) (a e : Nat) : Obj := cc n t L c a (a + 4) e (.ref (a + 2)) (.ref (a + 3))
def er (P : Params) (x : Str) (t a : Nat) : DictEntry := ⟨PyData.keyHash P x, .str x t, .ref a⟩
def o3 (P : Params) : Obj := ⟨.type "dict", none, .dict #[⟨PyData.keyHash P "__name__", .str "__name__" 165, .str "law_whens_k85_drawn" 407⟩, ⟨PyData.keyHash P "__doc__", .str "__doc__" 166, .none⟩, ⟨PyData.keyHash P "__package__", .str "__package__" 167, .none⟩, ⟨PyData.keyHash P "__loader__", .str "__loader__" 168, Value.builtin "__main__.__loader__#opaque"⟩, ⟨PyData.keyHash P "__spec__", .str "__spec__" 169, .none⟩, er P "__annotations__" 170 6, er P "__builtins__" 171 4, ⟨PyData.keyHash P "__file__", .str "__file__" 173, .str "/claim/cut.py" 172⟩, ⟨PyData.keyHash P "__cached__", .str "__cached__" 174, .none⟩, er P "SayError" 206 24, er P "NoText" 233 44, er P "is_whole" 242 53, er P "common" 250 60, er P "is_fraction" 259 67, er P "is_below" 267 74, ⟨PyData.keyHash P "LETTERS", .str "LETTERS" 271, .str "abcdefghijklmnopqrstuvwxyz" 270⟩, ⟨PyData.keyHash P "LONGEST_NAME", .str "LONGEST_NAME" 273, .int 8 272⟩, ⟨PyData.keyHash P "MOST_THINGS", .str "MOST_THINGS" 275, .int 6 274⟩, er P "is_name" 281 79, ⟨PyData.keyHash P "FIGURES", .str "FIGURES" 285, .str "0123456789" 284⟩, er P "shown_number" 294 86, er P "are_figures" 300 91, er P "read_number" 312 98, er P "word_at" 321 105, ⟨PyData.keyHash P "MOST_TIME_FIGURES", .str "MOST_TIME_FIGURES" 325, .int 200 324⟩, er P "put_in" 331 110, er P "columns_of" 344 117, er P "signs_of" 356 124, er P "drawn" 362 129, er P "read_signs" 371 136, er P "read_thing_row" 383 143, er P "read_times" 389 148, er P "read_thing_rows" 400 155, er P "read_drawing" 406 160, er P "_law_tape" 415 167, er P "_law_draw" 427 174, er P "_law_frac" 437 181, er P "_law_cmp" 447 188, er P "_law_pair" 455 195, er P "_law_six_things" 461 200, er P "_law_far_telling" 476 207, er P "_law_columns" 482 212, er P "_law_time_text" 489 219, er P "_law_drawn" 495 224, er P "_law_word" 506 231, er P "_law_seen" 515 238, er P "law" 521 243] 47, #[]⟩
def o15 : Obj := tq [.type "ValueError"]
def o22 : Obj := tq []
def o23 (P : Params) : Obj := ⟨.type "dict", none, .dict #[⟨PyData.keyHash P "__module__", .str "__module__" 196, .str "whens.errors" 187⟩, ⟨PyData.keyHash P "__firstlineno__", .str "__firstlineno__" 200, .int 2 199⟩, er P "__static_attributes__" 201 22, er P "__weakref__" 203 25, ⟨PyData.keyHash P "__doc__", .str "__doc__" 204, .none⟩] 3, #[]⟩
def o24 : Obj := ⟨.type "type", none, .cls { name := Str.ofString "SayError", bases := [.type "ValueError"], mro := [.ref 24, .type "ValueError", .type "Exception", .type "BaseException", .type "object"], ns := 23, qualname := Str.ofString "SayError", subclasses := [.ref 44] }, #[some (.ref 15), none, some (.str "SayError" 189), some (.str "SayError" 197), some (Value.builtin "ValueError.__new__"), some (.bool true)]⟩
def o25 : Obj := ⟨.type "getset_descriptor", none, .fields #[.str "__weakref__" 202, .ref 24, Value.builtin "ExceptionGroup.__weakref__", .none], #[]⟩
def o28 : Obj := tq [.ref 24]
def o35 : Obj := tq []
def o37 : Obj := ts 222 ["self", "row", "word"]
def o38 : Obj := tq []
def o40 : Obj := ⟨.type "code", none, .fields #[.str "__init__" 219, .str "NoText.__init__" 220, .str "/claim/cut.py" 221, .int 6 0, .int 3 0, .int 0 0, .int 0 0, .int 3 0, .ref 35, .bool true, .int 181 0, .ref 36, .none, .ref 37, .ref 38, .ref 39, .int 225 0, .int 6 0, .str "/claim/cut.py" 226], #[]⟩
def o41 : Obj := mm 2 0 "NoText.__init__" (.type "function") 3 [] .none .none .none (.str "whens.errors" 187) none (.ref 40) .none 0
def o42 : Obj := ts 228 ["row", "word"]
def o43 (P : Params) : Obj := ⟨.type "dict", none, .dict #[⟨PyData.keyHash P "__module__", .str "__module__" 214, .str "whens.errors" 187⟩, ⟨PyData.keyHash P "__firstlineno__", .str "__firstlineno__" 218, .int 4 217⟩, er P "__init__" 227 41, er P "__static_attributes__" 230 42, ⟨PyData.keyHash P "__doc__", .str "__doc__" 231, .none⟩] 2, #[]⟩
def o44 : Obj := ⟨.type "type", none, .cls { name := Str.ofString "NoText", bases := [.ref 24], mro := [.ref 44, .ref 24, .type "ValueError", .type "Exception", .type "BaseException", .type "object"], ns := 43, qualname := Str.ofString "NoText" }, #[some (.ref 28), none, some (.str "NoText" 207), some (.str "NoText" 215), some (Value.builtin "ValueError.__new__"), some (.bool true)]⟩
def o47 : Obj := tq []
def o49 : Obj := tq [.str "thing" 239]
def o50 : Obj := tq []
def o52 : Obj := c1 "is_whole" 236 10 1 47 240
def o53 : Obj := fo 4 "whens.fractions" 234 52
def o54 : Obj := tq []
def o56 : Obj := ts 246 ["one", "other"]
def o57 : Obj := tq []
def o59 : Obj := c1 "common" 243 12 2 54 248
def o60 : Obj := fo 5 "whens.fractions" 234 59
def o61 : Obj := tq []
def o63 : Obj := ts 254 ["thing", "top", "bottom"]
def o64 : Obj := tq []
def o66 : Obj := c1 "is_fraction" 251 16 1 61 257
def o67 : Obj := fo 6 "whens.fractions" 234 66
def o68 : Obj := tq []
def o70 : Obj := ts 263 ["one", "other"]
def o71 : Obj := tq []
def o73 : Obj := c1 "is_below" 260 23 2 68 265
def o74 : Obj := fo 7 "whens.fractions" 234 73
def o75 : Obj := tq []
def o78 : Obj := c0 "is_name" 276 29 1 75 279
def o79 : Obj := fo 12 "whens.tellings" 268 78
def o80 : Obj := tq []
def o82 : Obj := ts 289 ["number", "top", "bottom"]
def o83 : Obj := tq []
def o85 : Obj := c1 "shown_number" 286 35 1 80 292
def o86 : Obj := fo 15 "whens.talktexts" 282 85
def o87 : Obj := tq []
def o90 : Obj := c0 "are_figures" 295 38 2 87 298
def o91 : Obj := fo 16 "whens.talktexts" 282 90
def o92 : Obj := tq []
def o94 : Obj := ts 304 ["text", "most", "top", "slash", "bottom", "number"]
def o95 : Obj := tq []
def o97 : Obj := c1 "read_number" 301 40 2 92 310
def o98 : Obj := fo 17 "whens.talktexts" 282 97
def o99 : Obj := tq []
def o101 : Obj := ts 316 ["words", "place", "row"]
def o102 : Obj := tq []
def o104 : Obj := c1 "word_at" 313 46 3 99 319
def o105 : Obj := fo 18 "whens.talktexts" 282 104
def o106 : Obj := tq []
def o109 : Obj := c0 "put_in" 326 52 2 106 329
def o110 : Obj := fo 21 "whens.drawing" 322 109
def o111 : Obj := tq []
def o113 : Obj := ts 335 ["things", "telling", "columns", "name", "kind", "times", "time"]
def o114 : Obj := tq []
def o116 : Obj := c1 "columns_of" 332 57 2 111 342
def o117 : Obj := fo 22 "whens.drawing" 322 116
def o118 : Obj := tq []
def o120 : Obj := ts 348 ["kind", "times", "columns", "signs", "begin", "end"]
def o121 : Obj := tq []
def o123 : Obj := c1 "signs_of" 345 63 3 118 354
def o124 : Obj := fo 23 "whens.drawing" 322 123
def o125 : Obj := tq []
def o128 : Obj := c0 "drawn" 357 72 2 125 360
def o129 : Obj := fo 24 "whens.drawing" 322 128
def o130 : Obj := tq []
def o132 : Obj := ts 366 ["signs", "inner", "begin"]
def o133 : Obj := tq []
def o135 : Obj := c1 "read_signs" 363 76 1 130 369
def o136 : Obj := fo 25 "whens.drawing" 322 135
def o137 : Obj := tq []
def o139 : Obj := ts 375 ["words", "row", "ahead", "name", "signs", "places"]
def o140 : Obj := tq []
def o142 : Obj := c1 "read_thing_row" 372 84 3 137 381
def o143 : Obj := fo 26 "whens.drawing" 322 142
def o144 : Obj := tq []
def o147 : Obj := c0 "read_times" 384 95 3 144 387
def o148 : Obj := fo 27 "whens.drawing" 322 147
def o149 : Obj := tq []
def o151 : Obj := ts 393 ["lines", "ahead", "row", "line", "words"]
def o152 : Obj := tq []
def o154 : Obj := c1 "read_thing_rows" 390 106 1 149 398
def o155 : Obj := fo 28 "whens.drawing" 322 154
def o156 : Obj := tq []
def o159 : Obj := c0 "read_drawing" 401 114 1 156 404
def o160 : Obj := fo 29 "whens.drawing" 322 159
def o161 : Obj := tq []
def o163 : Obj := tq [.str "_law_script" 412]
def o164 : Obj := tq []
def o166 : Obj := c1 "_law_tape" 409 123 1 161 413
def o167 : Obj := fo 31 "law_whens_k85_drawn" 407 166
def o168 : Obj := tq []
def o170 : Obj := ts 419 ["_law_tape_here", "_law_many", "_law_found", "_law_spot", "_law_cell", "_law_mixed"]
def o171 : Obj := tq []
def o173 : Obj := c1 "_law_draw" 416 125 2 168 425
def o174 : Obj := fo 32 "law_whens_k85_drawn" 407 173
def o175 : Obj := tq []
def o177 : Obj := ts 431 ["_law_top", "_law_bottom", "_law_one", "_law_other"]
def o178 : Obj := tq []
def o180 : Obj := c1 "_law_frac" 428 141 2 175 435
def o181 : Obj := fo 33 "law_whens_k85_drawn" 407 180
def o182 : Obj := tq []
def o184 : Obj := ts 441 ["_law_one", "_law_other", "_law_left", "_law_right"]
def o185 : Obj := tq []
def o187 : Obj := c1 "_law_cmp" 438 146 2 182 445
def o188 : Obj := fo 34 "law_whens_k85_drawn" 407 187
def o189 : Obj := tq []
def o191 : Obj := ts 451 ["_law_kind", "_law_when"]
def o192 : Obj := tq []
def o194 : Obj := c1 "_law_pair" 448 150 2 189 453
def o195 : Obj := fo 35 "law_whens_k85_drawn" 407 194
def o196 : Obj := tq []
def o199 : Obj := c0 "_law_six_things" 456 152 1 196 459
def o200 : Obj := fo 36 "law_whens_k85_drawn" 407 199
def o201 : Obj := tq []
def o203 : Obj := ts 465 ["_law_tape_here", "_law_things", "_law_found", "_law_name", "_law_kind", "_law_bottom", "_law_begin", "_law_far", "_law_more"]
def o204 : Obj := tq []
def o206 : Obj := c1 "_law_far_telling" 462 158 2 201 474
def o207 : Obj := fo 37 "law_whens_k85_drawn" 407 206
def o208 : Obj := tq []
def o211 : Obj := c0 "_law_columns" 477 172 2 208 480
def o212 : Obj := fo 38 "law_whens_k85_drawn" 407 211
def o213 : Obj := tq []
def o215 : Obj := tq [.str "_law_time" 486]
def o216 : Obj := tq []
def o218 : Obj := c1 "_law_time_text" 483 180 1 213 487
def o219 : Obj := fo 39 "law_whens_k85_drawn" 407 218
def o220 : Obj := tq []
def o223 : Obj := c0 "_law_drawn" 490 182 2 220 493
def o224 : Obj := fo 40 "law_whens_k85_drawn" 407 223
def o225 : Obj := tq []
def o227 : Obj := ts 499 ["_law_one", "_law_other", "_law_first", "_law_second", "_law_rows"]
def o228 : Obj := tq []
def o230 : Obj := c1 "_law_word" 496 197 2 225 504
def o231 : Obj := fo 41 "law_whens_k85_drawn" 407 230
def o232 : Obj := tq []
def o234 : Obj := ts 510 ["_law_line", "_law_kind", "_law_signs"]
def o235 : Obj := tq []
def o237 : Obj := c1 "_law_seen" 507 210 2 232 513
def o238 : Obj := fo 42 "law_whens_k85_drawn" 407 237
def o239 : Obj := tq []
def o242 : Obj := c0 "law" 516 215 1 239 519
def o243 : Obj := fo 43 "law_whens_k85_drawn" 407 242
def tF (P : Params) : BT := (.node (boot_o_0 P) (.node (boot_o_1 P) (.node (o3 P) (.node (boot_o_7 P) (.node o15 (.node (tq []) (.node o63 (lf (mz 24)) (lf o191)) (.node o95 (lf o159) (lf o223))) (.node o47 (.node o79 (lf o143) (lf o207)) (.node o111 (lf o175) (lf o239)))) (.node (o23 P) (.node (mm 2 0 "NoText.__init__" (.none) 0 [] .none .none .none .none none .none .none 0) (.node o71 (lf o135) (lf o199)) (.node (mz 18) (lf o167) (lf o231))) (.node oz (.node o87 (lf o151) (lf o215)) (.node oz (lf oz) .nil)))) (.node (tq []) (.node oz (.node o35 (.node o67 (lf oz) (lf o195)) (.node o99 (lf o163) (lf o227))) (.node (mz 4) (.node o83 (lf o147) (lf o211)) (.node (mz 22) (lf (mz 33)) (lf o243)))) (.node (⟨.type "builtin_function_or_method", none, .fields #[Value.builtin "object.__init_subclass__", .ref 24], #[]⟩) (.node (o43 P) (.node o75 (lf o139) (lf o203)) (.node oz (lf o171) (lf o235))) (.node o59 (.node o91 (lf o155) (lf o219)) (.node o123 (lf o187) .nil))))) (.node (boot_o_5 P) (.node (boot_o_9 P) (.node (⟨.type "dict", none, .dict #[⟨PyData.keyHash P "__module__", .str "__module__" 196, .str "whens.errors" 187⟩, ⟨PyData.keyHash P "__qualname__", .str "__qualname__" 198, .str "SayError" 197⟩, ⟨PyData.keyHash P "__firstlineno__", .str "__firstlineno__" 200, .int 2 199⟩, er P "__static_attributes__" 201 22] 4, #[]⟩) (.node (⟨.type "code", none, .fields #[.str "NoText" 209, .str "NoText" 210, .str "/claim/cut.py" 211, .int 4 0, .int 0 0, .int 0 0, .int 0 0, .int 0 0, .ref 31, .bool false, .int 181 0, .ref 32, .none, .none, .none, .none, .int 212 0, .int 4 0, .str "/claim/cut.py" 213], #[]⟩) (.node (mz 6) (lf o129) (lf (mz 35))) (.node o97 (lf o161) (lf o225))) (.node o49 (.node oz (lf oz) (lf oz)) (.node o113 (lf o177) (lf (mz 43))))) (.node o25 (.node o41 (.node o73 (lf o137) (lf o201)) (.node o105 (lf oz) (lf oz))) (.node o57 (.node (mz 16) (lf (mz 28)) (lf (mz 39))) (.node o121 (lf o185) .nil)))) (.node (⟨.type "code", none, .fields #[.str "<module>" 182, .str "<module>" 183, .str "/claim/cut.py" 184, .int 1 0, .int 0 0, .int 0 0, .int 0 0, .int 0 0, .ref 11, .bool false, .int 181 0, .ref 12, .none, .none, .none, .none, .int 185 0, .int 1 0, .str "/claim/cut.py" 186], #[]⟩) (.node (⟨.type "frame", none, .plain, #[some (.ref 20), some (.ref 3), some (.ref 17), none, some (.str "whens.errors" 187), none, some (.ref 0)]⟩) (.node o37 (.node oz (lf o133) (lf oz)) (.node o101 (lf (mz 31)) (lf (mz 41)))) (.node o53 (.node o85 (lf o149) (lf o213)) (.node o117 (lf o181) .nil))) (.node (⟨.type "builtin_function_or_method", none, .fields #[Value.builtin "type.__prepare__", .type "type"], #[]⟩) (.node (⟨.type "super", none, .fields #[.ref 44, .ref 44, .ref 44], #[]⟩) (.node (mz 12) (lf (mz 26)) (lf (mz 37))) (.node o109 (lf o173) (lf o237))) (.node o61 (.node oz (lf oz) (lf oz)) (.node o125 (lf o189) .nil)))))) (.node (boot_o_2 P) (.node (boot_o_4 P) (.node (boot_o_8 P) (.node (⟨.type "builtin_function_or_method", none, .fields #[Value.builtin "type.__prepare__", .type "type"], #[]⟩) (.node (⟨.none, none, .fields #[.int 6 0, .int 4 0, .ref 40], #[]⟩) (.node o64 (lf o128) (lf o192)) (.node (mz 17) (lf o160) (lf o224))) (.node oz (.node o80 (lf o144) (lf o208)) (.node oz (lf oz) (lf oz)))) (.node o24 (.node o40 (.node (mz 7) (lf o136) (lf o200)) (.node o104 (lf o168) (lf o232))) (.node o56 (.node oz (lf o152) (lf o216)) (.node o120 (lf o184) .nil)))) (.node (⟨.none, none, .fields #[.int 2 0, .int 0 0, .ref 20, .int 4 0, .int 0 0, .ref 33, .int 10 0, .int 0 0, .ref 52, .int 12 0, .int 0 0, .ref 59, .int 16 0, .int 0 0, .ref 66, .int 23 0, .int 0 0, .ref 73, .int 29 0, .int 0 0, .ref 78, .int 35 0, .int 0 0, .ref 85, .int 38 0, .int 0 0, .ref 90, .int 40 0, .int 0 0, .ref 97, .int 46 0, .int 0 0, .ref 104, .int 52 0, .int 0 0, .ref 109, .int 57 0, .int 0 0, .ref 116, .int 63 0, .int 0 0, .ref 123, .int 72 0, .int 0 0, .ref 128, .int 76 0, .int 0 0, .ref 135, .int 84 0, .int 0 0, .ref 142, .int 95 0, .int 0 0, .ref 147, .int 106 0, .int 0 0, .ref 154, .int 114 0, .int 0 0, .ref 159, .int 123 0, .int 0 0, .ref 166, .int 125 0, .int 0 0, .ref 173, .int 141 0, .int 0 0, .ref 180, .int 146 0, .int 0 0, .ref 187, .int 150 0, .int 0 0, .ref 194, .int 152 0, .int 0 0, .ref 199, .int 158 0, .int 0 0, .ref 206, .int 172 0, .int 0 0, .ref 211, .int 180 0, .int 0 0, .ref 218, .int 182 0, .int 0 0, .ref 223, .int 197 0, .int 0 0, .ref 230, .int 210 0, .int 0 0, .ref 237, .int 215 0, .int 0 0, .ref 242], #[]⟩) (.node (⟨.type "code", none, .fields #[.str "SayError" 191, .str "SayError" 192, .str "/claim/cut.py" 193, .int 2 0, .int 0 0, .int 0 0, .int 0 0, .int 0 0, .ref 18, .bool false, .int 181 0, .ref 19, .none, .none, .none, .none, .int 194 0, .int 2 0, .str "/claim/cut.py" 195], #[]⟩) (.node oz (.node o68 (lf o132) (lf o196)) (.node oz (lf o164) (lf o228))) (.node o52 (.node (mz 15) (lf o148) (lf o212)) (.node o116 (lf o180) .nil))) (.node o28 (.node o44 (.node oz (lf o140) (lf o204)) (.node (mz 21) (lf (mz 32)) (lf (mz 42)))) (.node o60 (.node o92 (lf o156) (lf o220)) (.node o124 (lf o188) .nil))))) (.node (boot_o_6 P) (.node (boot_o_10 P) (.node (tq []) (.node (⟨.type "frame", none, .plain, #[some (.ref 33), some (.ref 3), some (.ref 30), none, some (.str "whens.errors" 187), none, some (.ref 0)]⟩) (.node o66 (lf o130) (lf o194)) (.node o98 (lf oz) (lf oz))) (.node o50 (.node o82 (lf (mz 27)) (lf (mz 38))) (.node o114 (lf o178) (lf o242)))) (.node (⟨.type "super", none, .fields #[.ref 24, .ref 24, .ref 24], #[]⟩) (.node o42 (.node o74 (lf oz) (lf oz)) (.node o106 (lf o170) (lf o234))) (.node (mz 5) (.node o90 (lf o154) (lf o218)) (.node (mz 23) (lf (mz 34)) .nil)))) (.node (⟨.type "frame", none, .plain, #[some (.ref 13), some (.ref 3), some (.ref 3), none, some (.str "__main__" 164), none, some (.ref 0)]⟩) (.node o22 (.node o38 (.node o70 (lf (mz 25)) (lf (mz 36))) (.node o102 (lf o166) (lf o230))) (.node o54 (.node o86 (lf oz) (lf oz)) (.node o118 (lf o182) .nil))) (.node (⟨.type "dict", none, .dict #[⟨PyData.keyHash P "__module__", .str "__module__" 214, .str "whens.errors" 187⟩, ⟨PyData.keyHash P "__qualname__", .str "__qualname__" 216, .str "NoText" 215⟩, ⟨PyData.keyHash P "__firstlineno__", .str "__firstlineno__" 218, .int 4 217⟩, er P "__init__" 227 41, er P "__static_attributes__" 230 42] 5, #[]⟩) (.node (⟨.type "builtin_function_or_method", none, .fields #[Value.builtin "object.__init_subclass__", .ref 44], #[]⟩) (.node o78 (lf o142) (lf o206)) (.node o110 (lf o174) (lf o238))) (.node oz (.node o94 (lf (mz 29)) (lf (mz 40))) (.node oz (lf oz) .nil)))))))
def tB (P : Params) : BT := (.node (boot_o_0 P) (.node (boot_o_1 P) (.node (boot_o_3 P) (lf (boot_o_7 P)) (lf (tq []))) (.node (boot_o_5 P) (lf (boot_o_9 P)) (lf (⟨.type "code", none, .fields #[.str "<module>" 182, .str "<module>" 183, .str "/claim/cut.py" 184, .int 1 0, .int 0 0, .int 0 0, .int 0 0, .int 0 0, .ref 11, .bool false, .int 181 0, .ref 12, .none, .none, .none, .none, .int 185 0, .int 1 0, .str "/claim/cut.py" 186], #[]⟩)))) (.node (boot_o_2 P) (.node (boot_o_4 P) (lf (boot_o_8 P)) (lf oz)) (.node (boot_o_6 P) (lf (boot_o_10 P)) (lf (⟨.type "frame", none, .plain, #[some (.ref 13), some (.ref 3), some (.ref 3), none, some (.str "__main__" 164), none, some (.ref 0)]⟩)))))
def env0 : Env := { scope := prog.main.scope, locals := mainNs, globals := mainNs, cells := [], code := .ref 13, frame := some 14 }
def stsR (a n : Nat) : List Stmt := (prog.main.body.drop a).take n
end H85
set_option maxHeartbeats 0
namespace H85
open PySem PySem.W HD
abbrev TV (t : BT) (n k : Nat) (os : OsState) : SharedT := ⟨t, n, {}, ⟨[]⟩, {}, k, os⟩
section
variable (w : World) (p : Program) (b : List Stmt) (os : OsState)
abbrev cB (b : List Stmt) : Code := Code.body b env0
theorem run1 : segRunT treeTable p w 11 (some (.ref 6)) 1 1463 (TV (tB w.params) 15 187 os) (piecesOf (stsR 0 44) env0 (cB b) q0 [topFrame q0]) = some (.next, TV (tF w.params) 244 522 os, cB b, ⟨215, 0, 235, 15⟩) := by
 refine byRow2 "special-get-raises" (P := fun w => segRunT treeTable p w 11 (some (.ref 6)) 1 1463 (TV (tB w.params) 15 187 os) (piecesOf (stsR 0 44) env0 (cB b) q0 [topFrame q0]) = some (.next, TV (tF w.params) 244 522 os, cB b, ⟨215, 0, 235, 15⟩)) (fun w => ?_) (fun w => ?_) w
 ·rw [Fast.te10110043849684766642, Fast.te14364793385576792824]; kernel_rfl
 ·rw [Fast.te10110043849684766642, Fast.te14364793385576792824]; kernel_rfl
end
abbrev bE : List Stmt := behindTheImports prog
theorem body_is : bE = stsR 0 44 ++ [] := by kernel_rfl
abbrev SB (w : World) (os : OsState) : SharedT := ⟨tB w.params, 15, {}, ⟨[]⟩, {}, 187, os⟩
section
variable (w : World) (os : OsState)
theorem top_pre : topGo treeTable prog w 11 (some (.ref 6)) 12 ⟨boot_heap w.params, ⟨[]⟩, boot_drawn, boot_toks, os⟩ (topStub prog) = some ((SB w os).abs, ⟨denote treeTable (.body bE env0), .body bE env0, q0, [topFrame q0]⟩) := by
 rw [Fast.te15667345088766844465, Fast.te11892475500146522536, Fast.te14364793385576792824]; kernel_rfl
theorem top_block : segRun treeTable prog w 11 (some (.ref 6)) 1 1 (SB w os).abs (blockOf bE env0 (.body bE env0) q0 [topFrame q0]) = some (.next, (SB w os).abs, .body bE env0, q0) := by
 kernel_rfl
theorem top_fin (b : List Stmt) : topRun treeTable prog w 11 (some (.ref 6)) 2 (TV (tF w.params) 244 522 os).abs ⟨doneF .next, cB b, ⟨215, 0, 235, 15⟩, [topFrame q0]⟩ = some (TV (tF w.params) 244 522 os).abs := by
 kernel_rfl
theorem top_rest (b : List Stmt) : topRun treeTable prog w 11 (some (.ref 6)) (1463 + 2) (TV (tB w.params) 15 187 os).abs (restOf (stsR 0 44 ++ []) env0 (.body b env0) q0 [topFrame q0]) = some (TV (tF w.params) 244 522 os).abs := by
 exact piece_app (segRun_of (run1 w prog b os)) (piece_nil (top_fin w os b))
def H1 (P : Params) : Heap := absHeap (tF P) 244 {}
theorem top_run : topRun treeTable prog w 11 (some (.ref 6)) (12 + (1 + ((1463 + 2)))) ⟨boot_heap w.params, ⟨[]⟩, boot_drawn, boot_toks, os⟩ (topStub prog) = some ⟨H1 w.params, ⟨[]⟩, {}, 522, os⟩ := by
 refine go_top (top_pre w os) (piece_block (top_block w os) ?_); rw [body_is]; exact top_rest w os _
end
def qv : Program := view prog [1, 2, 4, 5, 6, 7, 9, 10, 11, 12, 14, 15, 16, 17, 18, 20, 21, 22, 23, 24, 25, 26, 27, 28, 29, 31, 32, 33, 34, 35, 36, 37, 38, 39, 40, 41, 42, 43]
def lo : List Str := []
abbrev lw : OpenLaw := PySem.Challenge.rw_whens_k85_drawn
abbrev XT : Shared → Bool := fun s => xlAt qv [] s && recOk (RowW.records lw.row.toRowW) s
theorem left_open (N : Nat) (h : Nat.ble 600 N = true) : ∀ w : World, (fencedOpening treeTable prog w N).map (fun s => (s.heap, s.gens, s.drawn, s.toks)) = some (boot_heap w.params, ⟨[]⟩, boot_drawn, boot_toks) := boot_open (by kernel_rfl) h (fun _ => rfl)
theorem left_size (w : World) : ((boot_heap w.params).isNs mainGlobals && (⟨[]⟩ : Array GenState).size == 0, (boot_heap w.params).objs.size, (boot_heap w.params).nsMap mainGlobals "__annotations__") = (true, 11, some (.ref 6)) := by kernel_rfl
theorem look1 (w : World) (os : OsState) : (staticsOk (importedModules prog.main.body) (boot_heap w.params) (H1 w.params) && namesBound prog (H1 w.params) && gensDone ⟨H1 w.params, ⟨[]⟩, {}, 522, os⟩ && laidKept (boot_heap w.params) (H1 w.params)) = true := by kernel_rfl
theorem look2 (w : World) (os : OsState) : openSeen qv lo (importedModules prog.main.body) XT true ⟨H1 w.params, ⟨[]⟩, {}, 522, os⟩ = openGood qv lo := by
 rw [Fast.te4187177175401517315]; kernel_rfl
theorem left (H : Hook) (hH : ∀ (w : World) (os : OsState), H.obs ⟨H1 w.params, ⟨[]⟩, {}, 522, os⟩ = H.val w) : LeftO prog qv lo XT H.obs H.val 3950 :=
 LeftO.of_pieces (H₀ := boot_heap) (H₁ := H1) (gs₀ := ⟨[]⟩) (gs₁ := ⟨[]⟩) (d₀ := boot_drawn) (d₁ := {}) (k₀ := boot_toks) (k₁ := 522) (m₀ := 11) (ann := some (.ref 6)) (M := 1478) (left_open 3950 (by decide)) left_size top_run (by decide) fun w => funext fun os => by rw [look1 w os, look2 w os, hH w os]
theorem head {H : Hook} {d : DefRec} {kwd : List (Str × Expr)} (hH : ∀ (w : World) (os : OsState), H.obs ⟨H1 w.params, ⟨[]⟩, {}, 522, os⟩ = H.val w) (k1 : lw.row.wellSaid = true) (hdef : defOf qv lw.row.name = some (d, kwd)) (hp : lw.row.prog.theDef lw.row.name = some (d.params, d.body, d.scope)) (hk : kwWritten? d.params.kwonlyargs d.params.kw_defaults = some kwd)
  (hw : lw.row.toRowW.promised) (call : WalkO qv lo (XL qv []) H.says lw.row.toRowW d kwd fun f vs => PySem.call f vs) : lw.row.Holds :=
 holds_open (q := qv) (loose := lo) (Xt := XT) (XP := XL qv []) (Yf := H.obs) (Ya := H.val) (YP := H.says) (N := 3950) (left H hH) (Hook.of H) (Hook.keeps H) (fun s e => xl_of s (Bool.and_eq_true_iff.mp e).1) XL.keeps hdef hp hk (fun s e => recFacts_of (Bool.and_eq_true_iff.mp e).2) (by rfl) k1 (by decide +kernel) ⟨rfl, rfl, rfl, rfl, rfl, by decide +kernel⟩ hw call
end H85
namespace K85
open PySem PySem.Spec PyProof.Rows L2 DL
def kk (P : Params) : PySem.W.Frag := [(3, H85.o3 P), (52, H85.o52), (53, H85.o53), (59, H85.o59), (60, H85.o60), (66, H85.o66), (67, H85.o67), (73, H85.o73), (74, H85.o74), (78, H85.o78), (79, H85.o79), (85, H85.o85), (86, H85.o86), (90, H85.o90), (91, H85.o91), (97, H85.o97), (98, H85.o98), (104, H85.o104), (105, H85.o105), (109, H85.o109), (110, H85.o110), (116, H85.o116), (117, H85.o117), (123, H85.o123), (124, H85.o124), (128, H85.o128), (129, H85.o129), (135, H85.o135), (136, H85.o136), (142, H85.o142), (143, H85.o143), (147, H85.o147), (148, H85.o148), (154, H85.o154), (155, H85.o155), (159, H85.o159), (160, H85.o160), (166, H85.o166), (167, H85.o167), (173, H85.o173), (174, H85.o174), (180, H85.o180), (181, H85.o181), (187, H85.o187), (188, H85.o188), (194, H85.o194), (195, H85.o195), (199, H85.o199), (200, H85.o200), (206, H85.o206), (207, H85.o207), (211, H85.o211), (212, H85.o212), (218, H85.o218), (219, H85.o219), (223, H85.o223), (224, H85.o224), (230, H85.o230), (231, H85.o231), (237, H85.o237), (238, H85.o238), (242, H85.o242), (243, H85.o243)]
section
variable {w : World}
variable {P : Program} {mg : Str → Option Value} {base : Heap} (E : En kk P w mg base)
include E
theorem M_LONGEST_NAME : mg "LONGEST_NAME" = some (.int (8) 272) := E.m (by kernel_rfl)
theorem M_LETTERS : mg "LETTERS" = some (.str "abcdefghijklmnopqrstuvwxyz" 270) := E.m (by kernel_rfl)
theorem M_FIGURES : mg "FIGURES" = some (.str "0123456789" 284) := E.m (by kernel_rfl)
theorem M_MOST_THINGS : mg "MOST_THINGS" = some (.int (6) 274) := E.m (by kernel_rfl)
theorem M_MOST_TIME_FIGURES : mg "MOST_TIME_FIGURES" = some (.int (200) 324) := E.m (by kernel_rfl)
local macro_rules | `(tactic| decreasing_trivial) => `(tactic| (intro _ _ _ _ _ _ _ _; repeat' first | (show QE _ _ _; first | refine qle_frz ?_ | (show QE _ (.Name _ _) _; first | exact qle_var _ | exact qle_gint rfl (M_LONGEST_NAME (by assumption)) | exact qle_gstr rfl (M_LETTERS (by assumption)) | exact qle_gstr rfl (M_FIGURES (by assumption)) | exact qle_gint rfl (M_MOST_THINGS (by assumption)) | exact qle_gint rfl (M_MOST_TIME_FIGURES (by assumption))) | (show QE _ (.Constant _ _ _) _; first | exact qle_int | exact qle_str | exact qle_bl | exact qle_non) | (show QE _ (.Call _ _ _ _) _; first | refine qcc (by assumption) (by assumption) ?_ | (show QE _ (.Call (.Name "len" _) _ _ _) _; refine qle_callB cd_len rfl (En.z (by assumption) (by kernel_rfl)) boot_len_ ?_) | refine qle_app ?_ ?_ | (show QE _ (.Call (.Name "tuple" _) _ _ _) _; refine qle_callTy cd_tuple rfl (En.z (by assumption) (by kernel_rfl)) boot_tuple_ ?_) | refine qle_idxD (Room.u100 (by assumption)) ?_ ?_ | (show QE _ (.Call (.Name "list" _) _ _ _) _; refine qle_callTy cd_list rfl (En.z (by assumption) (by kernel_rfl)) boot_list_ ?_) | (show QE _ (.Call (.Name "int" _) _ _ _) _; first | refine qle_callTy cd_int rfl (En.z (by assumption) (by kernel_rfl)) boot_int_ ?_ | refine qle_callTy cd_intT rfl (En.z (by assumption) (by kernel_rfl)) boot_int_ ?_) | (show QE _ (.Call (.Name "str" _) _ _ _) _; refine qle_callTy cd_str rfl (En.z (by assumption) (by kernel_rfl)) boot_str_ ?_) | refine qle_sidx ?_ ?_ | (show QE _ (.Call (.Name "repr" _) _ _ _) _; first | refine qle_callB (cd_repr (Room.u200 (by assumption)) (Room.gd (by assumption))) rfl (En.z (by assumption) (by kernel_rfl)) boot_repr_ ?_ | refine qle_callB (cd_reprC (Room.u200 (by assumption)) (Room.gd (by assumption))) rfl (En.z (by assumption) (by kernel_rfl)) boot_repr_ ?_) | (show QE _ (.Call (.Name "abs" _) _ _ _) _; refine qle_callB cd_abs rfl (En.z (by assumption) (by kernel_rfl)) boot_abs_ ?_) | (show QE _ (.Call (.Name "all" _) _ _ _) _; refine qle_callB (cd_all rfl) rfl (En.z (by assumption) (by kernel_rfl)) boot_all_ ?_) | refine qle_join ?_ | refine qle_split ?_ ?_ | (show QE _ (.Call (.Name "isinstance" _) _ _ _) _; first | refine qle_isi rfl (En.z (by assumption) (by kernel_rfl)) rfl (En.z (by assumption) (by kernel_rfl)) boot_int_ (Or.inl rfl) ?_ | refine qle_isi rfl (En.z (by assumption) (by kernel_rfl)) rfl (En.z (by assumption) (by kernel_rfl)) boot_bool_ (Or.inr (Or.inl rfl)) ?_ | refine qle_isi rfl (En.z (by assumption) (by kernel_rfl)) rfl (En.z (by assumption) (by kernel_rfl)) boot_tuple_ (Or.inr (Or.inr (Or.inr (Or.inl rfl)))) ?_ | refine qle_isi rfl (En.z (by assumption) (by kernel_rfl)) rfl (En.z (by assumption) (by kernel_rfl)) boot_str_ (Or.inr (Or.inr (Or.inl rfl))) ?_) | refine qle_partn ?_ ?_ | refine qle_strM sm_rempre ?_ ?_ | refine qle_strM sm_strip ?_ ?_ | refine qle_strM sm_lstrip ?_ ?_ | refine qle_ins ?_ ?_ ?_) | refine qle_ix ?_ ?_ | refine qle_slX ?_ ?_ ?_ | (show QE _ (.BinOp _ _ _ _) _; first | (show QE _ (.BinOp _ .Add _ _) (DL.LE _ (dBin aAdd _ _)); refine qle_bin od_add ?_ ?_) | (show QE _ (.BinOp _ .Mult _ _) (DL.LE _ (dBin aMul _ _)); refine qle_bin od_mul ?_ ?_) | (show QE _ (.BinOp _ .Mod _ _) (DL.LE _ (dBin aMod _ _)); refine qle_bin od_mod ?_ ?_) | (show QE _ (.BinOp _ .Sub _ _) (DL.LE _ (dBin aSub _ _)); refine qle_bin od_sub ?_ ?_) | (show QE _ (.BinOp _ .FloorDiv _ _) (DL.LE _ (dBin aDiv _ _)); refine qle_bin od_div ?_ ?_) | (show QE _ (.BinOp _ .Mult _ _) (DL.LE _ (dBin aMulN _ _)); refine qle_bin od_mulN ?_ ?_) | (show QE _ (.BinOp _ .Mult _ _) (DL.LE _ (dBin aMulC _ _)); refine qle_bin od_mulC ?_ ?_) | (show QE _ (.BinOp _ .Add _ _) (DL.LE _ (dBin aAddN _ _)); refine qle_bin od_addN ?_ ?_) | (show QE _ (.BinOp _ .Mult _ _) (DL.LE _ (dBin aMulS _ _)); refine qle_bin od_mulS ?_ ?_) | (show QE _ (.BinOp _ .Pow _ _) (DL.LE _ (dBin aPow _ _)); refine qle_bin od_pow ?_ ?_)) | refine qle_lst ?_ | refine qle_lstC ?_ | refine qle_tup ?_ | refine qle_ite ?_ ?_ ?_ | (show QE _ (.Compare _ _ _ _) _; first | (show QE _ (.Compare _ [.Eq] _ _) (DL.LE _ (dBin aEq _ _)); refine qle_cmp (od_eq (Room.u100 (by assumption))) ?_ ?_) | (show QE _ (.Compare _ [.Lt] _ _) (DL.LE _ (dBin aLt _ _)); refine qle_cmp od_lt ?_ ?_) | (show QE _ (.Compare _ [.In] _ _) (DL.LE _ (dBin aInS _ _)); refine qle_cmp od_inS ?_ ?_ (hm := by with_unfolding_all rfl)) | (show QE _ (.Compare _ [.GtE] _ _) (DL.LE _ (dBin aGe _ _)); refine qle_cmp od_ge ?_ ?_) | refine qle_chain od_le od_le ?_ ?_ ?_ | (show QE _ (.Compare _ [.Gt] _ _) (DL.LE _ (dBin aGt _ _)); refine qle_cmp od_gt ?_ ?_)) | refine qle_lcB rfl ?_ (fun _ _ _ _ _ _ => ?_) (fun _ _ _ _ _ _ => ?_) (fun _ _ _ _ _ _ => ?_) | refine qle_lcRB _ rfl (fun _ _ _ _ _ _ => ?_) (fun _ _ _ _ _ _ => ?_) (fun _ _ _ _ _ _ => ?_) | refine qle_one ?_ | refine qle_and ?_ ?_ | refine qle_neg ?_ | refine qle_not ?_ | refine qle_fv ?_ | refine qle_js ?_ | refine qle_js1 ?_) | (show QA _ _ _; first | refine qla_cons ?_ ?_ | exact qla_nil) | (show QSs _ _ _; first | refine qlss_cons ?_ ?_ | exact qlss_nil) | (show QS _ _ _; first | refine qls_set _ (by first | assumption | exact nd_of (by kernel_rfl)) ?_ | refine qls_ret ?_ | refine qls_if ?_ ?_ ?_ | refine qls_for PassesOwn.never rfl ?_ ?_ ?_ | exact qls_never | refine qls_expr ?_ | refine qls_asg ?_ ?_ | refine qls_par _ _ rfl (by first | assumption | exact nd_of (by kernel_rfl)) ?_ | refine qls_lcB _ rfl (by first | assumption | exact nd_of (by kernel_rfl)) ?_ (fun _ _ _ _ _ _ => ?_) (fun _ _ _ _ _ _ => ?_) (fun _ _ _ _ _ _ => ?_) | refine qls_put ?_ ?_ ?_ | refine qls_while PassesOwn.never ?_ ?_ | refine qls_slp ?_ ?_ ?_ ?_ | refine qls_lc2B _ rfl (by first | assumption | exact nd_of (by kernel_rfl)) ?_ (fun _ _ _ _ _ _ => ?_) (fun _ _ _ _ _ _ => ?_) (fun _ _ _ _ _ _ => ?_) (fun _ _ _ _ _ _ => ?_) (fun _ _ _ _ _ _ => ?_) (fun _ _ _ _ _ _ => ?_)) | (show QT _ _ _; first | (show QT _ (.Compare _ _ _ _) _; first | (show QT _ (.Compare _ [.Eq] _ _) (DL.LT _ (dTst (dBin aEq _ _))); refine qlt_cmp (od_eq (Room.u100 (by assumption))) ?_ ?_) | (show QT _ (.Compare _ [.NotEq] _ _) (DL.LT _ (dTst (dBin aNe _ _))); refine qlt_cmp (od_ne (Room.u100 (by assumption))) ?_ ?_) | (show QT _ (.Compare _ [.Lt] _ _) (DL.LT _ (dTst (dBin aLt _ _))); refine qlt_cmp od_lt ?_ ?_) | (show QT _ (.Compare _ [.Gt] _ _) (DL.LT _ (dTst (dBin aGt _ _))); refine qlt_cmp od_gt ?_ ?_) | (show QT _ (.Compare _ [.NotEq] _ _) (DL.LT _ (dTst (dBin aNeX _ _))); refine qlt_cmp (od_neX (Room.u100 (by assumption))) ?_ ?_) | (show QT _ (.Compare _ [.GtE] _ _) (DL.LT _ (dTst (dBin aGe _ _))); refine qlt_cmp od_ge ?_ ?_) | (show QT _ (.Compare _ [.Is] _ _) (DL.LT _ (dTst (dBin aIsN _ _))); refine qlt_cmp od_isN ?_ ?_) | refine qlt_chain od_le od_le ?_ ?_ ?_ | (show QT _ (.Compare _ [.In] _ _) (DL.LT _ (dTst (dBin aInD _ _))); refine qlt_cmp (od_inD (Room.u100 (by assumption))) ?_ ?_ (hm := by with_unfolding_all rfl)) | (show QT _ (.Compare _ [.LtE] _ _) (DL.LT _ (dTst (dBin aLeS _ _))); refine qlt_cmp od_leS ?_ ?_) | (show QT _ (.Compare _ [.NotIn] _ _) (DL.LT _ (dTst (dBin aNotIn _ _))); refine qlt_cmp od_notin ?_ ?_ (hm := by with_unfolding_all rfl))) | refine qlt_not ?_ | refine qlt_val ?_ | refine QW.pt (qlw_or ?_ ?_) | refine QW.pt (qlw_and ?_ ?_)) | (show QG _ _ _; first | exact qlg_name _ (by first | assumption | exact nd_of (by kernel_rfl)) | refine qlg_tup rfl ?_) | (show QGs _ _ _; first | refine qlgs_cons ?_ ?_ | exact qlgs_nil) | refine qli_seq ?_ | (show QI _ _ (.Call (.Name "range" _) _ _ _) _; refine qli_range rfl (En.z (by assumption) (by kernel_rfl)) ?_) | (show QI _ _ (.Call (.Name "zip" _) _ _ _) _; refine qli_zip rfl (En.z (by assumption) (by kernel_rfl)) ?_ ?_) | refine qli_str ?_ | (show QI _ _ (.Call (.Name "enumerate" _) _ _ _) _; refine qli_enum rfl (En.z (by assumption) (by kernel_rfl)) ?_) | (show QW _ _ _; first | (show QW _ (.BoolOp _ _ _) _; first | refine qlw_or1 ?_ | refine qlw_and1 ?_ | refine qlw_or ?_ ?_)) | refine qle_frzT ?_ | exact qpf_nil | refine qpf_one ?_ | refine qle_joinX ?_ | refine qle_tupC ?_ | (show QE _ (.Call (.Name "isinstance" _) _ _ _) _; refine qle_isiX rfl (En.z (by assumption) (by kernel_rfl)) rfl (En.z (by assumption) (by kernel_rfl)) boot_list_ (Or.inr (Or.inr (Or.inr (Or.inr rfl)))) ?_) | (show QJ _ _ _; first | refine qlj_cons ?_ ?_ | exact qlj_nil) | (show QO _ _ _; first | refine qlo_some ?_ | exact qlo_none)))
theorem ok__law_tape : Cal P w (kk w.params) mg base "_law_tape" s__law_tape 167 p__law_tape 1 sp__law_tape := calE E vc__law_tape (by decreasing_trivial)
theorem ok__law_draw : Cal P w (kk w.params) mg base "_law_draw" s__law_draw 174 p__law_draw 1 sp__law_draw := calE E vc__law_draw (by decreasing_trivial)
theorem ok__law_six_things : Cal P w (kk w.params) mg base "_law_six_things" s__law_six_things 200 p__law_six_things 2 sp__law_six_things := calE E vc__law_six_things (by have := ok__law_draw E; decreasing_trivial)
theorem ok__law_frac : Cal P w (kk w.params) mg base "_law_frac" s__law_frac 181 p__law_frac 1 sp__law_frac := calE E vc__law_frac (by decreasing_trivial)
theorem ok__law_far_telling : Cal P w (kk w.params) mg base "_law_far_telling" s__law_far_telling 207 p__law_far_telling 2 sp__law_far_telling := calE E vc__law_far_telling (by have := ok__law_draw E; have := ok__law_frac E; decreasing_trivial)
theorem ok__law_cmp : Cal P w (kk w.params) mg base "_law_cmp" s__law_cmp 188 p__law_cmp 1 sp__law_cmp := calE E vc__law_cmp (by decreasing_trivial)
theorem ok__law_columns : Cal P w (kk w.params) mg base "_law_columns" s__law_columns 212 p__law_columns 2 sp__law_columns := calE E vc__law_columns (by have := ok__law_cmp E; decreasing_trivial)
theorem ok__law_pair : Cal P w (kk w.params) mg base "_law_pair" s__law_pair 195 p__law_pair 1 sp__law_pair := calE E vc__law_pair (by decreasing_trivial)
theorem ok__law_time_text : Cal P w (kk w.params) mg base "_law_time_text" s__law_time_text 219 p__law_time_text 1 sp__law_time_text := calE E vc__law_time_text (by decreasing_trivial)
theorem ok__law_drawn : Cal P w (kk w.params) mg base "_law_drawn" s__law_drawn 224 p__law_drawn 3 sp__law_drawn := calE E vc__law_drawn (by have := ok__law_columns E; have := ok__law_pair E; have := ok__law_cmp E; have := ok__law_time_text E; decreasing_trivial)
theorem ok_is_below : Cal P w (kk w.params) mg base "is_below" s_is_below 74 p_is_below 1 sp_is_below := calE E vc_is_below (by decreasing_trivial)
theorem ok_put_in : Cal P w (kk w.params) mg base "put_in" s_put_in 110 p_put_in 2 sp_put_in := calE E vc_put_in (by have := ok_is_below E; decreasing_trivial)
theorem ok_columns_of : Cal P w (kk w.params) mg base "columns_of" s_columns_of 117 p_columns_of 3 sp_columns_of := calE E vc_columns_of (by have := ok_put_in E; decreasing_trivial)
theorem ok_signs_of : Cal P w (kk w.params) mg base "signs_of" s_signs_of 124 p_signs_of 1 sp_signs_of := calE E vc_signs_of (by decreasing_trivial)
theorem ok_shown_number : Cal P w (kk w.params) mg base "shown_number" s_shown_number 86 p_shown_number 1 sp_shown_number := calE E vc_shown_number (by decreasing_trivial)
theorem ok_drawn : Cal P w (kk w.params) mg base "drawn" s_drawn 129 p_drawn 4 sp_drawn := calE E vc_drawn (by have := ok_columns_of E; have := ok_signs_of E; have := ok_shown_number E; decreasing_trivial)
theorem ok_is_name : Cal P w (kk w.params) mg base "is_name" s_is_name 79 p_is_name 1 sp_is_name := calE E vc_is_name (by decreasing_trivial)
theorem ok_word_at : Cal P w (kk w.params) mg base "word_at" s_word_at 105 p_word_at 1 sp_word_at := calE E vc_word_at (by decreasing_trivial)
theorem ok_read_signs : Cal P w (kk w.params) mg base "read_signs" s_read_signs 136 p_read_signs 1 sp_read_signs := calE E vc_read_signs (by decreasing_trivial)
theorem ok_read_thing_row : Cal P w (kk w.params) mg base "read_thing_row" s_read_thing_row 143 p_read_thing_row 2 sp_read_thing_row := calE E vc_read_thing_row (by have := ok_is_name E; have := ok_word_at E; have := ok_read_signs E; decreasing_trivial)
theorem ok_read_thing_rows : Cal P w (kk w.params) mg base "read_thing_rows" s_read_thing_rows 155 p_read_thing_rows 3 sp_read_thing_rows := calE E vc_read_thing_rows (by have := ok_read_thing_row E; decreasing_trivial)
theorem ok_are_figures : Cal P w (kk w.params) mg base "are_figures" s_are_figures 91 p_are_figures 1 sp_are_figures := calE E vc_are_figures (by decreasing_trivial)
theorem ok_is_whole : Cal P w (kk w.params) mg base "is_whole" s_is_whole 53 p_is_whole 1 sp_is_whole := calE E vc_is_whole (by decreasing_trivial)
theorem ok_common : Cal P w (kk w.params) mg base "common" s_common 60 p_common 1 sp_common := calE E vc_common (by decreasing_trivial)
theorem ok_is_fraction : Cal P w (kk w.params) mg base "is_fraction" s_is_fraction 67 p_is_fraction 2 sp_is_fraction := calE E vc_is_fraction (by have := ok_is_whole E; have := ok_common E; decreasing_trivial)
theorem ok_read_number : Cal P w (kk w.params) mg base "read_number" s_read_number 98 p_read_number 3 sp_read_number := calE E vc_read_number (by have := ok_are_figures E; have := ok_is_fraction E; have := ok_shown_number E; decreasing_trivial)
theorem ok_read_times : Cal P w (kk w.params) mg base "read_times" s_read_times 148 p_read_times 4 sp_read_times := calE E vc_read_times (by have := ok_read_number E; have := ok_word_at E; have := ok_is_below E; decreasing_trivial)
theorem ok_read_drawing : Cal P w (kk w.params) mg base "read_drawing" s_read_drawing 160 p_read_drawing 5 sp_read_drawing := calE E vc_read_drawing (by have := ok_read_thing_rows E; have := ok_read_times E; decreasing_trivial)
theorem ok__law_seen : Cal P w (kk w.params) mg base "_law_seen" s__law_seen 238 p__law_seen 1 sp__law_seen := calE E vc__law_seen (by decreasing_trivial)
theorem ok__law_word : Cal P w (kk w.params) mg base "_law_word" s__law_word 231 p__law_word 2 sp__law_word := calE E vc__law_word (by have := ok__law_pair E; have := ok__law_cmp E; decreasing_trivial)
theorem ok_law : Cal P w (kk w.params) mg base "law" s_law 243 p_law 6 sp_law := calE E vc_law (by have := ok__law_tape E; have := ok__law_six_things E; have := ok__law_far_telling E; have := ok__law_drawn E; have := ok_drawn E; have := ok_read_drawing E; have := ok__law_seen E; have := ok__law_word E; decreasing_trivial)
end
theorem fin {P : Program} {w : World} {mg : Str → Option Value} {fa : Addr} {h : Heap} (X : (kk w.params).In h) (G : h.Ns mainGlobals mg) (hfa : mg "law" = some (.ref fa)) :
  ∃ fd : FuncData, (∀ (s : Shared) (v : Value), BindsTo s fd ⟨[v], []⟩ [("_law_script", v)]) ∧ ∀ base : Heap, (kk w.params).In base → base.Ns mainGlobals mg → FnOk P w (kk w.params) mg base CX0 6 fa fd ["_law_script"] (LSp (kk w.params) 1 sp_law) :=
 law_ex (En.d (kk := kk) (P := P) (base := h) ⟨h, X, G⟩ (di (by kernel_rfl) rfl (by kernel_rfl) (by kernel_rfl))) hfa (fun _ _ _ _ _ _ => us_1 (by intros; rfl)) fun base => ok_law ⟨h, X, G⟩
theorem walk {l : PySem.W.OpenLaw} {q : Program} {loose : List Str} {XP : (Str → Option Value) → Heap → Prop} {YP : World → Heap → Prop} {d : DefRec} {K : Params → PySem.W.Frag} (hn : l.most = some 63) (hdf : d.params.defaults = [])
  (hY : ∀ (w : World) (h : Heap), YP w h → (K w.params).In h)
  (F : ∀ (w : World) (mg : Str → Option Value) (fa : Addr) (h : Heap), (K w.params).In h → h.Ns mainGlobals mg → mg d.name = some (.ref fa) →
   ∃ fd : FuncData, (∀ (s : Shared) (u : Value), BindsTo s fd ⟨[u], []⟩ [("_law_script", u)]) ∧ ∀ base : Heap, (K w.params).In base → base.Ns mainGlobals mg → FnOk l.prog w (K w.params) mg base CX0 6 fa fd ["_law_script"] (LSp (K w.params) 1 sp_law)) :
  PySem.W.WalkO q loose XP YP l.row.toRowW d [] (fun f vs => PySem.call f vs) :=
 L2.walk_of (n := 63) (k := 6) (x := "_law_script") (CX := fun _ => CX0) (sp := fun w => LSp (K w.params) 1 sp_law) hn (by decide) hdf ⟨rfl, rfl, by decide, by decide⟩ hY F (fun _ _ a ns hl _ hS => lsp_law hS ⟨ns, rfl, hl, fun _ => rfl⟩) fun _ _ _ _ _ z => z
end K85
open PySem PySem.W PyProof.Rows
set_option maxRecDepth 100000 in
set_option maxHeartbeats 0 in
theorem PySem.Challenge.cw_whens_k85_drawn_holds : PySem.Challenge.rw_whens_k85_drawn.Holds := by
 w_on; refine PySem.W.holds_law (by kernel_rfl) fun said => ?_; refine H85.head (H := kHook K85.kk [3, 52, 53, 59, 60, 66, 67, 73, 74, 78, 79, 85, 86, 90, 91, 97, 98, 104, 105, 109, 110, 116, 117, 123, 124, 128, 129, 135, 136, 142, 143, 147, 148, 154, 155, 159, 160, 166, 167, 173, 174, 180, 181, 187, 188, 194, 195, 199, 200, 206, 207, 211, 212, 218, 219, 223, 224, 230, 231, 237, 238, 242, 243] (fun _ => by kernel_rfl)) (fun w os => by kernel_rfl) (by assumption) (by rfl) (by rfl) (by rfl) ?hw ?hc; (case hw => w_witness2)
 k_fill
 refine K85.walk (l := PySem.Challenge.rw_whens_k85_drawn) rfl rfl (fun w h Y => PySem.W.kIn_of Y) ?F
 case F =>
  exact fun w mg fa h KX G hmg => K85.fin KX G hmg
#print axioms PySem.Challenge.cw_whens_k85_drawn_holds
