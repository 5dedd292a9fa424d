import PyProof.Rows.All
import Wide.All
import OpenK.AllK
import Wide.FinOn
import Lean
import PyProof.EqAt
import PyProof.EqKinds
import PyProof.TupleCall
import PyProof.StationsW
import PyProof.InstStore
import PyProof.ExcArgsOwn
import PyProof.ExcAttrAll.ValueError
import PyProof.ListMulRoad
import KE.KRevIter
import PyProof.ZipIter
import PyProof.TupleIter
import PyProof.Rows.SortWalk
import PyProof.Rows.SortStr
import PyProof.Rows.StrWeight2
import PyProof.ConsumeWalk
import PyProof.SliceStr2
import PyProof.ListRange
import PyProof.TupleOfSeq
import PyProof.P3In
import PyProof.AttrMissHeap
import KE.KDictOf
import PyProof.StrBlockI
import PyProof.WalksEnum
import PyProof.EnumMake
import PyProof.DictWalks
import PyProof.SetRoads
import PyProof.SetNew
import PyProof.Rows.SetFrom
import PyProof.CollectWalk
import PyProof.StrWalks
import PyProof.FString5
import PyProof.Rows.SortShell
import PyProof.SeqI3
import PyProof.SliceList
import KE.KSortTup
import PyProof.FactsAll.dict_values
import PyProof.DictItemsLoops
import PyProof.StrBlock
import PyProof.StrBlock2
import PyProof.StrBlockG
import PyProof.StrBlockL
import PyProof.MeetsStr3
import PyProof.Rows.StrNews2
import KE.KIntText
import PyProof.FString
import PyProof.AutoListH
import PyProof.ExcInit
import PyProof.ExcClass3
import PyProof.ExcBaseAll.ValueError
import PyProof.NsDelKeeps
import PyProof.PassesOwn
import Open.Tops
import PyProof.DictDisplay
import PyProof.Rows.TupDisplay
import PySem.Challenge.RW_whens_k97_refusals_apart
local macro_rules(kind:=Lean.Parser.Command.declaration)
|x=>if x[0][4].getNumArgs==0&&x[1][1][0].getId != `lw&&(x[1].isOfKind ``Lean.Parser.Command.definition||x[1].isOfKind ``Lean.Parser.Command.abbrev)then pure (x.setArg 0 (x[0].setArg 4 (Lean.mkNullNode #[Lean.mkNode ``Lean.Parser.Command.noncomputable #[Lean.mkAtom "noncomputable"]])))else Lean.Macro.throwUnsupported
set_option Elab.async false
set_option linter.all false
set_option maxRecDepth 100000
set_option maxHeartbeats 4000000
set_option Elab.async false
set_option linter.all false
set_option maxRecDepth 100000
namespace L2
open PySem PySem.Spec PyProof.Rows
noncomputable instance decPy : DecidableEq PyData := fun _ _ => Classical.propDecidable _
mutual
/-- what may stand in a key: ints, texts, tuples of these -/
def isK : PyData → Bool
  | .int _ => true
  | .str x => PyData.strOk x
  | .tuple xs => isKs xs
  | .none | .bool _ | .list _ | .dict _ => false
def isKs : List PyData → Bool
  | [] => true
  | x :: xs => isK x && isKs xs
end
mutual
def hashK (w : World) : PyData → Int
  | .int i => hashInt i
  | .str x => hashStr w x
  | .tuple xs => reduceHash (Builtin.Tuple.tupleHashOf (hashKs w xs))
  | .none | .bool _ | .list _ | .dict _ => 0
def hashKs (w : World) : List PyData → List Int
  | [] => []
  | x :: xs => hashK w x :: hashKs w xs
end
mutual
def drawsK : PyData → Nat
  | .int _ | .str _ => 1
  | .tuple xs => drawsKs xs + 1
  | .none | .bool _ | .list _ | .dict _ => 0
def drawsKs : List PyData → Nat
  | [] => 0
  | x :: xs => drawsK x + drawsKs xs
end
mutual
theorem isK_lay : ∀ p : PyData, isK p = true → p.canLay0 = true
  | .int _, _ => rfl
  | .str _, h => h
  | .tuple xs, h => isKs_lay xs h
  | .none, h | .bool _, h | .list _, h | .dict _, h => by simp [isK] at h
theorem isKs_lay : ∀ ps : List PyData, isKs ps = true → PyData.canLayAll0 ps = true
  | [], _ => rfl
  | x :: xs, h => by
    simp only [isKs, Bool.and_eq_true] at h
    simp only [PyData.canLayAll0, isK_lay x h.1, isKs_lay xs h.2, Bool.and_self]
end
mutual
theorem isK_eqv : ∀ p q : PyData, isK p = true → isK q = true → p.eqv q = decide (p = q)
  | .int i, .int j, _, _ => by
    simp only [PyData.eqv, PyData.int.injEq]
    exact Bool.eq_iff_iff.mpr (by simp)
  | .str x, .str y, _, _ => by
    simp only [PyData.eqv, PyData.str.injEq]
    exact Bool.eq_iff_iff.mpr (by simp)
  | .tuple xs, .tuple ys, h, h' => by
    have e := isKs_eqv xs ys h h'
    simp only [PyData.eqv, PyData.tuple.injEq]
    exact e
  | .int i, .str y, _, _ | .str y, .int i, _, _ | .int i, .tuple y, _, _ | .tuple y, .int i, _, _ | .str i, .tuple y, _, _ | .tuple y, .str i, _, _ => by
    simp only [PyData.eqv]
    exact (decide_eq_false (fun e => nomatch e)).symm
  | .none, _, h, _ | .bool _, _, h, _ | .list _, _, h, _ | .dict _, _, h, _ => by simp [isK] at h
  | .int _, .none, _, h | .int _, .bool _, _, h | .int _, .list _, _, h | .int _, .dict _, _, h => by simp [isK] at h
  | .str _, .none, _, h | .str _, .bool _, _, h | .str _, .list _, _, h | .str _, .dict _, _, h => by simp [isK] at h
  | .tuple _, .none, _, h | .tuple _, .bool _, _, h | .tuple _, .list _, _, h | .tuple _, .dict _, _, h => by simp [isK] at h
theorem isKs_eqv : ∀ p q : List PyData, isKs p = true → isKs q = true → PyData.eqvAll p q = decide (p = q)
  | [], [], _, _ => by simp [PyData.eqvAll]
  | [], _ :: _, _, _ => by simp [PyData.eqvAll]
  | _ :: _, [], _, _ => by simp [PyData.eqvAll]
  | x :: xs, y :: ys, h, h' => by
    simp only [isKs, Bool.and_eq_true] at h h'
    simp only [PyData.eqvAll, isK_eqv x y h.1 h'.1, isKs_eqv xs ys h.2 h'.2, List.cons.injEq]
    exact (Bool.decide_and _ _).symm
end
mutual
/-- a key stays while only a dict is written -/
theorem reads_keep {h h' : Heap} {d : Addr} {o : Obj} {es ep} (ho : h.get? d = some o) (hd : o.data = .dict es ep) (hs : Heap.SameBut d h h') :
    ∀ (p : PyData) (v : Value) (as : List Addr), isK p = true → Reads h v p as → Reads h' v p as
  | .int _, _, _, _, r => by cases r; exact .int _ _
  | .str _, _, _, _, r => by cases r; exact .str _ _
  | .tuple xs, _, _, hk, r => by
    cases r with
    | tuple h1 h2 h3 h4 =>
      rename_i a ob vs n
      have hne : a ≠ d := by
        rintro rfl
        obtain rfl : ob = o := Option.some.inj (h1.symm.trans ho)
        rw [hd] at h3; exact nomatch h3
      exact .tuple ((hs.2 _ hne).trans h1) h2 h3 (readsAll_keep ho hd hs xs _ _ hk h4)
  | .none, _, _, h, _ | .bool _, _, _, h, _ | .list _, _, _, h, _ | .dict _, _, _, h, _ => by simp [isK] at h
theorem readsAll_keep {h h' : Heap} {d : Addr} {o : Obj} {es ep} (ho : h.get? d = some o) (hd : o.data = .dict es ep) (hs : Heap.SameBut d h h') :
    ∀ (ps : List PyData) (vs : List Value) (as : List Addr), isKs ps = true → ReadsAll h vs ps as → ReadsAll h' vs ps as
  | [], _, _, _, r => by cases r; exact .nil
  | x :: xs, _, _, hk, r => by
    simp only [isKs, Bool.and_eq_true] at hk
    cases r with
    | cons r1 r2 => exact .cons (reads_keep ho hd hs x _ _ hk.1 r1) (readsAll_keep ho hd hs xs _ _ hk.2 r2)
end
section
variable {prog : Program} {w : World}
mutual
theorem hash_reads : ∀ (p : PyData) (v : Value) (A : Around) (E : Value → Shared → Prop) (s : Shared) (as : List Addr) (Q : Int → Shared → Prop), isK p = true → Reads s.heap v p as → A.units + p.depth < cLine →
    Q (hashK w p) { s with toks := s.toks + drawsK p } → wpAny (model prog w) A (pyHash v) Q E s
  | .int i, _, A, E, s, _, Q, _, r, _, h => by cases r; exact wpAny_pyHash_int h
  | .str x, _, A, E, s, _, Q, _, r, _, h => by cases r; exact wpAny_pyHash_str h
  | .tuple xs, _, A, E, s, _, Q, hk, r, hu, h => by
    cases r with
    | tuple h1 h2 h3 h4 =>
      refine PySem.W.pyHash_slot (T := "tuple") ⟨_, h1, h2⟩ F.slot_tuple_hash F.entry_tuple_hash (F.args_tuple_hash_1 _) (beq_builtin_none _) (.inr (by omega)) ?_
      show wpAny _ _ (Builtin.Tuple.tupleItemsOf (.ref _) >>= _) _ _ s
      refine wpAny_bind (wpAny_tupleItemsOf h1 h3 ?_)
      refine wpAny_bind ?_
      rw [← Array.forIn_toList]
      refine hash_readsAll xs _ A.in1 E s _ #[] _ hk h4 (by simp only [PyData.depth, Around.in1_units] at hu ⊢; omega) fun b hb => ?_
      show wpAny _ _ (retInt (Builtin.Tuple.tupleHashOf b.toList)) _ _ _
      rw [hb]
      exact wpAny_bind (wpAny_mkInt (wpAny_pure ⟨_, _, rfl, h⟩))
  | .none, _, _, _, _, _, _, h, _, _, _ | .bool _, _, _, _, _, _, _, h, _, _, _ | .list _, _, _, _, _, _, _, h, _, _, _ | .dict _, _, _, _, _, _, _, h, _, _, _ => by simp [isK] at h
theorem hash_readsAll : ∀ (ps : List PyData) (vs : List Value) (A : Around) (E : Value → Shared → Prop) (s : Shared) (as : List Addr) (b : Array Int) (Q : Array Int → Shared → Prop), isKs ps = true → ReadsAll s.heap vs ps as → A.units + PyData.depthAll ps < cLine →
    (∀ b', b'.toList = b.toList ++ hashKs w ps → Q b' { s with toks := s.toks + drawsKs ps }) →
    wpAny (model prog w) A (forIn vs b fun x r => do let h ← pyHash x; pure PUnit.unit; pure (ForInStep.yield (r.push h))) Q E s
  | [], _, A, E, s, _, b, Q, _, x, _, h => by cases x; exact wpAny_pure (h b (by simp [hashKs]))
  | k :: xs, _, A, E, s, _, b, Q, hk, x, hu, h => by
    cases x with
    | cons x1 x2 =>
      simp only [isKs, Bool.and_eq_true, PyData.depthAll] at hk hu
      rw [List.forIn_cons]
      refine wpAny_bind (wpAny_bind (hash_reads k _ A E s _ _ hk.1 x1 (by omega) ?_))
      refine wpAny_bind (wpAny_pure (wpAny_pure ?_))
      refine hash_readsAll xs _ A E _ _ _ Q hk.2 x2 (by omega) fun b' hb => ?_
      have := h b' (by simp [hb, hashKs])
      simpa [drawsKs, Nat.add_assoc] using this
end
mutual
theorem quiet_reads : ∀ (p : PyData) (v : Value) (A : Around) (E : Value → Shared → Prop) (s : Shared) (as : List Addr) (n : Nat) (Q : Bool → Shared → Prop), isK p = true → Reads s.heap v p as → p.depth ≤ n →
    Q true s → wpAny (model prog w) A (eqIsQuiet n v) Q E s
  | .int i, _, A, E, s, _, n, Q, _, r, _, h => by cases r; rw [eqIsQuiet_byValue _ rfl]; exact wpAny_pure h
  | .str x, _, A, E, s, _, n, Q, _, r, _, h => by cases r; rw [eqIsQuiet_byValue _ rfl]; exact wpAny_pure h
  | .tuple xs, _, A, E, s, _, n, Q, hk, r, hn, h => by
    cases r with
    | tuple h1 h2 h3 h4 =>
      have hT : s.TypeIs (.ref _) "tuple" := ⟨_, h1, h2⟩
      unfold eqIsQuiet
      refine wpAny_bind (wpAny_specialOf hT F.slot_tuple_eq.lookup ?_)
      show wpAny _ _ (isInstance (.ref _) (.type "tuple") >>= _) _ _ s
      refine wpAny_bind (wpAny_isInstance hT isSubtype_tuple_tuple ?_)
      simp only [Bool.not_true, Bool.false_eq_true, if_false]
      simp only [PyData.depth] at hn
      obtain ⟨n', rfl⟩ : ∃ n', n = n' + 1 := ⟨n - 1, by omega⟩
      refine wpAny_bind (wpAny_seqItems h1 h3 ?_)
      refine wpAny_bind ?_
      show wpAny _ _ (forIn _ _ _) _ _ s
      rw [← Array.forIn_toList]
      refine wpAny_forIn_list _ (fun rest r s' => r.1 = none ∧ s' = s ∧ ∃ ps as, isKs ps = true ∧ PyData.depthAll ps ≤ n' ∧ (∀ q ∈ ps, q ∈ xs) ∧ ReadsAll s.heap rest ps as) _ ?_ ?_ _ _ ⟨rfl, rfl, xs, _, hk, by omega, fun _ z => z, h4⟩
      · rintro v rest r s' ⟨hr, rfl, ps, as', hks, hd, hmem, ra⟩
        cases ra with
        | cons r1 r2 =>
          rename_i q qs as1 as2
          simp only [isKs, Bool.and_eq_true, PyData.depthAll] at hks hd
          have hq : q ∈ xs := hmem q List.mem_cons_self
          have hdep : sizeOf q < sizeOf (PyData.tuple xs) := by have := List.sizeOf_lt_of_mem hq; simp; omega
          refine wpAny_bind (quiet_reads q v A E _ _ _ _ hks.1 r1 (by omega) ?_)
          simp only [Bool.not_true, Bool.false_eq_true, if_false]
          exact wpAny_pure ⟨rfl, rfl, qs, _, hks.2, by omega, fun z hz => hmem z (List.mem_cons_of_mem _ hz), r2⟩
      · rintro ⟨r1, r2⟩ s' ⟨hr, rfl, _⟩
        simp only at hr
        subst hr
        exact wpAny_pure h
  | .none, _, _, _, _, _, _, _, h, _, _, _ | .bool _, _, _, _, _, _, _, _, h, _, _, _ | .list _, _, _, _, _, _, _, _, h, _, _, _ | .dict _, _, _, _, _, _, _, _, h, _, _, _ => by simp [isK] at h
termination_by p => sizeOf p
end
end
def nestKind (prog : Program) (w : World) : HeapKind prog w (List PyData) where
  is := fun h ks a => isKs ks = true ∧ PyData.depthAll ks ≤ 6 ∧ ∃ as, Reads h (.ref a) (.tuple ks) as
  hash := fun ks => hashK w (.tuple ks)
  draws := fun ks => drawsK (.tuple ks)
  room := fun A => A.units + 20 < cLine
  inj := fun {h a x y} hx hy => by
    obtain ⟨k1, _, _, r1⟩ := hx
    obtain ⟨k2, _, _, r2⟩ := hy
    have e := SeqAt.Reads.unique _ _ _ _ _ (isK_lay (.tuple x) k1) r1 r2
    exact PyData.tuple.inj e
  keeps := fun x ho hd hs => let ⟨k1, k2, as, r⟩ := x; ⟨k1, k2, as, reads_keep ho hd hs _ _ _ k1 r⟩
  pyHash := fun {A E s k a Q} hu hk h => by
    obtain ⟨k1, k2, as, r⟩ := hk
    exact hash_reads (.tuple k) _ A E s as Q k1 r (by simp only [PyData.depth]; omega) h
  eqBool := fun {A E s x y a b Q} hu hx hy h => by
    obtain ⟨k1, d1, as, r1⟩ := hx
    obtain ⟨k2, d2, bs, r2⟩ := hy
    refine SeqAt.eqAt_reads (.tuple x) (.tuple y) A s _ _ _ _ r1 r2 (isK_lay (.tuple x) k1) (isK_lay (.tuple y) k2) (by simp only [PyData.depth]; omega) prog w E Q ?_
    rw [isK_eqv (.tuple x) (.tuple y) k1 k2]
    have e : decide (PyData.tuple x = PyData.tuple y) = decide (x = y) := by
      simp only [PyData.tuple.injEq]
    rw [e]
    exact h
  quiet := fun {A E s k a Q} hk h => by
    obtain ⟨k1, k2, as, r⟩ := hk
    exact quiet_reads (.tuple k) _ A E s as 8 Q k1 r (by simp only [PyData.depth]; omega) h
end L2
set_option Elab.async false
set_option linter.all false
set_option maxRecDepth 100000
namespace L2
open PySem PySem.Spec PyProof.Rows
abbrev Key := Sum Int Str
def keyIs : Key → Value → Bool
  | .inl k, v => Value.isInt k v
  | .inr x, v => Value.isStrOf x v
def keyH (w : World) : Key → Int
  | .inl k => hashInt k
  | .inr x => hashStr w x
theorem keyIs_shape : ∀ {k : Key} {v : Value}, keyIs k v = true → (∃ i t, k = Sum.inl i ∧ v = Value.int i t) ∨ (∃ x t, k = Sum.inr x ∧ v = Value.str x t)
  | .inl i, v, h => by
    obtain ⟨t, e⟩ := Value.isInt_shape (k := i) (v := v) h
    exact .inl ⟨i, t, rfl, e⟩
  | .inr x, v, h => by
    obtain ⟨t, e⟩ := Value.isStrOf_shape (x := x) (v := v) h
    exact .inr ⟨x, t, rfl, e⟩
theorem key_ll (a b : Int) : decide ((Sum.inl a : Key) = Sum.inl b) = (a == b) := by
  by_cases e : a = b
  · subst e; simp
  · have h : ¬ (Sum.inl a : Key) = Sum.inl b := fun q => e (Sum.inl.inj q)
    rw [decide_eq_false h]
    exact (beq_eq_false_iff_ne.mpr e).symm
theorem key_rr (a b : Str) : decide ((Sum.inr a : Key) = Sum.inr b) = decide (a = b) := by
  by_cases e : a = b
  · subst e; simp
  · have h : ¬ (Sum.inr a : Key) = Sum.inr b := fun q => e (Sum.inr.inj q)
    rw [decide_eq_false h, decide_eq_false e]
theorem key_lr (a : Int) (b : Str) : decide ((Sum.inl a : Key) = Sum.inr b) = false := decide_eq_false (fun q => nomatch q)
theorem key_rl (a : Str) (b : Int) : decide ((Sum.inr a : Key) = Sum.inl b) = false := decide_eq_false (fun q => nomatch q)
def mixKind (prog : Program) (w : World) : PySem.KeyKind prog w Key where
  is := keyIs
  hash := keyH w
  inj := fun v a b ha hb => by
    rcases keyIs_shape ha with ⟨i, t, rfl, rfl⟩ | ⟨x, t, rfl, rfl⟩
    · rcases keyIs_shape hb with ⟨j, u, rfl, e⟩ | ⟨y, u, rfl, e⟩
      · injection e with e1 _; rw [e1]
      · exact nomatch e
    · rcases keyIs_shape hb with ⟨j, u, rfl, e⟩ | ⟨y, u, rfl, e⟩
      · exact nomatch e
      · injection e with e1 _; rw [e1]
  byValue := fun k v h => by
    rcases keyIs_shape h with ⟨i, t, rfl, rfl⟩ | ⟨x, t, rfl, rfl⟩ <;> rfl
  pyHash := fun hv h => by
    rcases keyIs_shape hv with ⟨i, t, rfl, rfl⟩ | ⟨x, t, rfl, rfl⟩
    · exact wpAny_pyHash_int h
    · exact wpAny_pyHash_str h
  eqBool := fun hu hv h => by
    rcases keyIs_shape hu with ⟨i, t, rfl, rfl⟩ | ⟨x, t, rfl, rfl⟩
    · rcases keyIs_shape hv with ⟨j, u, rfl, rfl⟩ | ⟨y, u, rfl, rfl⟩
      · rw [key_ll] at h; exact wpAny_eqBool_int h
      · rw [key_lr] at h; exact SeqAt.EqAt.int_str i t y u _ _ _ _ h
    · rcases keyIs_shape hv with ⟨j, u, rfl, rfl⟩ | ⟨y, u, rfl, rfl⟩
      · rw [key_rl] at h; exact SeqAt.EqAt.str_int x t j u _ _ _ _ h
      · rw [key_rr] at h; exact wpAny_eqBool_str h
  «strs» := fun k x t v h => by
    rcases keyIs_shape h with ⟨i, u, rfl, e⟩ | ⟨y, u, rfl, e⟩
    · exact nomatch e
    · injection e with e1 _
      subst e1
      cases v <;> rfl
end L2
namespace L2
open PySem PySem.Spec PyProof.Rows
inductive V where
  | non | bl (b : Bool) | int (i : Int) | str (x : Str) | byt (b : Array UInt8) | flt (b : UInt64) | ref (a : Addr) | ty (n : String)
  deriving DecidableEq
def RelV : V → Value → Prop
  | .non, u => u = Value.none
  | .bl b, u => u = Value.bool b
  | .int i, u => ∃ t, u = Value.int i t
  | .str x, u => ∃ t, u = Value.str x t
  | .byt b, u => ∃ t, u = Value.bytes b t
  | .flt b, u => ∃ t, u = Value.float b t
  | .ref a, u => u = Value.ref a
  | .ty n, u => u = Value.type n
abbrev Vals : List V → List Value → Prop := Paired RelV
theorem Vals.length {xs : List V} {us : List Value} (r : Vals xs us) : xs.length = us.length := Paired.length r
theorem Vals.get : ∀ {xs : List V} {us : List Value} {i : Nat} {x : V}, Vals xs us → xs[i]? = some x → ∃ u, us[i]? = some u ∧ RelV x u
  | _, _, _, _, .nil, e => by simp at e
  | _, _, 0, _, .cons r _, e => by simp at e; subst e; exact ⟨_, rfl, r⟩
  | _, _, i + 1, x, .cons _ t, e => by
    obtain ⟨u, h1, h2⟩ := Vals.get (i := i) (x := x) t (by simpa using e)
    exact ⟨u, by simpa using h1, h2⟩
theorem Vals.set {x : V} {u : Value} (r : RelV x u) : ∀ {xs : List V} {us : List Value} (i : Nat), Vals xs us → Vals (xs.set i x) (us.set i u)
  | _, _, _, .nil => .nil
  | _, _, 0, .cons _ t => .cons r t
  | _, _, i + 1, .cons q t => .cons q (Vals.set r i t)
theorem Vals.append : ∀ {xs ys : List V} {us ws : List Value}, Vals xs us → Vals ys ws → Vals (xs ++ ys) (us ++ ws)
  | _, _, _, _, .nil, s => s
  | _, _, _, _, .cons r t, s => .cons r (Vals.append t s)
theorem Vals.take : ∀ {xs : List V} {us : List Value} (n : Nat), Vals xs us → Vals (xs.take n) (us.take n)
  | _, _, 0, _ => .nil
  | _, _, _ + 1, .nil => .nil
  | _, _, n + 1, .cons r t => .cons r (Vals.take n t)
theorem Vals.drop : ∀ {xs : List V} {us : List Value} (n : Nat), Vals xs us → Vals (xs.drop n) (us.drop n)
  | _, _, 0, r => r
  | _, _, _ + 1, .nil => .nil
  | _, _, n + 1, .cons _ t => Vals.drop n t
theorem Vals.none_of : ∀ {xs : List V} {us : List Value} {i : Nat}, Vals xs us → xs[i]? = none → us[i]? = none := fun {xs us i} r e => by
  have h1 := r.length
  have h2 : xs.length ≤ i := List.getElem?_eq_none_iff.mp e
  exact List.getElem?_eq_none_iff.mpr (by omega)
def RelO : Option V → Option Value → Prop
  | some v, some u => RelV v u
  | none, none => True
  | _, _ => False
def KV {κ : Type} : List (κ × V) → List (κ × Value) → Prop := Paired fun (p : κ × V) (q : κ × Value) => p.1 = q.1 ∧ RelV p.2 q.2
def kV : Key → V
  | .inl i => .int i
  | .inr x => .str x
inductive HO where
  /-- a list -/
  | lst (xs : List V)
  /-- a tuple (never changes) -/
  | tup (xs : List V)
  /-- a dict whose keys are ints and texts; one whose keys are tuples of ints and texts (the empty one is both) -/
  | dK (kvs : List (Key × V)) | dT (kvs : List (List Key × V)) | dN (K : PySem.W.Frag) (kvs : List (List PyData × V))
  /-- a set of ints: its members, its size -/
  | set (S : Int → Bool) (n : Nat)
  /-- an instance of the class at C, its dict at dx, its attributes -/
  | ins (C dx : Addr) (fs : List (Str × V))
  /-- the dict of the instance at x -/
  | own (x : Addr)
  /-- the dict of an exception -/
  | xd (fs : List (Str × V))
  /-- a bound method, f of x -/
  | met (f x : Addr)
  /-- a range object lo, lo + 1, .. below hi -/
  | rng (lo hi : Int)
  /-- a thing that is known to the object (the script; a dict while a loop walks it): read, never written while it is so -/
  | frz (o : Obj) (u : HO)
  /-- a code object's table -/
  | tbl (ps : Array Value)
  /-- any other thing, by what is true of its one object (a def of one's own: SetO a S n := HO.ext fun h => ..) -/
  | ext (φ : Heap → Prop)
abbrev Hp := Addr → Option HO
def upd (H : Hp) (a : Addr) (o : HO) : Hp := fun b => if b = a then some o else H b
theorem upd_same {H : Hp} {a : Addr} {o : HO} : upd H a o a = some o := by unfold upd; rw [if_pos rfl]
theorem upd_ne {H : Hp} {a b : Addr} {o : HO} (h : b ≠ a) : upd H a o b = H b := by unfold upd; rw [if_neg h]
theorem ne_of_none {H : Hp} {a b : Addr} {o : HO} (h : H a = some o) (h' : H b = none) : a ≠ b := by
  intro e; subst e; rw [h] at h'; cases h'
def NoD (h : Heap) (a : Addr) : Prop := ∃ o, h.get? a = some o ∧ o.dict = none
theorem NoD.new (h : Heap) (c : Value) (d : Data) (hf : Obj.isFreed { cls := c, data := d } = false := by rfl) : NoD (h.push { cls := c, data := d }) h.objs.size := ⟨_, Heap.get?_push_size _ hf, rfl⟩
theorem NoD.keep {h h' : Heap} {a : Addr} (x : NoD h a) (k : ∀ o, h.get? a = some o → h'.get? a = some o) : NoD h' a := let ⟨o, e, d⟩ := x; ⟨o, k _ e, d⟩
def TupAt (K : PySem.W.Frag) (H : Hp) (a : Addr) (xs : List V) : Prop := (H a = some (.tup xs) ∨ ∃ o, H a = some (.frz o (.tup xs))) ∨
    ∃ (o : Obj) (its : Array Value) (n : Nat), K.lookup a = some o ∧ (o.cls = .type "tuple" ∧ o.dict = none) ∧ o.data = .seq its n ∧ its.size ≤ sizeLine ∧ Vals xs its.toList
mutual
def NKV (K : PySem.W.Frag) (H : Hp) : PyData → V → Prop
  | .int i, v => v = .int i
  | .str x, v => v = .str x
  | .tuple xs, v => ∃ a vs, v = .ref a ∧ TupAt K H a vs ∧ NKVs K H xs vs
  | .none, _ | .bool _, _ | .list _, _ | .dict _, _ => False
def NKVs (K : PySem.W.Frag) (H : Hp) : List PyData → List V → Prop
  | [], vs => vs = []
  | x :: xs, vs => ∃ v r, vs = v :: r ∧ NKV K H x v ∧ NKVs K H xs r
end
section
variable {K : PySem.W.Frag} {H H' : Hp}
theorem TupAt.stay {a : Addr} {xs : List V} (x : TupAt K H a xs) (ht : ∀ b xs, H b = some (.tup xs) → H' b = some (.tup xs)) (hf : ∀ b o u, H b = some (.frz o u) → H' b = some (.frz o u)) : TupAt K H' a xs := by
  rcases x with (x | ⟨o, x⟩) | x
  · exact .inl (.inl (ht _ _ x))
  · exact .inl (.inr ⟨o, hf _ _ _ x⟩)
  · exact .inr x
mutual
theorem NKV.stay (ht : ∀ b xs, H b = some (.tup xs) → H' b = some (.tup xs)) (hf : ∀ b o u, H b = some (.frz o u) → H' b = some (.frz o u)) : ∀ (p : PyData) (v : V), NKV K H p v → NKV K H' p v
  | .int _, _, x => by simpa only [NKV] using x
  | .str _, _, x => by simpa only [NKV] using x
  | .tuple xs, _, x => by
    simp only [NKV] at x ⊢
    obtain ⟨a, vs, e, x1, x2⟩ := x
    exact ⟨a, vs, e, x1.stay ht hf, NKVs.stay ht hf xs vs x2⟩
  | .none, _, x | .bool _, _, x | .list _, _, x | .dict _, _, x => by simp only [NKV] at x
theorem NKVs.stay (ht : ∀ b xs, H b = some (.tup xs) → H' b = some (.tup xs)) (hf : ∀ b o u, H b = some (.frz o u) → H' b = some (.frz o u)) : ∀ (ps : List PyData) (vs : List V), NKVs K H ps vs → NKVs K H' ps vs
  | [], _, x => by simpa only [NKVs] using x
  | p :: ps, _, x => by
    simp only [NKVs] at x ⊢
    obtain ⟨v, r, e, x1, x2⟩ := x
    exact ⟨v, r, e, NKV.stay ht hf p v x1, NKVs.stay ht hf ps r x2⟩
end
end
section
variable (P : Program) (w : World)
def ObjOk (H : Hp) (h : Heap) (a : Addr) : HO → Prop
  | .lst xs => xs.length ≤ sizeLine ∧ ∃ (its : List Value) (n : Nat), Vals xs its ∧ h.get? a = some { cls := .type "list", data := .seq its.toArray n }
  | .tup xs => (xs.length ≤ sizeLine ∧ NoD h a) ∧ ∃ its : List Value, Vals xs its ∧ IsTup h a its.toArray
  | .dK kvs => kvs.length ≤ sizeLine ∧ (a == sysModules) = false ∧ ∃ vs, KV kvs vs ∧ h.DictOf (mixKind P w) a vs
  | .dT kvs => kvs.length ≤ sizeLine ∧ (a == sysModules) = false ∧ ∃ xs : List (List Key × Addr × Value),
      Paired (fun (p : List Key × V) (q : List Key × Addr × Value) => p.1 = q.1 ∧ H q.2.1 = some (.tup (p.1.map kV)) ∧ RelV p.2 q.2.2) kvs xs ∧
      ∃ o es ep, h.get? a = some o ∧ o.ExactDict ∧ o.data = .dict es ep ∧ es.toList = xs.map (entryOfKey (tupleKind (mixKind P w))) ∧ (xs.map (·.1)).Nodup
  | .dN K kvs => kvs.length ≤ sizeLine ∧ (a == sysModules) = false ∧ ∃ xs : List (List PyData × Addr × Value),
      Paired (fun (p : List PyData × V) (q : List PyData × Addr × Value) => p.1 = q.1 ∧ (isKs p.1 = true ∧ PyData.depthAll p.1 ≤ 6 ∧ NKV K H (.tuple p.1) (.ref q.2.1)) ∧ RelV p.2 q.2.2) kvs xs ∧
      ∃ o es ep, h.get? a = some o ∧ o.ExactDict ∧ o.data = .dict es ep ∧ es.toList = xs.map (entryOfKey (nestKind P w)) ∧ (xs.map (·.1)).Nodup
  | .set S n => h.SetOf (intKind P w) a S n
  | .ins C dx fs => H dx = some (.own a) ∧ fs.length ≤ 1000 ∧ dx ≠ a ∧ h.get? a = some (PySem.W.instObj C dx) ∧
      ∃ mA, h.Ns1 dx mA ∧ (∀ f, RelO (fs.lookup f) (mA f)) ∧ PySem.Within mA (fs.map (·.1))
  | .own _ => ∃ o, h.get? a = some o
  | .xd fs => ∃ mA, h.Ns1 a mA ∧ ∀ f, RelO (fs.lookup f) (mA f)
  | .rng lo hi => ∃ t u v, h.get? a = some { cls := .type "range", data := .fields #[.int lo t, .int hi u, .int 1 v] }
  | .frz o u => h.get? a = some o ∧ ObjOk H h a u
  | .tbl ps => h.get? a = some { cls := .none, data := .fields ps }
  | .met f x => h.get? a = some (PySem.W.methodObj (.ref f) (.ref x))
  | .ext φ => φ h ∧ (∃ o, h.get? a = some o) ∧ ∀ h1 h2 : Heap, φ h1 → (∀ o, h1.get? a = some o → h2.get? a = some o) → φ h2
def HOk (H : Hp) (h : Heap) : Prop := ∀ a o, H a = some o → ObjOk P w H h a o
end
section
variable {P : Program} {w : World} {H H' : Hp} {h h' : Heap} {a : Addr} {o : HO}
theorem ObjOk.lt (x : ObjOk P w H h a o) : a < h.objs.size := by
  cases o with
  | lst xs => obtain ⟨_, _, _, _, e⟩ := x; exact Heap.lt_size e
  | tup xs => obtain ⟨_, _, _, p⟩ := x; exact p.lt
  | dK kvs => obtain ⟨_, _, _, _, o, _, _, e, _⟩ := x; exact Heap.lt_size e
  | dT kvs => obtain ⟨_, _, _, _, o, _, _, e, _⟩ := x; exact Heap.lt_size e
  | dN K kvs => obtain ⟨_, _, _, _, o, _, _, e, _⟩ := x; exact Heap.lt_size e
  | set S n => obtain ⟨o, _, _, _, e, _⟩ := x; exact Heap.lt_size e
  | ins C dx fs => obtain ⟨_, _, _, e, _⟩ := x; exact Heap.lt_size e
  | own y => obtain ⟨_, e⟩ := x; exact Heap.lt_size e
  | xd fs => obtain ⟨_, ⟨_, _, _, e, _⟩, _⟩ := x; exact Heap.lt_size e
  | rng lo hi => obtain ⟨_, _, _, e⟩ := x; exact Heap.lt_size e
  | frz ob u => obtain ⟨e, _⟩ := x; exact Heap.lt_size e
  | tbl ps => exact Heap.lt_size (show h.get? a = some _ from x)
  | met f y => exact Heap.lt_size (show h.get? a = some _ from x)
  | ext φ => obtain ⟨_, ⟨_, e⟩, _⟩ := x; exact Heap.lt_size e
theorem Paired.mapP {α β : Type} {F G : α → β → Prop} : ∀ {l₁ : List α} {l₂ : List β}, Paired F l₁ l₂ → (∀ a b, F a b → G a b) → Paired G l₁ l₂
  | _, _, .nil, _ => .nil
  | _, _, .cons r t, f => .cons (f _ _ r) (Paired.mapP t f)
theorem ObjOk.stay (x : ObjOk P w H h a o) (k : ∀ b u, (b = a ∨ H b = some (.own a)) → h.get? b = some u → h'.get? b = some u)
    (ho : ∀ b, H b = some (.own a) → H' b = some (.own a)) (ht : ∀ b xs, H b = some (.tup xs) → H' b = some (.tup xs)) (hf : ∀ b ob u, H b = some (.frz ob u) → H' b = some (.frz ob u)) : ObjOk P w H' h' a o := by
  induction o with
  | lst xs => obtain ⟨z, its, n, r, e⟩ := x; exact ⟨z, its, n, r, k _ _ (.inl rfl) e⟩
  | tup xs => obtain ⟨z, its, r, ob, e, c⟩ := x; exact ⟨⟨z.1, z.2.keep fun _ e => k _ _ (.inl rfl) e⟩, its, r, ob, k _ _ (.inl rfl) e, c⟩
  | dK kvs => obtain ⟨z, y, vs, r, ob, es, ep, e, c⟩ := x; exact ⟨z, y, vs, r, ob, es, ep, k _ _ (.inl rfl) e, c⟩
  | dT kvs =>
    obtain ⟨z, y, xs, r, ob, es, ep, e, c⟩ := x
    exact ⟨z, y, xs, Paired.mapP r fun p q z => ⟨z.1, ht _ _ z.2.1, z.2.2⟩, ob, es, ep, k _ _ (.inl rfl) e, c⟩
  | dN K kvs =>
    obtain ⟨z, y, xs, r, ob, es, ep, e, c⟩ := x
    exact ⟨z, y, xs, Paired.mapP r fun p q z => ⟨z.1, ⟨z.2.1.1, z.2.1.2.1, NKV.stay ht hf _ _ z.2.1.2.2⟩, z.2.2⟩, ob, es, ep, k _ _ (.inl rfl) e, c⟩
  | set S n => obtain ⟨ob, es, ep, t, e, c⟩ := x; exact ⟨ob, es, ep, t, k _ _ (.inl rfl) e, c⟩
  | ins C dx fs =>
    obtain ⟨d, z, ne, e, mA, ⟨od, es, ep, e2, c⟩, r⟩ := x
    exact ⟨ho _ d, z, ne, k _ _ (.inl rfl) e, mA, ⟨od, es, ep, k _ _ (.inr d) e2, c⟩, r⟩
  | own y => obtain ⟨ob, e⟩ := x; exact ⟨ob, k _ _ (.inl rfl) e⟩
  | xd fs => obtain ⟨mA, ⟨od, es, ep, e, c⟩, r⟩ := x; exact ⟨mA, ⟨od, es, ep, k _ _ (.inl rfl) e, c⟩, r⟩
  | rng lo hi => obtain ⟨t, u, v, e⟩ := x; exact ⟨t, u, v, k _ _ (.inl rfl) e⟩
  | frz ob u ih => obtain ⟨e, q⟩ := x; exact ⟨k _ _ (.inl rfl) e, ih q⟩
  | tbl ps =>
    have e : h.get? a = some { cls := .none, data := .fields ps } := x
    show h'.get? a = some { cls := .none, data := .fields ps }
    exact k a _ (.inl rfl) e
  | met f y =>
    have e : h.get? a = some (PySem.W.methodObj (.ref f) (.ref y)) := x
    show h'.get? a = some (PySem.W.methodObj (.ref f) (.ref y))
    exact k a _ (.inl rfl) e
  | ext φ => obtain ⟨p, ⟨o, e⟩, st⟩ := x; exact ⟨st _ _ p fun o q => k _ _ (.inl rfl) q, ⟨o, k _ _ (.inl rfl) e⟩, st⟩
theorem HOk.lt (x : HOk P w H h) (e : H a = some o) : a < h.objs.size := (x a o e).lt
theorem HOk.fresh (x : HOk P w H h) (e : h.objs.size ≤ a) : H a = none := by
  cases q : H a with
  | none => rfl
  | some u => exact absurd (Nat.lt_of_lt_of_le (x.lt q) e) (Nat.lt_irrefl _)
theorem HOk.kept (x : HOk P w H h) (k : ∀ b u, h.get? b = some u → h'.get? b = some u) : HOk P w H h' := fun a o e =>
  (x a o e).stay (fun b u _ q => k b u q) (fun _ q => q) (fun _ _ q => q) fun _ _ _ q => q
theorem HOk.laid (x : HOk P w H h) (k : ∀ b u, h.get? b = some u → h'.get? b = some u) (hp : h.objs.size ≤ a) (new : ObjOk P w (upd H a o) h' a o) : HOk P w (upd H a o) h' := fun b u e => by
  have hn := x.fresh hp
  by_cases hb : b = a
  · subst hb; rw [upd_same] at e; cases e; exact new
  · rw [upd_ne hb] at e
    exact (x b u e).stay (fun c v _ q => k c v q) (fun c q => by rw [upd_ne (ne_of_none q hn)]; exact q) (fun c xs q => by rw [upd_ne (ne_of_none q hn)]; exact q) fun c ob u q => by rw [upd_ne (ne_of_none q hn)]; exact q
end
def Rd (H : Hp) (a : Addr) (u : HO) : Prop := H a = some u ∨ ∃ o, H a = some (.frz o u)
theorem Rd.of {H : Hp} {a : Addr} {u : HO} (h : H a = some u) : Rd H a u := .inl h
theorem Rd.ok {P : Program} {w : World} {H : Hp} {h : Heap} {a : Addr} {u : HO} (r : Rd H a u) (x : HOk P w H h) : ObjOk P w H h a u := by
  rcases r with r | ⟨o, r⟩
  · exact x a u r
  · obtain ⟨_, q⟩ := x a _ r
    exact q
def Mut : Option HO → Prop
  | some (.lst _) => True
  | some (.dK _) => True
  | some (.dT _) => True
  | some (.dN _ _) => True
  | some (.set _ _) => True
  | some (.ins _ _ _) => True
  | some (.ext _) => True
  | _ => False
section
variable {P : Program} {w : World} {H : Hp} {h h' : Heap} {x e : Addr} {o' : HO}
theorem HOk.write (ok : HOk P w H h) (mu : Mut (H x)) (he : e = x ∨ H e = some (.own x)) (k : ∀ b u, b ≠ e → h.get? b = some u → h'.get? b = some u) (heo : ∃ u, h'.get? e = some u)
    (new : ObjOk P w (upd H x o') h' x o') : HOk P w (upd H x o') h' := fun b u q => by
  have nown : ∀ c y, H c = some (.own y) → c ≠ x := fun c y r z => by subst z; rw [r] at mu; exact mu
  have ntup : ∀ c xs, H c = some (.tup xs) → c ≠ x := fun c xs r z => by subst z; rw [r] at mu; exact mu
  by_cases hb : b = x
  · subst hb; rw [upd_same] at q; cases q; exact new
  · rw [upd_ne hb] at q
    by_cases hbe : b = e
    · have q' : H b = some (.own x) := by
        rcases he with z | z
        · exact absurd (hbe.trans z) hb
        · rw [hbe]; exact z
      rw [q] at q'; cases q'
      obtain ⟨v, hv⟩ := heo
      exact ⟨v, by rw [hbe]; exact hv⟩
    · refine (ok b u q).stay (fun c v hc r => k c v ?_ r) (fun c r => by rw [upd_ne (nown c b r)]; exact r) (fun c xs r => by rw [upd_ne (ntup c xs r)]; exact r) fun c ob u r => by rw [upd_ne (fun z => by subst z; rw [r] at mu; exact mu)]; exact r
      rcases hc with rfl | hc
      · exact hbe
      · rintro rfl
        rcases he with z | z
        · exact nown c b hc z
        · rw [hc] at z; cases z; exact hb rfl
end
structure Un (fs ex : List Addr) (H H' : Hp) (h h' : Heap) : Prop where
  keep : ∀ b o, h.get? b = some o → H b = none → b ∉ fs → b ∉ ex → h'.get? b = some o
  slot : ∀ b o, h.get? b = some o → H b = none → b ∈ fs → b ∉ ex → ∃ sl, h'.get? b = some { o with slots := sl }
  free : ∀ b o, h.get? b = some o → H b = none → b ∉ ex → H' b = none
  there : ∀ b o, h.get? b = some o → b ∉ ex → ∃ o', h'.get? b = some o'
  tups : ∀ b xs, H b = some (.tup xs) → H' b = some (.tup xs)
  frzs : ∀ b o u, H b = some (.frz o u) → H' b = some (.frz o u)
  tbls : ∀ b ps, H b = some (.tbl ps) → ∃ more, H' b = some (.tbl (ps ++ more))
section
variable {fs fs' ex ex' : List Addr} {H H1 H2 : Hp} {h h1 h2 h' : Heap} {a x e : Addr} {o : HO}
theorem Un.any (u : Un fs ex H H1 h h1) {b : Addr} {ob : Obj} (q : h.get? b = some ob) (n : H b = none) (hx : b ∉ ex) : ∃ sl, h1.get? b = some { ob with slots := sl } := by
  by_cases hb : b ∈ fs
  · exact u.slot b ob q n hb hx
  · exact ⟨ob.slots, u.keep b ob q n hb hx⟩
theorem Un.trans (a : Un fs ex H H1 h h1) (b : Un fs ex H1 H2 h1 h2) : Un fs ex H H2 h h2 where
  keep := fun c ob q n hc hx => b.keep c ob (a.keep c ob q n hc hx) (a.free c ob q n hx) hc hx
  slot := fun c ob q n hc hx => by
    obtain ⟨sl, e1⟩ := a.slot c ob q n hc hx
    obtain ⟨sl', e2⟩ := b.slot c _ e1 (a.free c ob q n hx) hc hx
    exact ⟨sl', e2⟩
  free := fun c ob q n hx => by
    obtain ⟨o', e1⟩ := a.there c ob q hx
    exact b.free c o' e1 (a.free c ob q n hx) hx
  there := fun c ob q hx => by
    obtain ⟨o', e1⟩ := a.there c ob q hx
    exact b.there c o' e1 hx
  tups := fun c xs q => b.tups c xs (a.tups c xs q)
  frzs := fun c ob xs q => b.frzs c ob xs (a.frzs c ob xs q)
  tbls := fun c ps q => by
    obtain ⟨m1, e1⟩ := a.tbls c ps q
    obtain ⟨m2, e2⟩ := b.tbls c _ e1
    exact ⟨m1 ++ m2, by rw [e2, Array.append_assoc]⟩
theorem Un.kept (k : ∀ b u, h.get? b = some u → h'.get? b = some u) : Un fs ex H H h h' :=
  ⟨fun b ob q _ _ _ => k b ob q, fun b ob q _ _ _ => ⟨ob.slots, k b ob q⟩, fun _ _ _ n _ => n, fun b ob q _ => ⟨ob, k b ob q⟩, fun _ _ q => q, fun _ _ _ q => q, fun _ ps q => ⟨#[], by rw [q]; simp⟩⟩
theorem Un.refl : Un fs ex H H h h := Un.kept fun _ _ q => q
theorem Un.laid (k : ∀ b u, h.get? b = some u → h'.get? b = some u) (hp : h.objs.size ≤ a) (hn : H a = none) : Un fs ex H (upd H a o) h h' where
  keep := fun b u q _ _ _ => k b u q
  slot := fun b u q _ _ _ => ⟨u.slots, k b u q⟩
  free := fun b u q n _ => by rw [upd_ne (Nat.ne_of_lt (Nat.lt_of_lt_of_le (Heap.lt_size q) hp))]; exact n
  there := fun b u q _ => ⟨u, k b u q⟩
  tups := fun b xs q => by rw [upd_ne (ne_of_none q hn)]; exact q
  frzs := fun b u xs q => by rw [upd_ne (ne_of_none q hn)]; exact q
  tbls := fun b ps q => ⟨#[], by rw [upd_ne (ne_of_none q hn), q]; simp⟩
theorem Un.write (mu : Mut (H x)) (he : e = x ∨ H e = some (.own x)) (k : ∀ b u, b ≠ e → h.get? b = some u → h'.get? b = some u) (heo : ∃ u, h'.get? e = some u) : Un fs ex H (upd H x o) h h' := by
  have hx : ∀ b, H b = none → b ≠ x := fun b n z => by subst z; rw [n] at mu; exact mu
  have hb : ∀ b, H b = none → b ≠ e := fun b n z => by
    subst z
    rcases he with r | r
    · exact hx b n r
    · rw [n] at r; cases r
  have hm : ∀ b u, H b = some u → ¬ Mut (some u) → b ≠ x := fun b u q nm z => by subst z; rw [q] at mu; exact nm mu
  refine ⟨fun b u q n _ _ => k b u (hb b n) q, fun b u q n _ _ => ⟨u.slots, k b u (hb b n) q⟩, fun b u q n _ => by rw [upd_ne (hx b n)]; exact n, fun b u q _ => ?_,
    fun b xs q => by rw [upd_ne (hm b _ q fun z => z)]; exact q, fun b u xs q => by rw [upd_ne (hm b _ q fun z => z)]; exact q, fun b ps q => ⟨#[], by rw [upd_ne (hm b _ q fun z => z), q]; simp⟩⟩
  by_cases hbe : b = e
  · subst hbe; exact heo
  · exact ⟨u, k b u hbe q⟩
theorem Un.mono (u : Un fs ex H H1 h h1) (hs : ∀ b ∈ fs, b ∈ fs') (hx : ∀ b ∈ ex, b ∈ ex') : Un fs' ex' H H1 h h1 :=
  ⟨fun b ob q n hb he => u.keep b ob q n (fun z => hb (hs b z)) fun z => he (hx b z), fun _ _ q n _ he => u.any q n fun z => he (hx _ z), fun b ob q n he => u.free b ob q n fun z => he (hx b z), fun b ob q he => u.there b ob q fun z => he (hx b z), u.tups, u.frzs, u.tbls⟩
end
def trk (h : Heap) (H : Hp) : List Addr := (List.range h.objs.size).filter fun a => (H a).isSome
def hidT (h : Heap) (H : Hp) : Heap := PySem.W.hideAll h (trk h H)
theorem hidT_size (h : Heap) (H : Hp) : (hidT h H).objs.size = h.objs.size := PySem.W.hideAll_size _ _
theorem hidT_get {h : Heap} {H : Hp} {b : Addr} {o : Obj} (e : h.get? b = some o) (n : H b = none) : (hidT h H).get? b = some o :=
  PySem.W.hideAll_get _ e fun hm => by
    have q : (H b).isSome = true := (List.mem_filter.mp hm).2
    rw [n] at q; simp at q
theorem of_hidT {h : Heap} {H : Hp} {b : Addr} {o : Obj} (e : (hidT h H).get? b = some o) : h.get? b = some o ∧ H b = none := by
  have e' : h.get? b = some o := PySem.W.of_hideAll (trk h H) e
  refine ⟨e', ?_⟩
  cases q : H b with
  | none => rfl
  | some x =>
    have hm : b ∈ trk h H := List.mem_filter.mpr ⟨List.mem_range.mpr (Heap.lt_size e'), by simp [q]⟩
    have z : (hidT h H).get? b = none := PySem.W.hideAll_none (trk h H) hm
    rw [z] at e; cases e
def allNews (g h : Heap) (L : Addr) : List (Addr × Obj) := (List.range h.objs.size).filterMap fun a => if a = L ∨ (g.get? a).isSome = true then none else (h.get? a).map fun o => (a, o)
def rest (g h : Heap) (L d : Addr) : List (Addr × Obj) := (allNews g h L).filter fun p => decide (p.1 ≠ d)
end L2
namespace L2
open PySem PySem.Spec PyProof.Rows
structure Mod (K : PySem.W.Frag) (mg : Str → Option Value) (base : Heap) : Prop where
  kin : K.In base
  glob : base.Ns mainGlobals mg
  blt : ∃ mb, base.Ns builtinsNs mb ∧ ∀ x : Str, x ≠ "__name__" → mb x = bootBuiltins x
  nolimit : base.NoLimit
structure Cx where
  prog : Program
  w : World
  K : PySem.W.Frag
  mg : Str → Option Value
  base : Heap
  A : Around
  N : List Str
  s₀ : Shared
  H₀ : Hp
  env : Env
  outer : List Env
  stack : List Env
  ex : List Addr
  fn : Str → Bool
  calm : Bool
  pn : List (Addr × Obj)
  xe : Value → Shared → Prop
def frs (l : List Env) : List Addr := l.filterMap (·.frame)
abbrev Cx.fs (X : Cx) : List Addr := frs X.outer
def Vis (sc : Scope) (x : Str) : Prop := sc.names.lookup x = some .local ∨ sc.names.lookup x = some .cell ∨ sc.names.lookup x = some .free
def Loc (sc : Scope) (x : Str) : Prop := sc.names.lookup x = some .local ∨ sc.names.lookup x = some .cell
def Look (env : Env) (h : Heap) (m : Str → Option Value) (x : Str) (u : Value) : Prop :=
  (env.kindOf x = some .local ∧ m x = some u) ∨ ((env.kindOf x = some .cell ∨ env.kindOf x = some .free) ∧ ∃ c, env.cells.lookup x = some c ∧ h.IsCell c (some u))
structure Cx.Ok (X : Cx) : Prop where
  mod : Mod X.K X.mg X.base
  kind : X.env.scope.kind = .function
  glob : X.env.globals = mainGlobals
  blt : X.env.builtins = builtinsNs
  above : X.s₀.heap.objs.size ≤ X.env.locals
  inj : ∀ x y c, X.env.cells.lookup x = some c → X.env.cells.lookup y = some c → x = y
  has : ∀ x, (X.env.kindOf x = some .cell ∨ X.env.kindOf x = some .free) → ∃ c, X.env.cells.lookup x = some c
  cab : ∀ x c, X.fn x = true → X.env.cells.lookup x = some c → X.s₀.heap.objs.size ≤ c
  hd : X.calm = true → X.A.handled = none
  frames : X.A.frames = some X.stack
  stk : X.stack = X.outer ∨ (X.stack = X.env :: X.outer ∧ X.env.frame = some X.env.locals)
  exf : ∀ b ∈ X.ex, b ≠ X.env.locals ∧ ∀ x c, X.env.cells.lookup x = some c → c ≠ b
  bs : ∀ b o, X.base.get? b = some o → X.s₀.heap.get? b = some o ∧ X.H₀ b = none
  bsz : X.base.objs.size ≤ X.s₀.heap.objs.size
  noex : ∀ b o, X.base.get? b = some o → b ∉ X.ex
  exfs : ∀ b ∈ X.ex, b ∉ X.fs
  funs : X.s₀.heap.FunFrames X.base X.outer
  frf : ∀ b ∈ X.fs, X.H₀ b = none
structure Inv (X : Cx) (pins : List (Addr × Obj)) (σ : List (Option V)) (H : Hp) (s : Shared) : Prop where
  ok : X.Ok
  os : s.os = X.s₀.os
  bare : AllBare s.gens
  base : Un X.fs X.ex X.H₀ H X.s₀.heap s.heap
  loc : ∃ m, s.heap.Ns X.env.locals m ∧ ∀ (i : Nat) (x : Str) (v : V), X.N[i]? = some x → σ[i]? = some (some v) → Vis X.env.scope x → ∃ u, RelV v u ∧ Look X.env s.heap m x u
  cell : ∀ x c, X.env.cells.lookup x = some c → ∃ v, s.heap.IsCell c v
  free : H X.env.locals = none
  freeC : ∀ x c, X.env.cells.lookup x = some c → H c = none
  pin : ∀ p ∈ X.pn ++ pins, s.heap.get? p.1 = some p.2 ∧ H p.1 = none ∧ p.1 ≠ X.env.locals ∧ p.1 ∉ X.fs ∧ ∀ v, p.2.data ≠ .cell v
  hok : HOk X.prog X.w H s.heap
  len : σ.length = X.N.length
section
variable {X : Cx} {pins : List (Addr × Obj)} {σ : List (Option V)} {H H' : Hp} {s : Shared} {h' : Heap}
theorem Cx.Ok.nofr (ok : X.Ok) {b : Addr} {o : Obj} (e : X.base.get? b = some o) : b ∉ X.fs := fun hb => by
  have := (ok.funs.mem hb).1
  rw [e] at this; cases this
theorem Inv.bs (I : Inv X pins σ H s) : ∀ b o, X.base.get? b = some o → s.heap.get? b = some o ∧ H b = none := fun b o e =>
  ⟨I.base.keep b o (I.ok.bs b o e).1 (I.ok.bs b o e).2 (I.ok.nofr e) (I.ok.noex b o e), I.base.free b o (I.ok.bs b o e).1 (I.ok.bs b o e).2 (I.ok.noex b o e)⟩
theorem Inv.bk (I : Inv X pins σ H s) : ∀ b o, X.base.get? b = some o → s.heap.get? b = some o := fun b o e => (I.bs b o e).1
theorem Inv.mod (I : Inv X pins σ H s) : Mod X.K X.mg X.base := I.ok.mod
theorem Inv.kIn (I : Inv X pins σ H s) : X.K.In s.heap := I.ok.mod.kin.keeps I.bk
theorem Inv.nolimit (I : Inv X pins σ H s) : s.heap.NoLimit := I.ok.mod.nolimit.keeps I.bk
theorem Inv.fr (I : Inv X pins σ H s) : ∃ m, Fr X.base X.env.locals s.heap m :=
  let ⟨m, hn, _⟩ := I.loc
  ⟨m, hn, I.bk, Nat.le_trans I.ok.bsz I.ok.above⟩
theorem Inv.lt (I : Inv X pins σ H s) : X.env.locals < s.heap.objs.size := let ⟨_, hn, _⟩ := I.loc; hn.lt
theorem Inv.sz (I : Inv X pins σ H s) : X.s₀.heap.objs.size ≤ s.heap.objs.size := Nat.le_trans I.ok.above (Nat.le_of_lt I.lt)
theorem Inv.nofs (I : Inv X pins σ H s) {a : Addr} (h : s.heap.objs.size ≤ a) : a ∉ X.fs := fun hb => by
  obtain ⟨_, o, ho, _⟩ := I.ok.funs.mem hb
  exact absurd (Nat.lt_of_lt_of_le (Heap.lt_size ho) (Nat.le_trans I.sz h)) (Nat.lt_irrefl _)
theorem Inv.cne (I : Inv X pins σ H s) : ∀ x c, X.env.cells.lookup x = some c → c ≠ X.env.locals := fun x c e z => by
  obtain ⟨v, o, ho, hd⟩ := I.cell x c e
  obtain ⟨m, ⟨o', es, ep, ho', hd', _⟩, _⟩ := I.loc
  rw [z, ho'] at ho; cases ho; rw [hd'] at hd; cases hd
theorem Inv.funs (I : Inv X pins σ H s) : s.heap.FunFrames X.base X.outer := by
  have all : ∀ (l : List Env), (∀ b ∈ frs l, b ∈ X.fs) → X.s₀.heap.FunFrames X.base l → s.heap.FunFrames X.base l := by
    intro l
    induction l with
    | nil => intro _ _; trivial
    | cons env r ih =>
      intro hs hl
      obtain ⟨hk, ⟨L, o, hf, hn, ho, hd⟩, hr⟩ := hl
      have hL : L ∈ X.fs := hs L (by unfold frs; rw [List.filterMap_cons, hf]; exact List.mem_cons_self)
      obtain ⟨sl, e⟩ := I.base.slot L o ho (I.ok.frf L hL) hL fun z => I.ok.exfs L z hL
      exact ⟨hk, ⟨L, _, hf, hn, e, hd⟩, ih (fun b hb => hs b (by unfold frs; rw [List.filterMap_cons, hf]; exact List.mem_cons_of_mem _ hb)) hr⟩
  exact all X.outer (fun _ hb => hb) I.ok.funs
theorem Inv.stack (I : Inv X pins σ H s) : s.heap.FunFrames X.base X.stack := by
  rcases I.ok.stk with e | ⟨e, hf⟩
  · rw [e]; exact I.funs
  · rw [e]
    obtain ⟨m, hn, _⟩ := I.loc
    refine .cons (by rw [I.ok.kind]; decide) hf hn ?_ I.funs
    exact Heap.get?_none_of_le (Nat.le_trans I.ok.bsz I.ok.above)
theorem Inv.stkSub (I : Inv X pins σ H s) : ∀ b ∈ frs X.stack, b ∈ X.env.locals :: X.fs := fun b hb => by
  rcases I.ok.stk with e | ⟨e, hf⟩
  · rw [e] at hb; exact List.mem_cons_of_mem _ hb
  · rw [e] at hb
    unfold frs at hb
    rw [List.filterMap_cons, hf] at hb
    exact hb
theorem Inv.stkFree (I : Inv X pins σ H s) : ∀ b ∈ frs X.stack, H b = none := fun b hb => by
  rcases List.mem_cons.mp (I.stkSub b hb) with e | hb
  · rw [e]; exact I.free
  · obtain ⟨_, o, ho, _⟩ := I.ok.funs.mem hb
    exact I.base.free b o ho (I.ok.frf b hb) fun z => I.ok.exfs b z hb
theorem Inv.step {g' : Array GenState} {t' : Nat} {d' : Drawn} {ch : List Addr} (I : Inv X pins σ H s)
    (hch : ∀ b ∈ ch, (b ∈ X.ex ∨ X.s₀.heap.objs.size ≤ b) ∧ b ≠ X.env.locals ∧ (∀ x c, X.env.cells.lookup x = some c → c ≠ b) ∧ ∀ p ∈ X.pn ++ pins, p.1 ≠ b)
    (keep : ∀ b o, b ≠ X.env.locals → b ∉ X.fs → b ∉ ch → s.heap.get? b = some o → H b = none → h'.get? b = some o)
    (slot : ∀ b o, b ≠ X.env.locals → b ∈ X.fs → b ∉ ch → s.heap.get? b = some o → H b = none → ∃ sl, h'.get? b = some { o with slots := sl }) (free : ∀ b o, b ∉ ch → s.heap.get? b = some o → H b = none → H' b = none)
    (there : ∀ b o, b ∉ ch → s.heap.get? b = some o → ∃ o', h'.get? b = some o')
    (tups : ∀ b xs, H b = some (.tup xs) → H' b = some (.tup xs)) (frzs : ∀ b o u, H b = some (.frz o u) → H' b = some (.frz o u)) (tbls : ∀ b ps, H b = some (.tbl ps) → ∃ more, H' b = some (.tbl (ps ++ more)))
    (ns : ∀ m, s.heap.Ns X.env.locals m → h'.Ns X.env.locals m) (hok : HOk X.prog X.w H' h') (hg : AllBare g') :
    Inv X pins σ H' { s with heap := h', gens := g', drawn := d', toks := t' } := by
  have neL : ∀ b o, X.s₀.heap.get? b = some o → b ≠ X.env.locals := fun b o e => Nat.ne_of_lt (Nat.lt_of_lt_of_le (Heap.lt_size e) I.ok.above)
  have neC : ∀ b o, X.s₀.heap.get? b = some o → b ∉ X.ex → b ∉ ch := fun b o e hx hb => by
    rcases (hch b hb).1 with z | z
    · exact hx z
    · exact absurd (Nat.lt_of_lt_of_le (Heap.lt_size e) z) (Nat.lt_irrefl _)
  have cellK : ∀ x c, X.env.cells.lookup x = some c → ∀ v, s.heap.IsCell c v → h'.IsCell c v := fun x c e v ⟨o, ho, hd⟩ => by
    have nch : c ∉ ch := fun z => (hch c z).2.2.1 x c e rfl
    by_cases hc : c ∈ X.fs
    · obtain ⟨sl, q⟩ := slot c o (I.cne x c e) hc nch ho (I.freeC x c e)
      exact ⟨_, q, hd⟩
    · exact ⟨o, keep c o (I.cne x c e) hc nch ho (I.freeC x c e), hd⟩
  refine ⟨I.ok, I.os, hg, ⟨fun b o e n hb hx => ?_, fun b o e n hb hx => ?_, fun b o e n hx => ?_, fun b o e hx => ?_, fun b xs e => tups b xs (I.base.tups b xs e), fun b o xs e => frzs b o xs (I.base.frzs b o xs e), fun b ps e => ?_⟩, ?_, fun x c e => ?_, ?_, fun x c e => ?_, fun p hp => ?_, hok, I.len⟩
  · exact keep b o (neL b o e) hb (neC b o e hx) (I.base.keep b o e n hb hx) (I.base.free b o e n hx)
  · obtain ⟨sl, e1⟩ := I.base.slot b o e n hb hx
    obtain ⟨sl', e2⟩ := slot b _ (neL b o e) hb (neC b o e hx) e1 (I.base.free b o e n hx)
    exact ⟨sl', e2⟩
  · obtain ⟨o', e1⟩ := I.base.there b o e hx
    exact free b o' (neC b o e hx) e1 (I.base.free b o e n hx)
  · obtain ⟨o', e1⟩ := I.base.there b o e hx
    exact there b o' (neC b o e hx) e1
  · obtain ⟨m1, e1⟩ := I.base.tbls b ps e
    obtain ⟨m2, e2⟩ := tbls b _ e1
    exact ⟨m1 ++ m2, by rw [e2, Array.append_assoc]⟩
  · obtain ⟨m, hn, hl⟩ := I.loc
    refine ⟨m, ns m hn, fun i x v e1 e2 e3 => ?_⟩
    obtain ⟨u, r, l⟩ := hl i x v e1 e2 e3
    refine ⟨u, r, ?_⟩
    rcases l with l | ⟨k, c, e, z⟩
    · exact .inl l
    · exact .inr ⟨k, c, e, cellK x c e _ z⟩
  · obtain ⟨v, z⟩ := I.cell x c e
    exact ⟨v, cellK x c e v z⟩
  · obtain ⟨m, ⟨o, _, _, ho, _⟩, _⟩ := I.loc
    exact free _ o (fun z => (hch _ z).2.1 rfl) ho I.free
  · obtain ⟨v, o, ho, hd⟩ := I.cell x c e
    exact free c o (fun z => (hch c z).2.2.1 x c e rfl) ho (I.freeC x c e)
  · obtain ⟨e, n, ne, nf, d⟩ := I.pin p hp
    have nch : p.1 ∉ ch := fun z => (hch p.1 z).2.2.2 p hp rfl
    exact ⟨keep p.1 p.2 ne nf nch e n, free p.1 p.2 nch e n, ne, nf, d⟩
theorem Inv.un {t' : Nat} (I : Inv X pins σ H s) (u : Un X.fs [] H H' s.heap h') (hok : HOk X.prog X.w H' h') : Inv X pins σ H' { s with heap := h', toks := t' } := by
  obtain ⟨m, ⟨o, es, ep, ho, r⟩, _⟩ := id I.loc
  obtain ⟨sl, hL⟩ := u.any ho I.free (by simp)
  exact I.step (g' := s.gens) (d' := s.drawn) (ch := []) (fun _ z => nomatch z) (fun b o _ hb _ e n => u.keep b o e n hb (by simp)) (fun b o _ hb _ e n => u.slot b o e n hb (by simp)) (fun b o _ e n => u.free b o e n (by simp)) (fun b o _ e => u.there b o e (by simp)) u.tups u.frzs u.tbls (fun m' hm => by
    obtain ⟨o', es', ep', ho', r'⟩ := hm
    rw [ho] at ho'; cases ho'
    exact ⟨_, es', ep', hL, r'⟩) hok I.bare
theorem Inv.call {g' : Array GenState} {t' : Nat} {d' : Drawn} {ch : List Addr} (I : Inv X pins σ H s) (u : Un (frs X.stack) ch H H' s.heap h') (hok : HOk X.prog X.w H' h') (hg : AllBare g')
    (hch : ∀ b ∈ ch, (b ∈ X.ex ∨ X.s₀.heap.objs.size ≤ b) ∧ b ≠ X.env.locals ∧ (∀ x c, X.env.cells.lookup x = some c → c ≠ b) ∧ ∀ p ∈ X.pn ++ pins, p.1 ≠ b) :
    Inv X pins σ H' { s with heap := h', gens := g', drawn := d', toks := t' } := by
  obtain ⟨m, ⟨o, es, ep, ho, r⟩, _⟩ := id I.loc
  obtain ⟨sl, hL⟩ := u.any ho I.free fun z => (hch _ z).2.1 rfl
  exact I.step (ch := ch) hch (fun b o hL hb hc e n => u.keep b o e n (fun z => (List.mem_cons.mp (I.stkSub b z)).elim hL hb) hc) (fun b o _ _ hc e n => u.any e n hc) (fun b o hc e n => u.free b o e n hc) (fun b o hc e => u.there b o e hc) u.tups u.frzs u.tbls (fun m' hm => by
    obtain ⟨o', es', ep', ho', r'⟩ := hm
    rw [ho] at ho'; cases ho'
    exact ⟨_, es', ep', hL, r'⟩) hok hg
theorem Inv.turned {t' : Nat} {it : Addr} (I : Inv X pins σ H s) (k : ∀ b o, b ≠ it → s.heap.get? b = some o → h'.get? b = some o) (hn : H it = none) (hL : it ≠ X.env.locals)
    (h1 : it ∈ X.ex ∨ X.s₀.heap.objs.size ≤ it) (h2 : ∀ x c, X.env.cells.lookup x = some c → c ≠ it) (h3 : ∀ p ∈ X.pn ++ pins, p.1 ≠ it) : Inv X pins σ H { s with heap := h', toks := t' } := by
  have nit : ∀ b u, H b = some u → b ≠ it := fun b u e z => by rw [z, hn] at e; cases e
  refine I.step (g' := s.gens) (d' := s.drawn) (ch := [it]) (fun b hb => ?_) (fun b o _ _ hc e _ => k b o (fun z => hc (by simp [z])) e) (fun b o _ _ hc e _ => ⟨o.slots, k b o (fun z => hc (by simp [z])) e⟩) (fun _ _ _ _ n => n)
    (fun b o hc e => ⟨o, k b o (fun z => hc (by simp [z])) e⟩) (fun _ _ e => e) (fun _ _ _ e => e) (fun b ps e => ⟨#[], by rw [e]; simp⟩) (fun m hm => ?_) (fun b u e => ?_) I.bare
  · have e : b = it := by simpa using hb
    subst e
    exact ⟨h1, hL, h2, h3⟩
  · obtain ⟨o, es, ep, ho, r⟩ := hm
    exact ⟨o, es, ep, k _ o (Ne.symm hL) ho, r⟩
  · refine (I.hok b u e).stay (fun c v hc q => k c v ?_ q) (fun _ q => q) (fun _ _ q => q) fun _ _ _ q => q
    rcases hc with z | z
    · rw [z]; exact nit b u e
    · exact nit c _ z
theorem Inv.tok (I : Inv X pins σ H s) (t : Nat) : Inv X pins σ H { s with toks := t } := I.un (h' := s.heap) (t' := t) Un.refl I.hok
theorem Inv.kept {t' : Nat} (I : Inv X pins σ H s) (k : ∀ b u, s.heap.get? b = some u → h'.get? b = some u) : Inv X pins σ H { s with heap := h', toks := t' } := I.un (Un.kept k) (I.hok.kept k)
theorem Inv.laid {a : Addr} {o : HO} {t' : Nat} (I : Inv X pins σ H s) (k : ∀ b u, s.heap.get? b = some u → h'.get? b = some u) (hp : s.heap.objs.size ≤ a) (new : ObjOk X.prog X.w (upd H a o) h' a o) :
    Inv X pins σ (upd H a o) { s with heap := h', toks := t' } := I.un (Un.laid k hp (I.hok.fresh hp)) (I.hok.laid k hp new)
theorem Inv.write {x e : Addr} {o : HO} {t' : Nat} (I : Inv X pins σ H s) (mu : Mut (H x)) (he : e = x ∨ H e = some (.own x)) (k : ∀ b u, b ≠ e → s.heap.get? b = some u → h'.get? b = some u) (heo : ∃ u, h'.get? e = some u)
    (new : ObjOk X.prog X.w (upd H x o) h' x o) : Inv X pins σ (upd H x o) { s with heap := h', toks := t' } := I.un (Un.write mu he k heo) (I.hok.write mu he k heo new)
theorem Inv.pins_of {pins' : List (Addr × Obj)} (I : Inv X pins σ H s) (h : ∀ p ∈ pins', s.heap.get? p.1 = some p.2 ∧ H p.1 = none ∧ p.1 ≠ X.env.locals ∧ p.1 ∉ X.fs ∧ ∀ v, p.2.data ≠ .cell v) : Inv X pins' σ H s :=
  ⟨I.ok, I.os, I.bare, I.base, I.loc, I.cell, I.free, I.freeC, fun p hp => (List.mem_append.mp hp).elim (fun z => I.pin p (List.mem_append_left _ z)) (h p), I.hok, I.len⟩
theorem nodup_ix {N : List Str} (hN : N.Nodup) {i j : Nat} {x : Str} (a : N[i]? = some x) (b : N[j]? = some x) : i = j := by
  obtain ⟨h1, e1⟩ := List.getElem?_eq_some_iff.mp a
  obtain ⟨h2, e2⟩ := List.getElem?_eq_some_iff.mp b
  exact (List.getElem_inj hN).mp (e1.trans e2.symm)
theorem store_ok2 {M : Model} {A : Around} {E : Value → Shared → Prop} {i : Nat} {x : Str} {v : V} {u : Value} {Q : Unit → Shared → Prop} (I : Inv X pins σ H s) (hN : X.N.Nodup) (hi : X.N[i]? = some x) (hx : Loc X.env.scope x) (r : RelV v u)
    (h : ∀ s', Inv X pins (σ.set i (some v)) H s' → (∃ a, Heap.SameBut a s.heap s'.heap ∧ (a = X.env.locals ∨ X.env.cells.lookup x = some a)) → Q () s') (hf : X.fn x = true ∨ X.env.scope.names.lookup x = some .local := by first | exact .inl rfl | exact .inr rfl | assumption) : wpAny M A (storeName X.env x u) Q E s := by
  obtain ⟨m, hn, hl⟩ := id I.loc
  have hcls : (X.env.scope.kind == .class || (X.env.scope.kind == .module && X.env.locals != X.env.globals)) = false := by rw [I.ok.kind]; rfl
  have hiσ : i < σ.length := by rw [I.len]; exact (List.getElem?_eq_some_iff.mp hi).1
  have cne := I.cne
  have tracked : ∀ {a : Addr} {h' : Heap}, (∃ o, s.heap.get? a = some o ∧ H a = none) → Heap.SameBut a s.heap h' → HOk X.prog X.w H h' := fun {a h'} ha hs b ob e => by
    obtain ⟨_, _, hfree⟩ := ha
    refine (I.hok b ob e).stay (fun c w' hc q => (hs.2 c ?_).trans q) (fun _ q => q) (fun _ _ q => q) fun _ _ _ q => q
    rintro rfl
    rcases hc with rfl | hc
    · rw [hfree] at e; cases e
    · rw [hfree] at hc; cases hc
  rcases hx with hk | hk
  · refine wpAny_storeName_local hk hn (fun h' hn' hs => ?_) hcls
    obtain ⟨oL, _, _, hoL, _⟩ := id hn
    refine h _ ⟨I.ok, I.os, I.bare, ⟨fun b o e n hb hx => ?_, fun b o e n hb hx => ?_, I.base.free, fun b o e hx => ?_, I.base.tups, I.base.frzs, I.base.tbls⟩, ⟨_, hn', fun j y v' e1 e2 e3 => ?_⟩, fun y c e => ?_, I.free, I.freeC, fun p hp => ?_, tracked ⟨oL, hoL, I.free⟩ hs, by simpa using I.len⟩ ⟨_, hs, .inl rfl⟩
    · exact (hs.2 b (Nat.ne_of_lt (Nat.lt_of_lt_of_le (Heap.lt_size e) I.ok.above))).trans (I.base.keep b o e n hb hx)
    · obtain ⟨sl, e1⟩ := I.base.slot b o e n hb hx
      exact ⟨sl, (hs.2 b (Nat.ne_of_lt (Nat.lt_of_lt_of_le (Heap.lt_size e) I.ok.above))).trans e1⟩
    · obtain ⟨o', e1⟩ := I.base.there b o e hx
      exact ⟨o', (hs.2 b (Nat.ne_of_lt (Nat.lt_of_lt_of_le (Heap.lt_size e) I.ok.above))).trans e1⟩
    · by_cases hj : j = i
      · subst hj
        rw [hi] at e1; cases e1
        rw [List.getElem?_set_self hiσ] at e2
        cases e2
        exact ⟨u, r, .inl ⟨hk, by simp⟩⟩
      · rw [List.getElem?_set_ne (Ne.symm hj)] at e2
        obtain ⟨u', r', q⟩ := hl j y v' e1 e2 e3
        refine ⟨u', r', ?_⟩
        rcases q with ⟨k, e⟩ | ⟨k, c, e, z⟩
        · refine .inl ⟨k, ?_⟩
          have : y ≠ x := fun e => hj (nodup_ix hN e1 (e ▸ hi))
          simp [this, e]
        · exact .inr ⟨k, c, e, z.sameBut hs (cne y c e)⟩
    · obtain ⟨w', z⟩ := I.cell y c e
      exact ⟨w', z.sameBut hs (cne y c e)⟩
    · obtain ⟨e, n, ne, nf, d⟩ := I.pin p hp
      exact ⟨(hs.2 p.1 ne).trans e, n, ne, nf, d⟩
  · have hfn : X.fn x = true := by
      rcases hf with z | z
      · exact z
      · rw [z] at hk; cases hk
    obtain ⟨c, hc⟩ := I.ok.has x (.inl hk)
    obtain ⟨w', z⟩ := I.cell x c hc
    refine wpAny_storeName_cell I.ok.kind hk hc z (fun h' hc' hs => ?_)
    obtain ⟨oc, hoc, hocd⟩ := id z
    refine h { s with heap := h' } ⟨I.ok, I.os, I.bare, ⟨fun b o e n hb hx => ?_, fun b o e n hb hx => ?_, I.base.free, fun b o e hx => ?_, I.base.tups, I.base.frzs, I.base.tbls⟩, ⟨m, hn.sameBut hs (Ne.symm (cne x c hc)), fun j y v' e1 e2 e3 => ?_⟩, fun y c' e => ?_, I.free, I.freeC, fun p hp => ?_, tracked ⟨oc, hoc, I.freeC x c hc⟩ hs, by simpa using I.len⟩ ⟨c, hs, .inr hc⟩
    · exact (hs.2 b (Nat.ne_of_lt (Nat.lt_of_lt_of_le (Heap.lt_size e) (I.ok.cab x c hfn hc)))).trans (I.base.keep b o e n hb hx)
    · obtain ⟨sl, e1⟩ := I.base.slot b o e n hb hx
      exact ⟨sl, (hs.2 b (Nat.ne_of_lt (Nat.lt_of_lt_of_le (Heap.lt_size e) (I.ok.cab x c hfn hc)))).trans e1⟩
    · obtain ⟨o', e1⟩ := I.base.there b o e hx
      exact ⟨o', (hs.2 b (Nat.ne_of_lt (Nat.lt_of_lt_of_le (Heap.lt_size e) (I.ok.cab x c hfn hc)))).trans e1⟩
    · by_cases hj : j = i
      · subst hj
        rw [hi] at e1; cases e1
        rw [List.getElem?_set_self hiσ] at e2
        cases e2
        exact ⟨u, r, .inr ⟨.inl hk, c, hc, hc'⟩⟩
      · rw [List.getElem?_set_ne (Ne.symm hj)] at e2
        obtain ⟨u', r', q⟩ := hl j y v' e1 e2 e3
        refine ⟨u', r', ?_⟩
        rcases q with q | ⟨k, c', e, z'⟩
        · exact .inl q
        · refine .inr ⟨k, c', e, z'.sameBut hs ?_⟩
          rintro rfl
          exact hj (nodup_ix hN e1 (I.ok.inj _ _ _ e hc ▸ hi))
    · by_cases hcc : c' = c
      · subst hcc; exact ⟨_, hc'⟩
      · obtain ⟨w2, z2⟩ := I.cell y c' e
        exact ⟨w2, z2.sameBut hs hcc⟩
    · obtain ⟨e, n, ne, nf, d⟩ := I.pin p hp
      refine ⟨(hs.2 p.1 ?_).trans e, n, ne, nf, d⟩
      intro q
      rw [q, hoc] at e
      have q' : oc = p.2 := Option.some.inj e
      exact d w' (by rw [← q']; exact hocd)
theorem store_ok {M : Model} {A : Around} {E : Value → Shared → Prop} {i : Nat} {x : Str} {v : V} {u : Value} {Q : Unit → Shared → Prop} (I : Inv X pins σ H s) (hN : X.N.Nodup) (hi : X.N[i]? = some x) (hx : Loc X.env.scope x) (r : RelV v u)
    (h : ∀ s', Inv X pins (σ.set i (some v)) H s' → Q () s') (hf : X.fn x = true ∨ X.env.scope.names.lookup x = some .local := by first | exact .inl rfl | exact .inr rfl | assumption) : wpAny M A (storeName X.env x u) Q E s :=
  store_ok2 I hN hi hx r (fun s' I' _ => h s' I') hf
theorem Inv.call' {s' : Shared} {ch : List Addr} (I : Inv X pins σ H s) (ho : s'.os = s.os) (u : Un (frs X.stack) ch H H' s.heap s'.heap) (hok : HOk X.prog X.w H' s'.heap) (hg : AllBare s'.gens)
    (hch : ∀ b ∈ ch, (b ∈ X.ex ∨ X.s₀.heap.objs.size ≤ b) ∧ b ≠ X.env.locals ∧ (∀ x c, X.env.cells.lookup x = some c → c ≠ b) ∧ ∀ p ∈ X.pn ++ pins, p.1 ≠ b) : Inv X pins σ H' s' := by
  obtain ⟨h', g', d', t', o'⟩ := s'
  have e : o' = s.os := ho
  subst e
  exact I.call (g' := g') (t' := t') (d' := d') u hok hg hch
end
abbrev XK := Value → Option Addr → Hp → Prop
abbrev St := List (Option V)
abbrev VK := V → Hp → Prop
abbrev TE := St → Hp → VK → Prop
abbrev TT := St → Hp → (Bool → Hp → Prop) → Prop
abbrev TA := St → Hp → (List V → Hp → Prop) → Prop
structure Ends where
  nx : St → Hp → Prop
  rt : VK
  bk : St → Hp → Prop := fun _ _ => False
  ct : St → Hp → Prop := fun _ _ => False
abbrev TS := Ends → St → Hp → Prop
def EP (X : Cx) (pins : List (Addr × Obj)) (σ : St) (Q : VK) (u : Value) (s' : Shared) : Prop := ∃ v H', Inv X pins σ H' s' ∧ RelV v u ∧ Q v H'
def TP (X : Cx) (pins : List (Addr × Obj)) (σ : St) (Q : Bool → Hp → Prop) (b : Bool) (s' : Shared) : Prop := ∃ H', Inv X pins σ H' s' ∧ Q b H'
def AP (X : Cx) (pins : List (Addr × Obj)) (σ : St) (Q : List V → Hp → Prop) (us : List Value) (s' : Shared) : Prop := ∃ vs H', Inv X pins σ H' s' ∧ Vals vs us ∧ Q vs H'
def SP (X : Cx) (pins : List (Addr × Obj)) (D : Ends) (f : Flow) (s' : Shared) : Prop :=
  match f with
  | .next => ∃ σ' H', Inv X pins σ' H' s' ∧ D.nx σ' H'
  | .brk => ∃ σ' H', Inv X pins σ' H' s' ∧ D.bk σ' H'
  | .cont => ∃ σ' H', Inv X pins σ' H' s' ∧ D.ct σ' H'
  | .ret u => ∃ v σ' H', Inv X pins σ' H' s' ∧ RelV v u ∧ D.rt v H'
def PE (X : Cx) (e : Expr) (t : TE) : Prop :=
  ∀ (pins : List (Addr × Obj)) (s : Shared) (σ : St) (H : Hp) (Q : VK), Inv X pins σ H s → t σ H Q → wpAny (model X.prog X.w) X.A (eval e X.env) (EP X pins σ Q) X.xe s
def PT (X : Cx) (e : Expr) (t : TT) : Prop :=
  ∀ (pins : List (Addr × Obj)) (s : Shared) (σ : St) (H : Hp) (Q : Bool → Hp → Prop), Inv X pins σ H s → t σ H Q → wpAny (model X.prog X.w) X.A (isTrue e X.env (eval e X.env)) (TP X pins σ Q) X.xe s
def PW (X : Cx) (e : Expr) (t : TT) : Prop :=
  ∀ (whole : Sem Value) (pins : List (Addr × Obj)) (s : Shared) (σ : St) (H : Hp) (Q : Bool → Hp → Prop), Inv X pins σ H s → t σ H Q → wpAny (model X.prog X.w) X.A (isTrue e X.env whole) (TP X pins σ Q) X.xe s
theorem PW.pt {X : Cx} {e : Expr} {t : TT} (h : PW X e t) : PT X e t := h _
def PA (X : Cx) (es : List Expr) (t : TA) : Prop :=
  ∀ (pos : Pos) (pins : List (Addr × Obj)) (s : Shared) (σ : St) (H : Hp) (Q : List V → Hp → Prop), Inv X pins σ H s → t σ H Q → wpAny (model X.prog X.w) X.A (spliced (backTo pos (starEach es X.env))) (AP X pins σ Q) X.xe s
def PS (X : Cx) (st : Stmt) (t : TS) : Prop :=
  ∀ (pins : List (Addr × Obj)) (s : Shared) (σ : St) (H : Hp) (D : Ends), Inv X pins σ H s → t D σ H → wpAny (model X.prog X.w) X.A (exec st X.env) (SP X pins D) X.xe s
def PSs (X : Cx) (st : List Stmt) (t : TS) : Prop :=
  ∀ (pins : List (Addr × Obj)) (s : Shared) (σ : St) (H : Hp) (D : Ends), Inv X pins σ H s → t D σ H → wpAny (model X.prog X.w) X.A (execs st X.env) (SP X pins D) X.xe s
theorem thn {α : Type} {t : Sem α} {Q Q' : α → Shared → Prop} {M : Model} {A : Around} {E : Value → Shared → Prop} {s : Shared} (h : wpAny M A t Q E s) (hQ : ∀ a s, Q a s → Q' a s) : wpAny M A t Q' E s := wpAny_mono h hQ fun _ _ x => x
end L2
namespace L2
open PySem PySem.Spec PyProof.Rows
section
variable {X : Cx}
def tVar (i : Nat) : TE := fun σ H Q => ∃ v, σ[i]? = some (some v) ∧ Q v H
def tC (v : V) : TE := fun _ H Q => Q v H
theorem pe_var {i : Nat} {x : Str} {pos : Pos} (hN : X.N[i]? = some x) (hv : Vis X.env.scope x) (hd : (x == ("__debug__" : Str)) = false := by decide) (hcd : (x == ("__classdict__" : Str)) = false := by decide) : PE X (.Name x pos) (tVar i) := by
  intro pins s σ H Q I h
  obtain ⟨v, e, h⟩ := h
  obtain ⟨m, hn, hl⟩ := I.loc
  obtain ⟨u, r, l⟩ := hl i x v hN e hv
  have fin : EP X pins σ Q u s := ⟨v, H, I, r, h⟩
  rcases l with ⟨hk, hm⟩ | ⟨hk, c, hc, hcell⟩
  · exact wpAny_Name (wpAny_loadName_local I.ok.kind hk hn hm fin) hd
  · rcases hk with hk | hk
    · exact wpAny_Name (wpAny_loadName_cell I.ok.kind hk hc hcell fin) hd
    · exact wpAny_Name (wpAny_loadName_free I.ok.kind hk hc hcell fin hcd) hd
theorem pe_int {i j pos} : PE X (.Constant (.int i) j pos) (tC (.int i)) := fun _ _ _ H _ I h => wpAny_Constant_int ⟨.int i, H, I.tok _, ⟨_, rfl⟩, h⟩
theorem pe_bl {b j pos} : PE X (.Constant (.bool b) j pos) (tC (.bl b)) := fun _ _ _ H _ I h => Constant_bool ⟨.bl b, H, I, rfl, h⟩
theorem pe_non {j pos} : PE X (.Constant .none j pos) (tC .non) := fun _ _ _ H _ I h => Constant_none ⟨.non, H, I, rfl, h⟩
theorem pe_str {x j pos} : PE X (.Constant (.str x) j pos) (tC (.str x)) := fun _ _ _ H _ I h => Calls.Constant_str ⟨.str x, H, I.tok _, ⟨_, rfl⟩, h⟩
def Gl (X : Cx) (x : Str) : Prop := X.env.kindOf x = some .globalImplicit
theorem ld_glob {E : Value → Shared → Prop} {pins : List (Addr × Obj)} {s : Shared} {σ : St} {H : Hp} {x : Str} {u : Value} {pos : Pos} {Q : Value → Shared → Prop} (I : Inv X pins σ H s) (hg : Gl X x) (hm : X.mg x = some u) (h : Q u s)
    (hd : (x == ("__debug__" : Str)) = false := by decide) : wpAny (model X.prog X.w) X.A (eval (.Name x pos) X.env) Q E s :=
  Calls.Name_function_global I.ok.kind hg (Calls.loadGlobal_global (by rw [I.ok.glob]; exact I.mod.glob.keeps I.bk) hm h) hd
theorem ld_blt {E : Value → Shared → Prop} {pins : List (Addr × Obj)} {s : Shared} {σ : St} {H : Hp} {x : Str} {u : Value} {pos : Pos} {Q : Value → Shared → Prop} (I : Inv X pins σ H s) (hg : Gl X x) (hm : X.mg x = none) (hv : bootBuiltins x = some u) (h : Q u s)
    (hn : x ≠ "__name__" := by decide) (hd : (x == ("__debug__" : Str)) = false := by decide) : wpAny (model X.prog X.w) X.A (eval (.Name x pos) X.env) Q E s := by
  obtain ⟨mb, h1, h2⟩ := I.mod.blt
  exact Calls.Name_function_global I.ok.kind hg (Calls.loadGlobal_builtin (by rw [I.ok.glob]; exact I.mod.glob.keeps I.bk) hm (by rw [I.ok.blt]; exact h1.keeps I.bk) ((h2 x hn).trans hv) h) hd
theorem pe_glob {x : Str} {v : V} {u : Value} {pos : Pos} (hg : Gl X x) (hm : X.mg x = some u) (r : RelV v u) (hd : (x == ("__debug__" : Str)) = false := by decide) : PE X (.Name x pos) (tC v) :=
  fun _ _ _ H _ I h => ld_glob I hg hm ⟨v, H, I, r, h⟩ hd
theorem pe_bltn {x : Str} {v : V} {u : Value} {pos : Pos} (hg : Gl X x) (hm : X.mg x = none) (hv : bootBuiltins x = some u) (r : RelV v u) (hn : x ≠ "__name__" := by decide) (hd : (x == ("__debug__" : Str)) = false := by decide) : PE X (.Name x pos) (tC v) :=
  fun _ _ _ H _ I h => ld_blt I hg hm hv ⟨v, H, I, r, h⟩ hn hd
variable {a b : Expr} {ta tb : TE} {pos : Pos}
def tB (t : TE) : TT := fun σ H Q => t σ H fun x H1 => ∃ c, x = .bl c ∧ Q c H1
theorem pt_val {e : Expr} {t : TE} (h : PE X e t) (he : ∀ whole, isTrue e X.env whole = (do let v ← whole; standAt e.pos; holding [v] (truthy v)) := by intro _; rfl) : PT X e (tB t) := by
  intro pins s σ H Q I hw
  refine isTrue_plain (thn (h pins s σ H _ I hw) fun v s1 ⟨x, H1, I1, r1, q1⟩ => ?_) (he _)
  obtain ⟨d, rfl, q⟩ := q1
  cases r1
  exact wpAny_truthy_bool ⟨H1, I1, q⟩
variable {tA tB' : TT} {rest : List Expr}
def tOr (t u : TT) : TT := fun σ H Q => t σ H fun c H1 => if c = true then Q true H1 else u σ H1 Q
def tNot (t : TT) : TT := fun σ H Q => t σ H fun c H1 => Q (!c) H1
theorem pw_or1 (ha : PT X a tA) : PW X (.BoolOp .Or [a] pos) tA := by
  intro wh pins s σ H Q I h
  refine isTrue_or (thn (ha pins s σ H Q I h) fun c s1 e => ?_)
  cases c with
  | false => exact isTrue_or_nil e
  | true => exact e
theorem pw_or (ha : PT X a tA) (hb : PW X (.BoolOp .Or (b :: rest) pos) tB') : PW X (.BoolOp .Or (a :: b :: rest) pos) (tOr tA tB') := by
  intro wh pins s σ H Q I h
  refine isTrue_or (thn (ha pins s σ H _ I h) fun c s1 ⟨H1, I1, q1⟩ => ?_)
  cases c with
  | true => exact ⟨H1, I1, q1⟩
  | false => exact hb wh pins s1 σ H1 Q I1 q1
theorem pt_not (ha : PT X a tA) : PT X (.UnaryOp .Not a pos) (tNot tA) := by
  intro pins s σ H Q I h
  exact isTrue_not (ha pins s σ H (fun c H1 => Q (!c) H1) I h)
def tIf (t : TT) (ta tb : TE) : TE := fun σ H Q => t σ H fun c H1 => if c = true then ta σ H1 Q else tb σ H1 Q
theorem pe_ifExp {c : Expr} (hc : PT X c tA) (ha : PE X a ta) (hb : PE X b tb) : PE X (.IfExp c a b pos) (tIf tA ta tb) := by
  intro pins s σ H Q I h
  refine wpAny_IfExp (thn (hc pins s σ H _ I h) fun d s1 ⟨H1, I1, q1⟩ => ?_)
  cases d with
  | true => exact ha pins s1 σ H1 Q I1 q1
  | false => exact hb pins s1 σ H1 Q I1 q1
end
end L2
namespace L2
open PySem PySem.Spec PyProof.Rows
def SqL (K : PySem.W.Frag) (H : Hp) (a : Addr) (xs : List V) : Prop :=
  Rd H a (.lst xs) ∨
    ∃ (o : Obj) (its : Array Value) (n : Nat), K.lookup a = some o ∧ o.cls = .type "list" ∧ o.dict = none ∧ o.data = .seq its n ∧ its.size ≤ sizeLine ∧ Vals xs its.toList
def SqT (K : PySem.W.Frag) (H : Hp) (a : Addr) (xs : List V) : Prop :=
  Rd H a (.tup xs) ∨
    ∃ (o : Obj) (its : Array Value) (n : Nat), K.lookup a = some o ∧ (o.cls = .type "tuple" ∧ o.dict = none) ∧ o.data = .seq its n ∧ its.size ≤ sizeLine ∧ Vals xs its.toList
def absV : Value → Option V
  | .none => some .non
  | .bool b => some (.bl b)
  | .int i _ => some (.int i)
  | .str x _ => some (.str x)
  | .bytes b _ => some (.byt b)
  | .float b _ => some (.flt b)
  | .ref a => some (.ref a)
  | .type n => some (.ty n)
  | _ => none
theorem RelV.abs {x : V} {u : Value} (r : RelV x u) : absV u = some x := by
  cases x with
  | non => cases r; rfl
  | bl _ => cases r; rfl
  | int _ => obtain ⟨t, rfl⟩ := r; rfl
  | str _ => obtain ⟨t, rfl⟩ := r; rfl
  | byt _ => obtain ⟨t, rfl⟩ := r; rfl
  | flt _ => obtain ⟨t, rfl⟩ := r; rfl
  | ref _ => cases r; rfl
  | ty _ => cases r; rfl
theorem RelV.inj {x y : V} {u : Value} (r : RelV x u) (q : RelV y u) : x = y := Option.some.inj (r.abs.symm.trans q.abs)
theorem Vals.inj : ∀ {xs ys : List V} {us : List Value}, Vals xs us → Vals ys us → xs = ys
  | _, _, _, .nil, .nil => rfl
  | _, _, _, .cons r t, .cons r' t' => by rw [r.inj r', Vals.inj t t']
section
variable {X : Cx} {pins : List (Addr × Obj)} {σ : St} {H : Hp} {s : Shared} {a : Addr} {xs ys : List V}
theorem SqL.of {K : PySem.W.Frag} (h : H a = some (.lst xs)) : SqL K H a xs := .inl (.inl h)
theorem SqT.of {K : PySem.W.Frag} (h : H a = some (.tup xs)) : SqT K H a xs := .inl (.inl h)
theorem Inv.list (I : Inv X pins σ H s) (h : SqL X.K H a xs) : ∃ its : List Value, Vals xs its ∧ PlainL s.heap a its.toArray ∧ xs.length ≤ sizeLine := by
  rcases h with h | ⟨o, its, n, hk, hc, hd, hs, hz, r⟩
  · obtain ⟨z, its, n, r, e⟩ := h.ok I.hok
    exact ⟨its, r, ⟨_, n, e, rfl, rfl, rfl⟩, z⟩
  · refine ⟨its.toList, r, ⟨o, n, I.kIn a o hk, hc, hd, by simpa using hs⟩, ?_⟩
    have e := r.length
    simp only [Array.length_toList] at e
    omega
theorem Inv.tuple (I : Inv X pins σ H s) (h : SqT X.K H a xs) : ∃ its : List Value, Vals xs its ∧ IsTup s.heap a its.toArray ∧ xs.length ≤ sizeLine := by
  rcases h with h | ⟨o, its, n, hk, hc, hs, hz, r⟩
  · obtain ⟨z, its, r, p⟩ := h.ok I.hok
    exact ⟨its, r, p, z.1⟩
  · refine ⟨its.toList, r, ⟨o, I.kIn a o hk, hc.1, n, by simpa using hs⟩, ?_⟩
    have e := r.length
    simp only [Array.length_toList] at e
    omega
end
abbrev Cx.wish (X : Cx) (E : Value → Shared → Prop) : Cx := { X with xe := E }
abbrev Cx.nox (X : Cx) : Cx := X.wish fun _ _ => False
theorem Cx.Ok.wish {X : Cx} (ok : X.Ok) (E : Value → Shared → Prop) : (X.wish E).Ok :=
  ⟨ok.mod, ok.kind, ok.glob, ok.blt, ok.above, ok.inj, ok.has, ok.cab, ok.hd, ok.frames, ok.stk, ok.exf, ok.bs, ok.bsz, ok.noex, ok.exfs, ok.funs, ok.frf⟩
theorem Cx.Ok.unwish {X : Cx} {E : Value → Shared → Prop} (ok : (X.wish E).Ok) : X.Ok :=
  ⟨ok.mod, ok.kind, ok.glob, ok.blt, ok.above, ok.inj, ok.has, ok.cab, ok.hd, ok.frames, ok.stk, ok.exf, ok.bs, ok.bsz, ok.noex, ok.exfs, ok.funs, ok.frf⟩
section
variable {X : Cx} {pins : List (Addr × Obj)} {σ : St} {H : Hp} {s : Shared} {E : Value → Shared → Prop}
theorem Inv.wish (I : Inv X pins σ H s) (E : Value → Shared → Prop) : Inv (X.wish E) pins σ H s := ⟨I.ok.wish E, I.os, I.bare, I.base, I.loc, I.cell, I.free, I.freeC, I.pin, I.hok, I.len⟩
theorem Inv.unwish (I : Inv (X.wish E) pins σ H s) : Inv X pins σ H s := ⟨I.ok.unwish, I.os, I.bare, I.base, I.loc, I.cell, I.free, I.freeC, I.pin, I.hok, I.len⟩
theorem SP.unwish {D : Ends} {f : Flow} {s' : Shared} (h : SP (X.wish E) pins D f s') : SP X pins D f s' := by
  cases f with
  | next => obtain ⟨σ', H', I, q⟩ := h; exact ⟨σ', H', I.unwish, q⟩
  | brk => obtain ⟨σ', H', I, q⟩ := h; exact ⟨σ', H', I.unwish, q⟩
  | cont => obtain ⟨σ', H', I, q⟩ := h; exact ⟨σ', H', I.unwish, q⟩
  | ret u => obtain ⟨v, σ', H', I, r, q⟩ := h; exact ⟨v, σ', H', I.unwish, r, q⟩
theorem PE.nox {e : Expr} {t : TE} (h : PE X.nox e t) : PE X e t := fun pins s σ H Q I hw =>
  wpAny_mono (h pins s σ H Q (I.wish _) hw) (fun _ _ ⟨v, H', I', r, q⟩ => ⟨v, H', I'.unwish, r, q⟩) fun _ _ z => False.elim z
theorem PT.nox {e : Expr} {t : TT} (h : PT X.nox e t) : PT X e t := fun pins s σ H Q I hw =>
  wpAny_mono (h pins s σ H Q (I.wish _) hw) (fun _ _ ⟨H', I', q⟩ => ⟨H', I'.unwish, q⟩) fun _ _ z => False.elim z
theorem PSs.nox {st : List Stmt} {t : TS} (h : PSs X.nox st t) : PSs X st t := fun pins s σ H D I hw =>
  wpAny_mono (h pins s σ H D (I.wish _) hw) (fun _ _ q => q.unwish) fun _ _ z => False.elim z
end
section
variable {X : Cx} {st : Stmt} {rest : List Stmt} {t u : TS} {e : Expr} {te : TE} {pos : Pos}
def tNext : TS := fun D σ H => D.nx σ H
def tSeq (t u : TS) : TS := fun D σ H => t { D with nx := u D } σ H
theorem pss_nil : PSs X [] tNext := fun _ _ σ H _ I h => wpAny_execs_nil ⟨σ, H, I, h⟩
theorem pss_cons (h1 : PS X st t) (h2 : PSs X rest u) : PSs X (st :: rest) (tSeq t u) := by
  intro pins s σ H D I h
  refine wpAny_execs_cons (thn (h1 pins s σ H { D with nx := u D } I h) fun f s1 q => ?_)
  cases f with
  | next =>
    obtain ⟨σ', H', I', q⟩ := q
    exact h2 pins s1 σ' H' D I' q
  | ret v => exact q
  | brk => exact q
  | cont => exact q
theorem Inv.quiet {pins : List (Addr × Obj)} {σ : St} {H : Hp} {s : Shared} (I : Inv X pins σ H s) : interactive X.env = false := by simp [interactive, I.ok.kind]
def tRet (te : TE) : TS := fun D σ H => te σ H D.rt
theorem ps_ret (he : PE X e te) : PS X (.Return (some e) pos) (tRet te) := by
  intro pins s σ H D I h
  exact wpAny_Return_some (thn (he pins s σ H _ I h) fun v s1 ⟨x, H1, I1, r1, q1⟩ => ⟨x, σ, H1, I1, r1, q1⟩)
def tIfS (c : TT) (t u : TS) : TS := fun D σ H => c σ H fun b H1 => if b = true then t D σ H1 else u D σ H1
theorem ps_if {c : Expr} {a b : List Stmt} {tc : TT} (hc : PT X c tc) (ha : PSs X a t) (hb : PSs X b u) : PS X (.If c a b pos) (tIfS tc t u) := by
  intro pins s σ H D I h
  refine wpAny_If (thn (hc pins s σ H _ I h) fun d s1 ⟨H1, I1, q1⟩ => ?_)
  cases d with
  | true => exact ha pins s1 σ H1 D I1 q1
  | false => exact hb pins s1 σ H1 D I1 q1
end
abbrev TG := V → St → Hp → (St → Hp → Prop) → Prop
abbrev TGs := List V → St → Hp → (St → Hp → Prop) → Prop
def PG (X : Cx) (target : Expr) (t : TG) : Prop :=
  ∀ (pins : List (Addr × Obj)) (s : Shared) (σ : St) (H : Hp) (v : V) (u : Value) (Q : St → Hp → Prop), Inv X pins σ H s → RelV v u → t v σ H Q →
    wpAny (model X.prog X.w) X.A (assign target X.env u) (fun _ s' => ∃ σ' H', Inv X pins σ' H' s' ∧ Q σ' H') X.xe s
def PGs (X : Cx) (ts : List Expr) (t : TGs) : Prop :=
  ∀ (pins : List (Addr × Obj)) (s : Shared) (σ : St) (H : Hp) (vs : List V) (us : List Value) (Q : St → Hp → Prop), Inv X pins σ H s → Vals vs us → t vs σ H Q →
    wpAny (model X.prog X.w) X.A (assignInOrder ((assignEach ts X.env).map (·.2)) us) (fun _ s' => ∃ σ' H', Inv X pins σ' H' s' ∧ Q σ' H') X.xe s
abbrev TSet := V → V → V → Hp → (Hp → Prop) → Prop
section
variable {X : Cx} {pos : Pos}
def gName (i : Nat) : TG := fun v σ H Q => Q (σ.set i (some v)) H
theorem pg_name {i : Nat} {x : Str} (hN : X.N.Nodup) (hi : X.N[i]? = some x) (hx : Loc X.env.scope x) (hf : X.fn x = true ∨ X.env.scope.names.lookup x = some .local := by first | exact .inl rfl | exact .inr rfl | assumption) : PG X (.Name x pos) (gName i) := by
  intro pins s σ H v u Q I r h
  exact wpAny_assign_Name (store_ok I hN hi hx r (fun s' I' => ⟨_, H, I', h⟩) hf)
def tAsg (te : TE) (g : TG) : TS := fun D σ H => te σ H fun x H1 => g x σ H1 D.nx
theorem ps_set {i : Nat} {x : Str} {e : Expr} {te : TE} {pos' : Pos} (hN : X.N.Nodup) (hi : X.N[i]? = some x) (hx : Loc X.env.scope x) (he : PE X e te) (hs : swapsWith e (some (.Name x pos')) pos.line X.env = pure false := by rfl) (hf : X.fn x = true ∨ X.env.scope.names.lookup x = some .local := by first | exact .inl rfl | exact .inr rfl | assumption) :
    PS X (.Assign [.Name x pos'] e pos) (tAsg te (gName i)) := by
  intro pins s σ H D I h
  refine wpAny_Assign_Name (thn (he pins s σ H _ I h) fun v s1 ⟨y, H1, I1, r1, q1⟩ => ?_) hs
  exact store_ok I1 hN hi hx r1 (fun s2 I2 => ⟨_, H1, I2, q1⟩) hf
end
section
variable {X : Cx} {pos : Pos}
end
structure It where
  go : Nat → Hp → Prop
  yld : Nat → Hp → V → Hp → Prop
  stop : Nat → Hp → Prop
def FpOk (X : Cx) (pins : List (Addr × Obj)) (H : Hp) (b : Addr) : Prop :=
  H b = none ∧ b ≠ X.env.locals ∧ b ∉ X.fs ∧ (b ∈ X.ex ∨ X.s₀.heap.objs.size ≤ b) ∧ (∀ x c, X.env.cells.lookup x = some c → c ≠ b) ∧ ∀ p ∈ X.pn ++ pins, p.1 ≠ b
theorem Inv.fpOk {X : Cx} {pins : List (Addr × Obj)} {σ : St} {H H' : Hp} {s : Shared} {b : Addr} (I : Inv X pins σ H s) (hb : s.heap.objs.size ≤ b) (hn : H' b = none) : FpOk X pins H' b := by
  refine ⟨hn, Nat.ne_of_gt (Nat.lt_of_lt_of_le I.lt hb), I.nofs hb, .inr (Nat.le_trans I.sz hb), fun x c e z => ?_, fun p hp z => ?_⟩
  · obtain ⟨v, q⟩ := I.cell x c e
    exact absurd (Nat.lt_of_lt_of_le q.lt (by rw [z]; exact hb)) (Nat.lt_irrefl _)
  · exact absurd (Nat.lt_of_lt_of_le (Heap.lt_size (I.pin p hp).1) (by rw [z]; exact hb)) (Nat.lt_irrefl _)
structure Turn (P : Program) (w : World) (K : PySem.W.Frag) (tg : Expr) (J : It) (fp : List Addr) (it : Addr) (tn : Nat → Heap → Prop) : Prop where
  mem : it ∈ fp
  obj : ∀ i h, tn i h → ∀ b ∈ fp, ∃ o, h.get? b = some o ∧ ∀ v, o.data ≠ .cell v
  keep : ∀ i h h', tn i h → (∀ b ∈ fp, ∀ o, h.get? b = some o → h'.get? b = some o) → tn i h'
  item : ∀ (X : Cx), X.prog = P → X.w = w → X.K = K → X.calm = true → ∀ (i : Nat) (pins : List (Addr × Obj)) (s : Shared) (σ : St) (H : Hp) (E : Value → Shared → Prop), Inv X pins σ H s → (∀ b ∈ fp, FpOk X pins H b) → tn i s.heap → J.go i H →
    wpAny (model P w) X.A (pyNext (.ref it)) (fun r s1 => ∃ u, r = some u ∧
      wpAny (model P w) X.A (letOwnedTupleGo tg (.ref it) u) (fun _ s2 => ∃ x H', Inv X pins σ H' s2 ∧ RelV x u ∧ J.yld i H x H' ∧ tn (i + 1) s2.heap ∧ ∀ b ∈ fp, H' b = none) E s1) E s
  done : ∀ (X : Cx), X.prog = P → X.w = w → X.K = K → X.calm = true → ∀ (i : Nat) (pins : List (Addr × Obj)) (s : Shared) (σ : St) (H : Hp) (E : Value → Shared → Prop), Inv X pins σ H s → (∀ b ∈ fp, FpOk X pins H b) → tn i s.heap → J.stop i H →
    wpAny (model P w) X.A (pyNext (.ref it)) (fun r s1 => r = none ∧ Inv X pins σ H s1) E s
  self : ∀ (A : Around) (i : Nat) (s : Shared) (Q : Value → Shared → Prop) (E : Value → Shared → Prop), tn i s.heap → Q (.ref it) s → wpAny (model P w) A (pyIter (.ref it)) Q E s
abbrev TI := St → Hp → (It → Hp → Prop) → Prop
def PIE (X : Cx) (pins : List (Addr × Obj)) (σ : St) (tg : Expr) (R : It → Hp → Prop) (itv : Value) (s2 : Shared) : Prop :=
  ∃ (it : Addr) (fp : List Addr) (tn : Nat → Heap → Prop) (J : It) (H' : Hp), itv = .ref it ∧ Inv X pins σ H' s2 ∧ Turn X.prog X.w X.K tg J fp it tn ∧ tn 0 s2.heap ∧ (∀ b ∈ fp, FpOk X pins H' b) ∧ R J H'
def PI (X : Cx) (tg iter : Expr) (wi : TI) : Prop :=
  ∀ (pins : List (Addr × Obj)) (s : Shared) (σ : St) (H : Hp) (R : It → Hp → Prop), Inv X pins σ H s → wi σ H R →
    wpAny (model X.prog X.w) X.A (eval iter X.env) (fun v s1 => wpAny (model X.prog X.w) X.A (pyIter v) (PIE X pins σ tg R) X.xe s1) X.xe s
theorem go_of {M : Model} {A : Around} {E : Value → Shared → Prop} {s : Shared} {tg : Expr} {it : Addr} {u : Value} {o : Obj} {n : String} {vs : Array Value} {Q : Unit → Shared → Prop} (ho : s.heap.get? it = some o) (hc : o.cls = .type n) (hd : o.data = .fields vs)
    (hn : ["enumerate", "zip", "dict_itemiterator", "dict_reverseitemiterator", "odict_iterator", "itertools.zip_longest", "itertools.pairwise"].contains n = false) (hQ : Q () s) : wpAny M A (letOwnedTupleGo tg (.ref it) u) Q E s := by
  unfold letOwnedTupleGo
  cases tg <;> first
    | exact wpAny_pure hQ
    | (cases u <;> first
        | exact wpAny_pure hQ
        | (refine wpAny_bind (wpAny_load ho ?_)
           rw [hc, hd]
           show wpAny M A (if (["enumerate", "zip", "dict_itemiterator", "dict_reverseitemiterator", "odict_iterator", "itertools.zip_longest", "itertools.pairwise"].contains n && vs[0]? == some (rawInt _)) = true then _ else _) Q E s
           rw [if_neg (by intro h; rw [hn, Bool.false_and] at h; cases h)]
           exact wpAny_pure hQ))
def Itr (lo : Int) (n : Nat) : It := ⟨fun i _ => i < n, fun i H x H' => H' = H ∧ x = .int (lo + i), fun i _ => n ≤ i⟩
theorem turn_range {P : Program} {w : World} {K : PySem.W.Frag} {tg : Expr} (it : Addr) (lo : Int) (n : Nat) : Turn P w K tg (Itr lo n) [it] it (fun i h => IsRangeIter h it (lo + (i : Nat) * 1) ((n : Int) - (i : Nat)) 1) where
  mem := by simp
  obj := fun i h st b hb => by
    have e : b = it := by simpa using hb
    subst e
    exact ⟨_, st, fun v z => by
      have z' : Data.fields _ = Data.cell v := z
      cases z'⟩
  keep := fun i h h' st k => k it (by simp) _ st
  item := by
    intro X hP hw hK hc i pins s σ H E I hf st hg
    subst hP hw hK
    obtain ⟨f0, f1, f2, f3, f4, f5⟩ := hf it (by simp)
    have W := Walks.range (prog := X.prog) (w := X.w) (I.ok.hd hc) it lo 1 n
    refine W.item i s _ _ hg st fun v h' tk hv st' kk => ?_
    obtain ⟨t, rfl⟩ := hv
    have I1 : Inv X pins σ H { s with heap := h', toks := tk } := I.turned (fun b o hb e => kk b o (by simpa using hb) e) f0 f1 f3 f4 f5
    refine ⟨_, rfl, go_of (s := { s with heap := h', toks := tk }) (n := "range_iterator") st' rfl rfl (by decide) ⟨.int (lo + i), H, I1, ⟨t, ?_⟩, ⟨rfl, rfl⟩, st', fun b hb => (hf b hb).1⟩⟩
    rw [Int.mul_one]
  done := by
    intro X hP hw hK hc i pins s σ H E I hf st hg
    subst hP hw hK
    obtain ⟨f0, f1, f2, f3, f4, f5⟩ := hf it (by simp)
    exact wpAny_pyNext_range_end (I.ok.hd hc) st (by have : n ≤ i := hg; omega) fun h' eb => ⟨rfl, I.turned (t' := s.toks) (fun b o hb e => eb b o hb e) f0 f1 f3 f4 f5⟩
  self := fun _ _ _ _ _ st h => wpAny_pyIter_rangeiter st h
end L2
namespace L2
open PySem PySem.Spec PyProof.Rows
section
variable {X : Cx} {tg : Expr}
theorem range_it {pins : List (Addr × Obj)} {σ : St} {H : Hp} {s : Shared} {R : It → Hp → Prop} {E : Value → Shared → Prop} {lo hi : Int} {t u v : Tok} {tk : Nat} (I : Inv X pins σ H s) (h1 : -(2 ^ 62) ≤ lo) (h2 : lo < 2 ^ 62) (h3 : -(2 ^ 62) ≤ hi) (h4 : hi < 2 ^ 62)
    (q : R (Itr lo (hi - lo).toNat) H) : wpAny (model X.prog X.w) X.A (pyIter (.ref s.heap.objs.size)) (PIE X pins σ tg R) E { s with heap := s.heap.push { cls := .type "range", data := .fields #[.int lo t, .int hi u, .int 1 v] }, toks := tk } := by
  refine wpAny_pyIter_range (IsRange.new ..) (small_one h1 h2 h3 h4) ?_
  have I1 : Inv X pins σ H { s with heap := s.heap.push { cls := .type "range", data := .fields #[.int lo t, .int hi u, .int 1 v] }, toks := tk } := I.kept fun b o e => Heap.get?_push_of_some _ e
  refine ⟨(s.heap.push { cls := .type "range", data := .fields #[.int lo t, .int hi u, .int 1 v] }).objs.size, [(s.heap.push { cls := .type "range", data := .fields #[.int lo t, .int hi u, .int 1 v] }).objs.size], _, _, H, rfl,
    I1.kept (t' := tk) fun b o e => Heap.get?_push_of_some _ e, turn_range _ lo (hi - lo).toNat, ?_, fun b hb => ?_, q⟩
  · have e1 : lo + ((0 : Nat) : Int) * 1 = lo := by simp
    have e2 : (((hi - lo).toNat : Nat) : Int) - ((0 : Nat) : Int) = Builtin.Range.rangeSize lo hi 1 := by rw [rangeSize_one]; split <;> omega
    show IsRangeIter _ _ (lo + ((0 : Nat) : Int) * 1) ((((hi - lo).toNat : Nat) : Int) - ((0 : Nat) : Int)) 1
    rw [e1, e2]
    exact Heap.get?_push_size _ rfl
  · have e : b = (s.heap.push { cls := .type "range", data := .fields #[.int lo t, .int hi u, .int 1 v] }).objs.size := by simpa using hb
    subst e
    exact I1.fpOk (Nat.le_refl _) (I1.hok.fresh (Nat.le_refl _))
def iRng1 (ta : TA) : TI := fun σ H R => ta σ H fun vs H1 => ∃ j : Int, vs = [.int j] ∧ -(2 ^ 62) ≤ j ∧ j < 2 ^ 62 ∧ R (Itr 0 j.toNat) H1
theorem pi_range1 {a : Expr} {ta : TA} {p pos : Pos} (hg : Gl X "range") (hm : X.mg "range" = none) (ha : PA X [a] ta) (hs : starEach [a] X.env = [(false, eval a X.env)] := by rfl) : PI X tg (.Call (.Name "range" p) [a] [] pos) (iRng1 ta) := by
  intro pins s σ H R I h
  refine Call_ (ld_blt I hg hm boot_range (PyProof.Rows.callWith_type1 (thn (ha pos pins s σ H _ I h) fun us s1 ⟨vs, H1, I1, r1, q1⟩ => ?_) hs rfl))
  obtain ⟨j, e, q1, q2, q⟩ := q1
  subst e
  cases r1 with
  | cons r rr =>
    cases rr
    obtain ⟨t, rfl⟩ := r
    exact call_range_1 (range_it I1 (by omega) (by omega) q1 q2 (by simpa using q))
def tFor (wi : TI) (g : TG) (tb : TS) : TS := fun D σ H => wi σ H fun J H1 => ∃ W : Nat → Nat → St → Hp → Prop, (∃ m, W 0 m σ H1) ∧ ∀ i m σ H, W i m σ H →
  (J.stop i H ∧ D.nx σ H) ∨ (J.go i H ∧ ∃ N : St → Hp → Prop, (∀ σ' H', N σ' H' → ∃ m', m' < m ∧ W (i + 1) m' σ' H') ∧ ∀ x H', J.yld i H x H' → g x σ H' fun σ2 H2 => tb { D with nx := N, ct := N, bk := D.nx } σ2 H2)
def pinsAt (fp : List Addr) (h : Heap) : List (Addr × Obj) := fp.filterMap fun b => (h.get? b).map fun o => (b, o)
theorem mem_pinsAt {fp : List Addr} {h : Heap} {b : Addr} {o : Obj} (hb : b ∈ fp) (e : h.get? b = some o) : (b, o) ∈ pinsAt fp h := List.mem_filterMap.mpr ⟨b, hb, by rw [e]; rfl⟩
theorem of_pinsAt {fp : List Addr} {h : Heap} {p : Addr × Obj} (hp : p ∈ pinsAt fp h) : p.1 ∈ fp ∧ h.get? p.1 = some p.2 := by
  obtain ⟨b, hb, e⟩ := List.mem_filterMap.mp hp
  cases q : h.get? b with
  | none => rw [q] at e; cases e
  | some o =>
    rw [q] at e
    have e' : (b, o) = p := Option.some.inj e
    subst e'
    exact ⟨hb, q⟩
theorem Inv.pinned {pins : List (Addr × Obj)} {σ : St} {H : Hp} {s : Shared} {fp : List Addr} (I : Inv X pins σ H s) (hf : ∀ b ∈ fp, FpOk X pins H b) (ho : ∀ b ∈ fp, ∃ o, s.heap.get? b = some o ∧ ∀ v, o.data ≠ .cell v) : Inv X (pins ++ pinsAt fp s.heap) σ H s :=
  I.pins_of fun p hp => (List.mem_append.mp hp).elim (fun z => I.pin p (List.mem_append_right _ z)) fun z => by
    obtain ⟨hb, e⟩ := of_pinsAt z
    obtain ⟨f0, f1, f2, _⟩ := hf p.1 hb
    obtain ⟨o, e', d⟩ := ho p.1 hb
    rw [e] at e'; cases e'
    exact ⟨e, f0, f1, f2, d⟩
theorem Inv.unpinned {pins pl : List (Addr × Obj)} {σ : St} {H : Hp} {s : Shared} (I : Inv X (pins ++ pl) σ H s) : Inv X pins σ H s := I.pins_of fun p hp => I.pin p (List.mem_append_right _ (List.mem_append_left _ hp))
theorem ps_for {iter : Expr} {body : List Stmt} {wi : TI} {g : TG} {tb : TS} {pos : Pos} (hp : PassesOwn (model X.prog X.w) X.A X.env X.xe) (hc : X.calm = true) (hi : PI X tg iter wi) (hg : PG X tg g) (hb : PSs X body tb)
    (hs : ∀ x, foldedSetIterable iter X.env x = pure x := by intro _; rfl) : PS X (.For tg iter body [] pos) (tFor wi g tb) := by
  intro pins s σ H D I h
  refine wpAny_For (thn (hi pins s σ H _ I h) fun v s1 h1 => thn h1 fun itv s2 h2 => ?_) hs
  obtain ⟨it, fp, tn, J, H2, e, I2, T, st2, f2, W, ⟨m0, w0⟩, turn⟩ := h2
  subst e
  -- what stays true of the iterator's objects through the loop
  have stat : ∀ {H' : Hp}, (∀ b ∈ fp, H' b = none) → ∀ b ∈ fp, FpOk X pins H' b := fun hn b hb => ⟨hn b hb, (f2 b hb).2⟩
  refine codeAny_forLoop_any (fun n s' => ∃ i σ' H', Inv X pins σ' H' s' ∧ tn i s'.heap ∧ (∀ b ∈ fp, H' b = none) ∧ W i n σ' H') ?_ m0 ⟨0, σ, H2, I2, st2, fun b hb => (f2 b hb).1, w0⟩
  rintro n s3 ⟨i, σ3, H3, I3, st3, fr3, w3⟩
  rcases turn i n σ3 H3 w3 with ⟨stop, qn⟩ | ⟨go, N, hN, step⟩
  · refine wpAny_passesOwn hp (thn (T.done X rfl rfl rfl hc i pins s3 σ3 H3 X.xe I3 (stat fr3) st3 stop) fun r s4 ⟨hr, I4⟩ => ?_)
    subst hr
    exact wpAny_execs_nil ⟨σ3, H3, I4, qn⟩
  · refine wpAny_passesOwn hp (thn (T.item X rfl rfl rfl hc i pins s3 σ3 H3 X.xe I3 (stat fr3) st3 go) fun r s4 ⟨u, hr, h4⟩ => ?_)
    subst hr
    refine wpAny_passesOwn hp (thn h4 fun _ s5 ⟨x, H5, I5, r5, y5, st5, fr5⟩ => ?_)
    have I5' := I5.pinned (stat fr5) (T.obj _ _ st5)
    refine wpAny_passesOwn hp (thn (hg _ s5 σ3 H5 x u _ I5' r5 (step x H5 y5)) fun _ s6 ⟨σ6, H6, I6, q6⟩ => ?_)
    refine wpAny_passesOwn hp (thn (hb _ s6 σ6 H6 _ I6 q6) fun f s7 q7 => ?_)
    have again : ∀ {σ7 : St} {H7 : Hp}, Inv X (pins ++ pinsAt fp s5.heap) σ7 H7 s7 → N σ7 H7 → ∃ m, m < n ∧ ∃ i σ' H', Inv X pins σ' H' s7 ∧ tn i s7.heap ∧ (∀ b ∈ fp, H' b = none) ∧ W i m σ' H' := fun {σ7 H7} I7 n7 => by
      obtain ⟨m', hm, w7⟩ := hN σ7 H7 n7
      refine ⟨m', hm, i + 1, σ7, H7, I7.unpinned, T.keep _ _ _ st5 fun b hb o e => (I7.pin (b, o) (List.mem_append_right _ (List.mem_append_right _ (mem_pinsAt hb e)))).1, fun b hb => ?_, w7⟩
      obtain ⟨o, e, d⟩ := T.obj _ _ st5 b hb
      exact (I7.pin (b, o) (List.mem_append_right _ (List.mem_append_right _ (mem_pinsAt hb e)))).2.1
    cases f with
    | next => obtain ⟨σ7, H7, I7, n7⟩ := q7; exact again I7 n7
    | cont => obtain ⟨σ7, H7, I7, n7⟩ := q7; exact again I7 n7
    | brk => obtain ⟨σ7, H7, I7, q7⟩ := q7; exact ⟨σ7, H7, I7.unpinned, q7⟩
    | ret v => obtain ⟨x7, σ7, H7, I7, r7, q7⟩ := q7; exact ⟨x7, σ7, H7, I7.unpinned, r7, q7⟩
end
end L2
namespace L2
open PySem PySem.Spec PyProof.Rows
abbrev R2 := V → V → Hp → VK → Prop
def OpR (X : Cx) (f : Value → Value → Sem Value) (r : R2) : Prop :=
  ∀ (pins : List (Addr × Obj)) (s : Shared) (σ : St) (H : Hp) (x y : V) (v u : Value) (Q : VK), Inv X pins σ H s → RelV x v → RelV y u → r x y H Q →
    wpAny (model X.prog X.w) X.A (f v u) (EP X pins σ Q) X.xe s
def CallR (X : Cx) (f : Value) (r : List V → Hp → VK → Prop) : Prop :=
  ∀ (pins : List (Addr × Obj)) (s : Shared) (σ : St) (H : Hp) (xs : List V) (us : List Value) (Q : VK), Inv X pins σ H s → Vals xs us → r xs H Q →
    wpAny (model X.prog X.w) X.A (call f us) (EP X pins σ Q) X.xe s
def tOp (r : R2) (ta tb : TE) : TE := fun σ H Q => ta σ H fun x H1 => tb σ H1 fun y H2 => r x y H2 Q
def rI (C : Int → Int → Prop) (g : Int → Int → V) : R2 := fun x y H Q => ∃ i j, x = .int i ∧ y = .int j ∧ C i j ∧ Q (g i j) H
def rI0 (g : Int → Int → V) : R2 := fun x y H Q => ∃ i j, x = .int i ∧ y = .int j ∧ Q (g i j) H
section
variable {X : Cx} {a b c : Expr} {ta tb tc : TE} {pos : Pos}
theorem binT (ha : PE X a ta) (hb : PE X b tb) {pins : List (Addr × Obj)} {s : Shared} {σ : St} {H : Hp} {R : V → V → Hp → Prop} (I : Inv X pins σ H s)
    (h : ta σ H fun x H1 => tb σ H1 fun y H2 => R x y H2) {Q : Value → Shared → Prop} {f : Value → Value → Sem Value}
    (hf : ∀ v u s2 x y H2, Inv X pins σ H2 s2 → RelV x v → RelV y u → R x y H2 → wpAny (model X.prog X.w) X.A (f v u) Q X.xe s2) :
    wpAny (model X.prog X.w) X.A (eval a X.env) (fun v s₁ => wpAny (model X.prog X.w) X.A (eval b X.env) (fun u s₂ => wpAny (model X.prog X.w) X.A (f v u) Q X.xe s₂) X.xe s₁) X.xe s := by
  refine thn (ha pins s σ H _ I h) fun v s1 ⟨x, H1, I1, r1, q1⟩ => ?_
  refine thn (hb pins s1 σ H1 _ I1 q1) fun u s2 ⟨y, H2, I2, r2, q2⟩ => ?_
  exact hf v u s2 x y H2 I2 r1 r2 q2
theorem opI {f : Value → Value → Sem Value} {C : Int → Int → Prop} {g : Int → Int → Int}
    (rule : ∀ (i j : Int) (t u : Tok) (s : Shared) (Q : Value → Shared → Prop) (E : Value → Shared → Prop), C i j → Q (.int (g i j) s.toks) { s with toks := s.toks + 1 } → wpAny (model X.prog X.w) X.A (f (.int i t) (.int j u)) Q E s) :
    OpR X f (rI C fun i j => .int (g i j)) := by
  intro pins s σ H x y v u Q I rx ry h
  obtain ⟨i, j, rfl, rfl, hc, q⟩ := h
  obtain ⟨t, rfl⟩ := rx
  obtain ⟨t', rfl⟩ := ry
  exact rule i j t t' s _ _ hc ⟨.int (g i j), H, I.tok _, ⟨_, rfl⟩, q⟩
theorem opI0 {f : Value → Value → Sem Value} {g : Int → Int → Int}
    (rule : ∀ (i j : Int) (t u : Tok) (s : Shared) (Q : Value → Shared → Prop) (E : Value → Shared → Prop), Q (.int (g i j) s.toks) { s with toks := s.toks + 1 } → wpAny (model X.prog X.w) X.A (f (.int i t) (.int j u)) Q E s) :
    OpR X f (rI0 fun i j => .int (g i j)) := by
  intro pins s σ H x y v u Q I rx ry h
  obtain ⟨i, j, rfl, rfl, q⟩ := h
  obtain ⟨t, rfl⟩ := rx
  obtain ⟨t', rfl⟩ := ry
  exact rule i j t t' s _ _ ⟨.int (g i j), H, I.tok _, ⟨_, rfl⟩, q⟩
theorem opB0 {f : Value → Value → Sem Value} {g : Int → Int → Bool}
    (rule : ∀ (i j : Int) (t u : Tok) (s : Shared) (Q : Value → Shared → Prop) (E : Value → Shared → Prop), Q (.bool (g i j)) s → wpAny (model X.prog X.w) X.A (f (.int i t) (.int j u)) Q E s) :
    OpR X f (rI0 fun i j => .bl (g i j)) := by
  intro pins s σ H x y v u Q I rx ry h
  obtain ⟨i, j, rfl, rfl, q⟩ := h
  obtain ⟨t, rfl⟩ := rx
  obtain ⟨t', rfl⟩ := ry
  exact rule i j t t' s _ _ ⟨.bl (g i j), H, I, rfl, q⟩
def CMul (i j : Int) : Prop := (-(2 ^ 64) < i ∧ i < 2 ^ 64) ∨ (-(2 ^ 64) < j ∧ j < 2 ^ 64)
theorem CMul.ok {i j : Int} (h : CMul i j) : IntMulOk i j := by
  rcases h with ⟨h1, h2⟩ | ⟨h1, h2⟩
  · exact .of_left (intBits_le_64 h1 h2)
  · exact .of_right (intBits_le_64 h1 h2)
theorem op_add : OpR X (binaryOp .Add) (rI0 fun i j => .int (i + j)) := opI0 fun _ _ _ _ _ _ _ q => add_int q
theorem op_modN : OpR X (binaryOp .Mod) (rI (fun _ j => j ≠ 0) fun i j => .int (i.fmod j)) := opI fun _ _ _ _ _ _ _ hc q => mod_int' hc q
end
def scal : V → V → Bool
  | .non, .non => true | .non, .int _ => true | .int _, .non => true | .non, .bl _ => true | .bl _, .non => true | .non, .str _ => true | .str _, .non => true
  | .int _, .int _ => true | .bl _, .bl _ => true | .str _, .str _ => true | .byt _, .byt _ => true
  | .int _, .str _ => true | .str _, .int _ => true | .bl _, .str _ => true | .str _, .bl _ => true
  | _, _ => false
def rEq : R2 := fun x y H Q => scal x y = true ∧ Q (.bl (decide (x = y))) H
def rNe : R2 := fun x y H Q => scal x y = true ∧ Q (.bl (!decide (x = y))) H
theorem dec_int {i j : Int} : decide (V.int i = V.int j) = (i == j) := by
  rw [Bool.eq_iff_iff]
  simp
theorem dec_bl {i j : Bool} : decide (V.bl i = V.bl j) = (i == j) := by
  rw [Bool.eq_iff_iff]
  simp
theorem dec_str {i j : Str} : decide (V.str i = V.str j) = (i == j) := by
  rw [Bool.eq_iff_iff]
  simp
theorem dec_byt {i j : Array UInt8} : decide (V.byt i = V.byt j) = (i.toList == j.toList) := by
  rw [Bool.eq_iff_iff]
  cases i
  cases j
  simp
section
variable {X : Cx} {a b c : Expr} {ta tb tc : TE} {pos : Pos}
theorem fin_bl {pins : List (Addr × Obj)} {σ : St} {H : Hp} {s : Shared} {Q : VK} {k k' : Bool} (I : Inv X pins σ H s) (q : Q (.bl k) H) (e : k = k') : EP X pins σ Q (.bool k') s := by
  subst e
  exact ⟨.bl k, H, I, rfl, q⟩
theorem op_eq : OpR X (compareOp .Eq) rEq := by
  intro pins s σ H x y v u Q I rx ry h
  obtain ⟨hs, q⟩ := h
  cases x with
  | non =>
    cases rx
    cases y with
    | non => cases ry; exact PySem.EqNone.eq_none_none (fin_bl I q (by simp))
    | bl j => cases ry; exact PySem.EqNone.eq_none_bool (fin_bl I q (by simp))
    | int j => obtain ⟨t', rfl⟩ := ry; exact PySem.EqNone.eq_none_int (fin_bl I q (by simp))
    | str j => obtain ⟨t', rfl⟩ := ry; exact PySem.EqNone.eq_none_str (fin_bl I q (by simp))
    | _ => exact absurd (show false = true from hs) Bool.false_ne_true
  | bl i =>
    cases rx
    cases y with
    | non => cases ry; exact PySem.EqNone.eq_bool_none (fin_bl I q (by simp))
    | bl j => cases ry; exact eq_bool (fin_bl I q dec_bl)
    | str j => obtain ⟨t', rfl⟩ := ry; exact PySem.EqMixed.eq_bool_str (fin_bl I q (by simp))
    | _ => exact absurd (show false = true from hs) Bool.false_ne_true
  | int i =>
    obtain ⟨t, rfl⟩ := rx
    cases y with
    | non => cases ry; exact PySem.EqNone.eq_int_none (fin_bl I q (by simp))
    | int j => obtain ⟨t', rfl⟩ := ry; exact eq_int (fin_bl I q dec_int)
    | str j => obtain ⟨t', rfl⟩ := ry; exact PySem.EqMixed.eq_int_str (fin_bl I q (by simp))
    | _ => exact absurd (show false = true from hs) Bool.false_ne_true
  | str i =>
    obtain ⟨t, rfl⟩ := rx
    cases y with
    | non => cases ry; exact PySem.EqNone.eq_str_none (fin_bl I q (by simp))
    | bl j => cases ry; exact PySem.EqMixed.eq_str_bool (fin_bl I q (by simp))
    | int j => obtain ⟨t', rfl⟩ := ry; exact PySem.EqMixed.eq_str_int (fin_bl I q (by simp))
    | str j => obtain ⟨t', rfl⟩ := ry; exact eq_str (fin_bl I q dec_str)
    | _ => exact absurd (show false = true from hs) Bool.false_ne_true
  | byt i =>
    obtain ⟨t, rfl⟩ := rx
    cases y with
    | byt j => obtain ⟨t', rfl⟩ := ry; exact PySem.W.eq_bytes (fin_bl I q dec_byt)
    | _ => exact absurd (show false = true from hs) Bool.false_ne_true
  | _ => cases y <;> exact absurd (show false = true from hs) Bool.false_ne_true
theorem op_ne : OpR X (compareOp .NotEq) rNe := by
  intro pins s σ H x y v u Q I rx ry h
  obtain ⟨hs, q⟩ := h
  cases x with
  | non =>
    cases rx
    cases y with
    | non => cases ry; exact PySem.EqNone.ne_none_none (fin_bl I q (by simp))
    | bl j => cases ry; exact PySem.EqNone.ne_none_bool (fin_bl I q (by simp))
    | int j => obtain ⟨t', rfl⟩ := ry; exact PySem.EqNone.ne_none_int (fin_bl I q (by simp))
    | str j => obtain ⟨t', rfl⟩ := ry; exact PySem.EqNone.ne_none_str (fin_bl I q (by simp))
    | _ => exact absurd (show false = true from hs) Bool.false_ne_true
  | bl i =>
    cases rx
    cases y with
    | non => cases ry; exact PySem.EqNone.ne_bool_none (fin_bl I q (by simp))
    | bl j => cases ry; exact ne_bool (fin_bl I q (congrArg not dec_bl))
    | str j => obtain ⟨t', rfl⟩ := ry; exact PySem.EqMixed.ne_bool_str (fin_bl I q (by simp))
    | _ => exact absurd (show false = true from hs) Bool.false_ne_true
  | int i =>
    obtain ⟨t, rfl⟩ := rx
    cases y with
    | non => cases ry; exact PySem.EqNone.ne_int_none (fin_bl I q (by simp))
    | int j => obtain ⟨t', rfl⟩ := ry; exact ne_int (fin_bl I q (congrArg not dec_int))
    | str j => obtain ⟨t', rfl⟩ := ry; exact PySem.EqMixed.ne_int_str (fin_bl I q (by simp))
    | _ => exact absurd (show false = true from hs) Bool.false_ne_true
  | str i =>
    obtain ⟨t, rfl⟩ := rx
    cases y with
    | non => cases ry; exact PySem.EqNone.ne_str_none (fin_bl I q (by simp))
    | bl j => cases ry; exact PySem.EqMixed.ne_str_bool (fin_bl I q (by simp))
    | int j => obtain ⟨t', rfl⟩ := ry; exact PySem.EqMixed.ne_str_int (fin_bl I q (by simp))
    | str j => obtain ⟨t', rfl⟩ := ry; exact ne_str (fin_bl I q (congrArg not dec_str))
    | _ => exact absurd (show false = true from hs) Bool.false_ne_true
  | byt i =>
    obtain ⟨t, rfl⟩ := rx
    cases y with
    | byt j => obtain ⟨t', rfl⟩ := ry; exact PySem.W.ne_bytes (fin_bl I q (congrArg not dec_byt))
    | _ => exact absurd (show false = true from hs) Bool.false_ne_true
  | _ => cases y <;> exact absurd (show false = true from hs) Bool.false_ne_true
theorem op_gt : OpR X (compareOp .Gt) (rI0 fun i j => .bl (decide (j < i))) := opB0 fun _ _ _ _ _ _ _ q => gt_int q
theorem OpR.or {f : Value → Value → Sem Value} {r r' : R2} (h : OpR X f r) (h' : OpR X f r') : OpR X f (fun x y H Q => r x y H Q ∨ r' x y H Q) := by
  intro pins s σ H x y v u Q I rx ry q
  rcases q with q | q
  · exact h pins s σ H x y v u Q I rx ry q
  · exact h' pins s σ H x y v u Q I rx ry q
theorem nomark (b : Expr) {op : CmpOp} (h : op ≠ .In := by decide) (h2 : op ≠ .NotIn := by decide) : behindInMarks op b = false := by
  have e1 : (op == CmpOp.In) = false := by cases op <;> first | rfl | exact absurd rfl h
  have e2 : (op == CmpOp.NotIn) = false := by cases op <;> first | rfl | exact absurd rfl h2
  cases b <;> simp [behindInMarks, e1, e2]
theorem line63 : (sizeLine : Nat) < 2 ^ 63 := by rw [sizeLine_eq]; decide
theorem op_add_str : OpR X (binaryOp .Add) (fun x y H Q => ∃ i j, x = .str i ∧ y = .str j ∧ i.length + j.length ≤ sizeLine ∧ Q (.str (i ++ j)) H) := by
  intro pins s σ H x y v u Q I rx ry h
  obtain ⟨i, j, rfl, rfl, hz, q⟩ := h
  obtain ⟨t, rfl⟩ := rx
  obtain ⟨t', rfl⟩ := ry
  exact add_str (fun t' tk => ⟨.str (i ++ j), H, I.tok _, ⟨_, rfl⟩, q⟩) hz
theorem vals1 {x : V} {us : List Value} (r : Vals [x] us) : ∃ u, us = [u] ∧ RelV x u := by
  cases r with
  | cons r1 r2 => cases r2; exact ⟨_, rfl, r1⟩
theorem vals2 {x y : V} {us : List Value} (r : Vals [x, y] us) : ∃ u w', us = [u, w'] ∧ RelV x u ∧ RelV y w' := by
  cases r with
  | cons r1 r2 =>
    cases r2 with
    | cons r3 r4 => cases r4; exact ⟨_, _, rfl, r1, r3⟩
end
end L2
namespace L2
open PySem PySem.Spec PyProof.Rows
theorem lookIn_ns {h : Heap} {dx : Addr} {mA : Str → Option Value} (n : h.Ns1 dx mA) : ∃ od, h.get? dx = some od ∧ ∀ name, PySem.W.lookIn name od = some (mA name) := by
  obtain ⟨o, es, ep, ho, hd, hk, _, hm⟩ := n
  refine ⟨o, ho, fun name => ?_⟩
  have e := hm name
  unfold nsFind findBy at e
  rw [← Array.find?_toList] at e
  unfold PySem.W.lookIn
  rw [hd]
  dsimp only
  split
  · rename_i y q
    rw [q] at e
    exact congrArg some e
  · rename_i q
    rw [q] at e
    have a : es.toList.any (·.refKey) = false := by
      rw [List.any_eq_false]
      intro y hy
      obtain ⟨z, t, hkey⟩ := hk y (Array.mem_toList_iff.mp hy)
      simp [DictEntry.refKey, hkey]
    have a' : ¬ es.toList.any (·.refKey) = true := by rw [a]; exact Bool.false_ne_true
    rw [if_neg a']
    exact congrArg some e
section
variable {prog : Program} {w : World} {A : Around} {E : Value → Shared → Prop} {s : Shared} {K : PySem.W.Frag} {x dx C f : Addr} {mA : Str → Option Value} {name : Str} {v : Value}
end
def putF (f : Str) (v : V) : List (Str × V) → List (Str × V)
  | [] => [(f, v)]
  | (g, x) :: r => if g = f then (g, v) :: r else (g, x) :: putF f v r
theorem lookup_putF (f g : Str) (v : V) : ∀ fs : List (Str × V), (putF f v fs).lookup g = if g = f then some v else fs.lookup g
  | [] => by
    show List.lookup g [(f, v)] = _
    by_cases h : g = f
    · have hb : (g == f) = true := beq_iff_eq.mpr h
      simp only [List.lookup, hb, if_pos h]
    · have hb : (g == f) = false := beq_eq_false_iff_ne.mpr h
      simp only [List.lookup, hb, if_neg h]
  | (k, x) :: r => by
    have ih := lookup_putF f g v r
    rw [show putF f v ((k, x) :: r) = (if k = f then (k, v) :: r else (k, x) :: putF f v r) from rfl]
    by_cases hk : k = f
    · rw [if_pos hk]
      by_cases h : g = k
      · have hb : (g == k) = true := beq_iff_eq.mpr h
        simp only [List.lookup, hb, if_pos (h.trans hk)]
      · have hb : (g == k) = false := beq_eq_false_iff_ne.mpr h
        simp only [List.lookup, hb, if_neg (fun e : g = f => h (e.trans hk.symm))]
    · rw [if_neg hk]
      by_cases h : g = k
      · have hb : (g == k) = true := beq_iff_eq.mpr h
        simp only [List.lookup, hb, if_neg (fun e : g = f => hk (h.symm.trans e))]
      · have hb : (g == k) = false := beq_eq_false_iff_ne.mpr h
        simp only [List.lookup, hb]
        exact ih
theorem RelO.some_of {v : V} {o : Option Value} (r : RelO (some v) o) : ∃ u, o = some u ∧ RelV v u := by
  cases o with
  | none => exact (show False from r).elim
  | some u => exact ⟨u, rfl, r⟩
theorem RelO.none_of {o : Option Value} (r : RelO none o) : o = none := by
  cases o with
  | none => rfl
  | some u => exact (show False from r).elim
theorem handed_of {v : V} {u : Value} (r : RelV v u) : PySem.W.handedIn u = true := by
  cases v with
  | non => cases (show u = Value.none from r); rfl
  | bl b => cases (show u = Value.bool b from r); rfl
  | int i => obtain ⟨t, e⟩ := (show ∃ t, u = Value.int i t from r); cases e; rfl
  | str x => obtain ⟨t, e⟩ := (show ∃ t, u = Value.str x t from r); cases e; rfl
  | byt b => obtain ⟨t, e⟩ := (show ∃ t, u = Value.bytes b t from r); cases e; rfl
  | flt b => obtain ⟨t, e⟩ := (show ∃ t, u = Value.float b t from r); cases e; rfl
  | ref a => cases (show u = Value.ref a from r); rfl
  | ty n => cases (show u = Value.type n from r); rfl
section
variable {P : Program} {w : World} {H H' : Hp} {h h' : Heap} {a C dx : Addr} {fs fs' : List (Str × V)}
end
structure Cls (K : PySem.W.Frag) (C : Addr) : Prop where
  pg : PySem.W.plainGet K C Str.empty = true
  hd : PySem.W.hasDictIn K C = true
  po : PySem.W.plainOver K C = true
  sa : PySem.W.findIn K (.ref C) "__setattr__" = some (some (.builtin "object.__setattr__"))
theorem Cls.get {K : PySem.W.Frag} {C : Addr} (c : Cls K C) (f : Str) : PySem.W.plainGet K C f = true := c.pg
def NoAttr (K : PySem.W.Frag) (C : Addr) (f : Str) : Prop := PySem.W.findIn K (.ref C) f = some none
section
variable {X : Cx} {pins : List (Addr × Obj)} {σ : St} {H : Hp} {s : Shared} {a C dx : Addr} {fs : List (Str × V)} {f : Str} {v : V} {A : Around} {E : Value → Shared → Prop}
theorem Inv.made (I : Inv X pins σ H s) : Inv X pins σ (upd (upd H s.heap.objs.size (.own (s.heap.objs.size + 1))) (s.heap.objs.size + 1) (.ins C s.heap.objs.size []))
    { s with heap := (s.heap.push PySem.W.emptyDict).push (PySem.W.instObj C s.heap.objs.size) } := by
  have e1 : (s.heap.push PySem.W.emptyDict).get? s.heap.objs.size = some PySem.W.emptyDict := Heap.get?_push_size s.heap rfl
  have e2 : ((s.heap.push PySem.W.emptyDict).push (PySem.W.instObj C s.heap.objs.size)).get? (s.heap.objs.size + 1) = some (PySem.W.instObj C s.heap.objs.size) := by
    have := Heap.get?_push_size (s.heap.push PySem.W.emptyDict) (o := PySem.W.instObj C s.heap.objs.size) rfl
    rwa [Heap.size_push] at this
  have e3 : (s.heap.push PySem.W.emptyDict).Ns s.heap.objs.size (fun _ => none) := ⟨PySem.W.emptyDict, #[], _, e1, rfl, (fun e he => absurd he (by simp)), fun _ => rfl⟩
  have I1 := I.laid (a := s.heap.objs.size) (o := .own (s.heap.objs.size + 1)) (h' := s.heap.push PySem.W.emptyDict) (t' := s.toks) (fun b u q => Heap.get?_push_of_some _ q) (Nat.le_refl _) ⟨_, e1⟩
  refine I1.laid (a := s.heap.objs.size + 1) (o := .ins C s.heap.objs.size []) (t' := s.toks) (fun b u q => Heap.get?_push_of_some _ q) (Nat.le_of_eq (Heap.size_push _ _)) ?_
  have ne : s.heap.objs.size ≠ s.heap.objs.size + 1 := Nat.ne_of_lt (Nat.lt_succ_self _)
  refine ⟨by rw [upd_ne ne, upd_same], Nat.zero_le _, ne, e2, fun _ => none, (Heap.Ns1.of_empty e3).at fun o q => Heap.get?_push_of_some _ q, fun _ => True.intro, fun y hy => absurd rfl hy⟩
theorem attr_of {prog : Program} {w : World} {env : Env} {e : Expr} {f : Str} {pos : Pos} {s : Shared} {Q : Value → Shared → Prop} (hb : attributeBase e f env (eval e env) = eval e env)
    (h : wpAny (model prog w) A (eval e env) (fun o s₁ => wpAny (model prog w) A (getAttr o f true) Q E s₁) E s) : wpAny (model prog w) A (eval (.Attribute e f pos) env) Q E s :=
  Attribute_any_ h (by rw [arm_eval_Attribute, hb])
end
section
variable {X : Cx} {o e value : Expr} {f : Str} {pos pos' tpos : Pos} {ta tv : TE}
end
section
variable {X : Cx} {pins : List (Addr × Obj)} {σ : St} {H : Hp} {s : Shared} {A : Around} {E : Value → Shared → Prop} {Q : Value → Shared → Prop} {c : Value} {b : Bool}
end
end L2
namespace L2
open PySem PySem.Spec PyProof.Rows
structure Room (k : Nat) (A : Around) : Prop where
  hd : A.handled = none
  gd : A.guards = some []
  dp : A.depth + 3 * k + 5 < recursionLimit
  un : A.units + 16 * k + 200 < cLine
theorem Room.mono {j k : Nat} {A : Around} (r : Room k A) (h : j ≤ k) : Room j A := ⟨r.hd, r.gd, by have := r.dp; omega, by have := r.un; omega⟩
theorem Room.deeper {k : Nat} {A : Around} (r : Room (k + 1) A) (env : Env) : Room k (A.deeper env) :=
  ⟨r.hd, r.gd, by have := r.dp; show A.depth + 1 + 3 * k + 5 < _; omega, by have := r.un; show A.units + 3 + 16 * k + 200 < _; omega⟩
theorem Room.in1 {k : Nat} {A : Around} (r : Room (k + 1) A) : Room k A.in1 :=
  ⟨r.hd, r.gd, by have := r.dp; show A.depth + 3 * k + 5 < _; omega, by have := r.un; show A.units + 1 + 16 * k + 200 < _; omega⟩
theorem make_depth {A : Around} {C : Addr} {us : List Value} {kw : List (Str × Value)} : (A.under (.builtin "type.__call__" ⟨.ref C :: us, kw⟩)).depth = A.depth + 1 := by
  first | rfl | simp [Around.under, Code.weight, Code.isCreation, Code.isGuard, Code.isCaller, Code.frames, Code.isFrame, guardIds]
theorem make_units {A : Around} {C : Addr} {us : List Value} {kw : List (Str × Value)} : (A.under (.builtin "type.__call__" ⟨.ref C :: us, kw⟩)).units = A.units + 1 := by
  first | rfl | simp [Around.under, Code.cUnits, Code.frames, Code.isFrame]
theorem Room.make {k : Nat} {A : Around} (r : Room (k + 1) A) (C : Addr) (us : List Value) (kw : List (Str × Value)) : Room k (A.under (.builtin "type.__call__" ⟨.ref C :: us, kw⟩)) :=
  ⟨r.hd, (by first | exact r.gd | (simpa [Around.under, Code.isGuard, guardIds] using r.gd)), by have := r.dp; rw [make_depth]; omega, by have := r.un; rw [make_units]; omega⟩
theorem Room.depth {k : Nat} {A : Around} (r : Room k A) : A.depth < recursionLimit := by have := r.dp; omega
theorem Room.units {k : Nat} {A : Around} (r : Room k A) : A.units + 64 < cLine := by have := r.un; omega
def tNil : TA := fun _ H Q => Q [] H
def tCons (ta : TE) (tr : TA) : TA := fun σ H Q => ta σ H fun x H1 => tr σ H1 fun xs H2 => Q (x :: xs) H2
section
variable {X : Cx} {e : Expr} {es : List Expr} {te : TE} {t : TA} {pos : Pos}
theorem pa_nil : PA X [] tNil := fun _ _ _ _ H Q I h => Calls.spliced_nil ⟨[], H, I, .nil, h⟩
theorem pa_cons (ha : PE X e te) (hr : PA X es t) (hs : starEach (e :: es) X.env = (false, eval e X.env) :: starEach es X.env := by rfl) : PA X (e :: es) (tCons te t) := by
  intro pos pins s σ H Q I h
  rw [hs]
  show wpAny _ _ (spliced ((false, eval e X.env) :: backTo pos (starEach es X.env))) _ _ s
  refine Calls.spliced_cons (thn (ha pins s σ H _ I h) fun u s1 ⟨x, H1, I1, r1, q1⟩ => ?_)
  exact thn (hr pos pins s1 σ H1 _ I1 q1) fun us s2 ⟨xs, H2, I2, r2, q2⟩ => ⟨x :: xs, H2, I2, .cons r1 r2, q2⟩
def tTup (t : TA) : TE := fun σ H Q => t σ H fun xs H1 => xs.length ≤ sizeLine ∧ ∀ p, H1 p = none → Q (.ref p) (upd H1 p (.tup xs))
theorem pe_tup {x1} (h : PA X es t) : PE X (.Tuple es x1 pos) (tTup t) := by
  intro pins s σ H Q I hq
  refine wpAny_Tuple_spliced (thn (h pos pins s σ H _ I hq) fun us s1 ⟨xs, H1, I1, r, z, q⟩ => ⟨by rw [← r.length]; exact z, ?_⟩)
  have hf : H1 s1.heap.objs.size = none := I1.hok.fresh (Nat.le_refl _)
  refine ⟨.ref s1.heap.objs.size, upd H1 s1.heap.objs.size (.tup xs), I1.laid (t' := s1.toks) (fun b u e => Heap.get?_push_of_some _ e) (Nat.le_refl _) ?_, rfl, q _ hf⟩
  exact ⟨⟨z, NoD.new _ _ _⟩, us, r, ⟨_, Heap.get?_push_size _ rfl, rfl, _, rfl⟩⟩
end
abbrev Sp := List V → Hp → VK → XK → Prop
abbrev CXT := List Env → Hp → Shared → XK → Value → Shared → Prop
structure Env0 (P : Program) (w : World) (K : PySem.W.Frag) (mg : Str → Option Value) (base : Heap) (A : Around) (outer : List Env) (s : Shared) (H : Hp) : Prop where
  frames : A.frames = some outer
  mod : Mod K mg base
  bs : ∀ b o, base.get? b = some o → s.heap.get? b = some o ∧ H b = none
  bsz : base.objs.size ≤ s.heap.objs.size
  funs : s.heap.FunFrames base outer
  frf : ∀ b ∈ frs outer, H b = none
  hok : HOk P w H s.heap
  bare : AllBare s.gens
def CE (outer : List Env) (P : Program) (w : World) (H : Hp) (s : Shared) (Q : VK) (u : Value) (s' : Shared) : Prop :=
  ∃ v H', s'.os = s.os ∧ AllBare s'.gens ∧ Un (frs outer) [] H H' s.heap s'.heap ∧ HOk P w H' s'.heap ∧ RelV v u ∧ Q v H'
def CR (CX : CXT) (outer : List Env) (P : Program) (w : World) (H : Hp) (s : Shared) (Q : VK) (E : XK) (r : Result) (s' : Shared) : Prop :=
  match r with
  | .ok (.ret u) => CE outer P w H s Q u s'
  | .ok _ => False
  | .error e => CX outer H s E e s'
structure FnOk (P : Program) (w : World) (K : PySem.W.Frag) (mg : Str → Option Value) (base : Heap) (CX : CXT) (k : Nat) (f : Addr) (fd : FuncData) (ps : List Str) (sp : Sp) : Prop where
  len : ∀ vs H Q E, sp vs H Q E → vs.length = ps.length
  run : ∀ (A : Around) (outer : List Env) (s : Shared) (H : Hp) (args : Args) (us : List Value) (vs : List V) (Q : VK) (E : XK), Room k A → Env0 P w K mg base A outer s H → BindsTo s fd args (ps.zip us) → Vals vs us → sp vs H Q E →
    codeAny (model P w) A (.call (.ref f) args) (CR CX outer P w H s Q E) s
theorem FnOk.mono {P : Program} {w : World} {K : PySem.W.Frag} {mg : Str → Option Value} {base : Heap} {CX : CXT} {j k : Nat} {f : Addr} {fd : FuncData} {ps : List Str} {sp : Sp} (F : FnOk P w K mg base CX j f fd ps sp) (h : j ≤ k) :
    FnOk P w K mg base CX k f fd ps sp := ⟨F.len, fun A outer s H args us vs Q E hr => F.run A outer s H args us vs Q E (hr.mono h)⟩
theorem FnOk.imp {P : Program} {w : World} {K : PySem.W.Frag} {mg : Str → Option Value} {base : Heap} {CX : CXT} {k : Nat} {f : Addr} {fd : FuncData} {ps : List Str} {sp sp' : Sp} (F : FnOk P w K mg base CX k f fd ps sp)
    (h : ∀ vs H Q E, sp' vs H Q E → sp vs H Q E) : FnOk P w K mg base CX k f fd ps sp' :=
  ⟨fun vs H Q E q => F.len vs H Q E (h _ _ _ _ q), fun A outer s H args us vs Q E hr he hb hv hs => F.run A outer s H args us vs Q E hr he hb hv (h _ _ _ _ hs)⟩
theorem Env0.make {P : Program} {w : World} {K : PySem.W.Frag} {mg : Str → Option Value} {base : Heap} {A : Around} {outer : List Env} {s : Shared} {H : Hp} (e : Env0 P w K mg base A outer s H) (C : Addr) (us : List Value) (kw : List (Str × Value)) :
    Env0 P w K mg base (A.under (.builtin "type.__call__" ⟨.ref C :: us, kw⟩)) outer s H := ⟨by first | exact e.frames | (simpa [Around.under, Code.envs, Code.isFrame, pushEnvs] using e.frames), e.mod, e.bs, e.bsz, e.funs, e.frf, e.hok, e.bare⟩
theorem Env0.in1 {P : Program} {w : World} {K : PySem.W.Frag} {mg : Str → Option Value} {base : Heap} {A : Around} {outer : List Env} {s : Shared} {H : Hp} (e : Env0 P w K mg base A outer s H) :
    Env0 P w K mg base A.in1 outer s H := ⟨e.frames, e.mod, e.bs, e.bsz, e.funs, e.frf, e.hok, e.bare⟩
section
variable {X : Cx} {pins : List (Addr × Obj)} {σ : St} {H : Hp} {s s' : Shared}
theorem Inv.env0 (I : Inv X pins σ H s) : Env0 X.prog X.w X.K X.mg X.base X.A X.stack s H :=
  ⟨I.ok.frames, I.ok.mod, I.bs, Nat.le_trans I.ok.bsz I.sz, I.stack, I.stkFree, I.hok, I.bare⟩
theorem Inv.after {Q : VK} {u : Value} (I : Inv X pins σ H s) (h : CE X.stack X.prog X.w H s Q u s') : EP X pins σ Q u s' := by
  obtain ⟨v, H', os, bare, un, hok, r, q⟩ := h
  obtain ⟨hh, g, d, t, os'⟩ := s'
  obtain rfl : os' = s.os := os
  exact ⟨v, H', I.call (h' := hh) (g' := g) (d' := d) (t' := t) (ch := []) un hok bare (fun b z => absurd z (by simp)), r, q⟩
end
def tCall (sp : Sp) (dvs : List V) (E : XK) (t : TA) : TE := fun σ H Q => t σ H fun vs H1 => sp (vs ++ dvs) H1 Q E
def Binds (K : PySem.W.Frag) (fd : FuncData) (ps : List Str) (ds : List Value) : Prop :=
  ∀ (s : Shared) (us : List Value), K.In s.heap → (us ++ ds).length = ps.length → BindsTo s fd ⟨us, []⟩ (ps.zip (us ++ ds))
theorem Binds.all {K : PySem.W.Frag} {fd : FuncData} {ps : List Str} (h : ∀ us : List Value, us.length = ps.length → bindArgs fd ⟨us, []⟩ = pure (ps.zip us)) : Binds K fd ps [] := fun s us _ hl => by
  rw [List.append_nil] at hl ⊢
  exact .of_eq (h us hl)
def Passes (CX : CXT) (X : Cx) (E : XK) : Prop := ∀ (pins : List (Addr × Obj)) (σ : St) (H : Hp) (s : Shared) (e : Value) (s' : Shared), Inv X pins σ H s → CX X.stack H s E e s' → X.xe e s'
section
variable {X : Cx} {CX : CXT} {k : Nat} {f C : Addr} {fd : FuncData} {ps : List Str} {sp : Sp} {dvs : List V} {ds : List Value} {E : XK} {x m : Str} {p pos apos : Pos} {e o : Expr} {es : List Expr} {ta : TE} {t : TA}
theorem run_fn {pins : List (Addr × Obj)} {σ : St} {H : Hp} {s : Shared} {Q : VK} {us : List Value} {vs : List V} (F : FnOk X.prog X.w X.K X.mg X.base CX k f fd ps sp) (hr : Room k X.A) (hb : Binds X.K fd ps ds) (hd : Vals dvs ds) (hx : Passes CX X E)
    (I : Inv X pins σ H s) (r : Vals vs us) (h : sp (vs ++ dvs) H Q E) : wpAny (model X.prog X.w) X.A (call (.ref f) us) (EP X pins σ Q) X.xe s := by
  have r2 : Vals (vs ++ dvs) (us ++ ds) := r.append hd
  have hl : (us ++ ds).length = ps.length := by rw [← r2.length]; exact F.len _ _ _ _ h
  refine wpAny_call (codeAny_mono (F.run X.A X.stack s H ⟨us, []⟩ (us ++ ds) (vs ++ dvs) Q E hr I.env0 (hb s us I.kIn hl) r2 h) fun r s' hq => ?_)
  cases r with
  | error e => exact hx pins σ H s e s' I hq
  | ok fl =>
    cases fl with
    | ret u => exact I.after hq
    | next => exact False.elim hq
    | brk => exact False.elim hq
    | cont => exact False.elim hq
theorem pe_call (F : FnOk X.prog X.w X.K X.mg X.base CX k f fd ps sp) (hr : Room k X.A) (hg : Gl X x) (hm : X.mg x = some (.ref f)) (hk : PySem.W.keepIn X.K (.ref f) = true) (hb : Binds X.K fd ps ds) (hd : Vals dvs ds) (hx : Passes CX X E)
    (ha : PA X (e :: es) t) (hdb : (x == ("__debug__" : Str)) = false := by decide) (he : starEach (e :: es) X.env = (false, eval e X.env) :: starEach es X.env := by rfl) (hpl : (backTo pos (starEach es X.env)).any (·.1) = false := by rfl) :
    PE X (.Call (.Name x p) (e :: es) [] pos) (tCall sp dvs E t) := by
  intro pins s σ H Q I h
  refine wpAny_Call_Name_kw (ld_glob I hg hm ?_ hdb)
  refine PySem.W.callWith_K (h₀ := X.base) I.ok.mod.kin hk (thn (ha pos pins s σ H _ I h) fun us s1 ⟨vs, H1, I1, r, q⟩ => ⟨I1.kIn, ?_⟩) he hpl
  exact run_fn F hr hb hd hx I1 r q
end
section
variable {X : Cx} {CX : CXT} {k : Nat} {f C : Addr} {fd : FuncData} {ps ks : List Str} {sp : Sp} {E : XK} {x m : Str} {p pos apos kpos : Pos} {e o : Expr} {es : List Expr} {kws : List Keyword} {te ta : TE} {t tk : TA} {nm : Option Str}
variable {g : List Value → List Value → List Value} {gV : List V → List V → List V}
end
structure FnScope (N P : List Str) (sc : Scope) : Prop where
  kind : sc.kind = .function
  co : sc.isCoroutine = false
  gen : sc.isGenerator = false
  nd : N.Nodup
  pre : N.take P.length = P
  par : ∀ x ∈ P, sc.names.lookup x = some .local ∨ sc.names.lookup x = some .cell
  nofree : ∀ y ∈ sc.names, y.2 ≠ .free
theorem bindL_out {kindOf : Str → Option NameKind} {x : Str} : ∀ {binds : List (Str × Value)} {m : Str → Option Value}, (∀ v, (x, v) ∉ binds) → bindL kindOf binds m x = m x
  | [], _, _ => rfl
  | (n, v) :: r, m, h => by
    unfold bindL
    rw [bindL_out fun w hw => h w (List.mem_cons_of_mem _ hw)]
    split
    · have : x ≠ n := by rintro rfl; exact h v List.mem_cons_self
      simp [this]
    · rfl
theorem bindC_out {kindOf : Str → Option NameKind} {x : Str} : ∀ {binds : List (Str × Value)} {m : Str → Option Value}, (∀ v, (x, v) ∉ binds) → bindC kindOf binds m x = m x
  | [], _, _ => rfl
  | (n, v) :: r, m, h => by
    unfold bindC
    rw [bindC_out fun w hw => h w (List.mem_cons_of_mem _ hw)]
    split
    · rfl
    · have : x ≠ n := by rintro rfl; exact h v List.mem_cons_self
      simp [this]
theorem bindL_get {kindOf : Str → Option NameKind} {x : Str} {v : Value} : ∀ {P : List Str} {vs : List Value} {i : Nat} {m : Str → Option Value}, P.Nodup → P[i]? = some x → vs[i]? = some v → kindOf x = some .local →
    bindL kindOf (P.zip vs) m x = some v
  | [], _, _, _, _, h, _, _ => by simp at h
  | _ :: _, [], _, _, _, _, h, _ => by simp at h
  | p :: P, w :: vs, 0, m, nd, h1, h2, hk => by
    simp at h1 h2; subst h1; subst h2
    show bindL kindOf ((p, w) :: P.zip vs) m p = _
    unfold bindL
    rw [bindL_out fun v hv => (List.nodup_cons.mp nd).1 (List.of_mem_zip hv).1, if_pos hk]
    simp
  | p :: P, w :: vs, i + 1, m, nd, h1, h2, hk => by
    show bindL kindOf ((p, w) :: P.zip vs) m x = _
    unfold bindL
    exact bindL_get (i := i) (List.nodup_cons.mp nd).2 (by simpa using h1) (by simpa using h2) hk
theorem bindC_get {kindOf : Str → Option NameKind} {x : Str} {v : Value} : ∀ {P : List Str} {vs : List Value} {i : Nat} {m : Str → Option Value}, P.Nodup → P[i]? = some x → vs[i]? = some v → kindOf x ≠ some .local →
    bindC kindOf (P.zip vs) m x = some v
  | [], _, _, _, _, h, _, _ => by simp at h
  | _ :: _, [], _, _, _, _, h, _ => by simp at h
  | p :: P, w :: vs, 0, m, nd, h1, h2, hk => by
    simp at h1 h2; subst h1; subst h2
    show bindC kindOf ((p, w) :: P.zip vs) m p = _
    unfold bindC
    rw [bindC_out fun v hv => (List.nodup_cons.mp nd).1 (List.of_mem_zip hv).1, if_neg hk]
    simp
  | p :: P, w :: vs, i + 1, m, nd, h1, h2, hk => by
    show bindC kindOf ((p, w) :: P.zip vs) m x = _
    unfold bindC
    exact bindC_get (i := i) (List.nodup_cons.mp nd).2 (by simpa using h1) (by simpa using h2) hk
def start (N : List Str) (vs : List V) : St := vs.map some ++ List.replicate (N.length - vs.length) none
def cxOf (CX : CXT) (P : Program) (w : World) (K : PySem.W.Frag) (mg : Str → Option Value) (base : Heap) (N : List Str) (qual : Str) (scope : Scope) (f : Addr) (cd : Value) (A : Around) (outer : List Env) (s : Shared) (H : Hp) (E : XK) : Cx where
  prog := P
  w := w
  K := K
  mg := mg
  base := base
  A := A.deeper (envOfC qual scope s.heap.objs.size f cd)
  N := N
  s₀ := s
  H₀ := H
  env := envOfC qual scope s.heap.objs.size f cd
  outer := outer
  stack := envOfC qual scope s.heap.objs.size f cd :: outer
  ex := []
  calm := true
  fn := fun _ => true
  pn := []
  xe := fun e s' => wpAny (model P w) (A.deeper (envOfC qual scope s.heap.objs.size f cd)) («leaving» (envOfC qual scope s.heap.objs.size f cd) e) (fun _ s'' => CX outer H s E e s'') (fun e' s'' => CX outer H s E e' s'') s'
theorem cell_has {sc : Scope} {n : Nat} {x : Str} (h : sc.names.lookup x = some .cell) : ∃ c, (cellsFrom n sc.names []).lookup x = some c := by
  have q := PySem.W.cellsFrom_some sc.names n [] (.inl h)
  exact Option.isSome_iff_exists.mp q
theorem inv_start {CX : CXT} {P : Program} {w : World} {K : PySem.W.Frag} {mg : Str → Option Value} {base : Heap} {N ps : List Str} {qual : Str} {scope : Scope} {f : Addr} {cd : Value} {A : Around} {outer : List Env} {s s1 : Shared} {H : Hp} {E : XK} {us : List Value} {vs : List V}
    (S : FnScope N ps scope) (hd : A.handled = none) (e0 : Env0 P w K mg base A outer s H) (hl : vs.length = ps.length) (r : Vals vs us)
    (x : InCallC s s.heap.objs.size (bindL (envOfC qual scope s.heap.objs.size f cd).kindOf (ps.zip us) fun _ => none) (cellsFrom (s.heap.objs.size + 1) scope.names []) (bindC (envOfC qual scope s.heap.objs.size f cd).kindOf (ps.zip us) fun _ => none) s1) :
    Inv (cxOf CX P w K mg base N qual scope f cd A outer s H E) [] (start N vs) H s1 := by
  have hpl : ps.length ≤ N.length := by have := congrArg List.length S.pre; rw [List.length_take] at this; omega
  obtain ⟨h1, tk, rfl, hk⟩ := x.done
  have noA : ∀ b : Addr, b ∉ (cxOf CX P w K mg base N qual scope f cd A outer s H E).ex := fun b z => absurd (show b ∈ ([] : List Addr) from z) (by simp)
  refine ⟨⟨e0.mod, S.kind, rfl, rfl, Nat.le_refl _, fun y z c h1 h2 => ?_, fun y hy => ?_, fun y c _ h => ?_, fun _ => hd, Around.frames_deeper e0.frames, .inr ⟨rfl, rfl⟩, fun b z => absurd z (noA b), e0.bs, e0.bsz, fun b _ _ => noA b, fun b z => absurd z (noA b), e0.funs, e0.frf⟩,
    rfl, e0.bare, Un.kept hk, ⟨_, x.toInCall.ns, fun i y v h1 h2 h3 => ?_⟩, fun y c h => ⟨_, x.cell y c h⟩, e0.hok.fresh (Nat.le_refl _), fun y c h => ?_, fun p hp => absurd (show p ∈ ([] : List (Addr × Obj)) from hp) (by simp), e0.hok.kept hk, ?_⟩
  · exact name_of_addr x.apart (PySem.mem_of_lookup h1) (PySem.mem_of_lookup h2)
  · have hy : scope.names.lookup y = some .cell ∨ scope.names.lookup y = some .free := hy
    rcases hy with hy | hy
    · exact cell_has hy
    · exact absurd rfl (S.nofree _ (PySem.mem_of_lookup hy))
  · exact Nat.le_of_lt (x.above y c (PySem.mem_of_lookup h))
  · have hi : i < vs.length := by
      unfold start at h2
      by_cases hi : i < vs.length
      · exact hi
      · rw [List.getElem?_append_right (by simpa using hi)] at h2
        rw [List.getElem?_replicate] at h2
        split at h2 <;> cases h2
    have ha : vs[i]? = some v := by
      unfold start at h2
      rw [List.getElem?_append_left (by simpa using hi), List.getElem?_map] at h2
      cases e : vs[i]? with
      | none => rw [e] at h2; cases h2
      | some a => rw [e] at h2; cases h2; rfl
    obtain ⟨u, hu, rv⟩ := r.get ha
    have hp : ps[i]? = some y := by
      rw [← S.pre, List.getElem?_take_of_lt (by omega)]; exact h1
    have ndP : ps.Nodup := by rw [← S.pre]; exact S.nd.sublist (List.take_sublist _ _)
    refine ⟨u, rv, ?_⟩
    rcases S.par y (List.mem_of_getElem? hp) with k | k
    · exact .inl ⟨k, bindL_get ndP hp hu k⟩
    · obtain ⟨c, e⟩ := cell_has (n := s.heap.objs.size + 1) k
      refine .inr ⟨.inl k, c, e, ?_⟩
      have q := x.cell y c e
      rw [bindC_get ndP hp hu (by show scope.names.lookup y ≠ _; rw [k]; decide)] at q
      exact q
  · exact e0.hok.fresh (Nat.le_of_lt (x.above y c (PySem.mem_of_lookup h)))
  · unfold start
    show _ = N.length
    rw [List.length_append, List.length_map, List.length_replicate]
    omega
theorem fn_of {CX : CXT} {P : Program} {w : World} {K : PySem.W.Frag} {mg : Str → Option Value} {base : Heap} {k : Nat} {f : Addr} {name qual : Str} {params : Arguments} {body : List Stmt} {scope : Scope} {dV kV doc pm cdv ct oc : Value} {an od : Option Addr}
    {osl : Array (Option Value)} {N ps : List Str} {sp : Sp} (lk : K.lookup f = some ⟨oc, od, .func (PySem.W.fnOf name qual params body scope dV kV doc pm an cdv ct), osl⟩) (hcd : PySem.W.codeIn K cdv qual = true) (S : FnScope N ps scope)
    (len : ∀ vs H Q E, sp vs H Q E → vs.length = ps.length)
    (hbody : ∀ (A : Around) (outer : List Env) (s : Shared) (H : Hp) (vs : List V) (Q : VK) (E : XK), Room k (A.deeper (envOfC qual scope s.heap.objs.size f cdv)) → sp vs H Q E →
      ∃ t, PSs (cxOf CX P w K mg base N qual scope f cdv A outer s H E) body t ∧ t { nx := fun _ H' => Q .non H', rt := Q } (start N vs) H) :
    FnOk P w K mg base CX (k + 1) f (PySem.W.fnOf name qual params body scope dV kV doc pm an cdv ct) ps sp := by
  refine ⟨len, fun A outer s H args us vs Q E hr e0 hb r hsp => ?_⟩
  have hl := len _ _ _ _ hsp
  have KX : K.In s.heap := e0.mod.kin.keeps fun b o e => (e0.bs b o e).1
  have lim : s.heap.NoLimit := e0.mod.nolimit.keeps fun b o e => (e0.bs b o e).1
  have hkind : ∀ y ∈ ps.zip us, scope.names.lookup y.1 = some .local ∨ (scope.names.lookup y.1 = some .cell ∧ ((cellsFrom (s.heap.objs.size + 1) scope.names []).lookup y.1).isSome = true) := fun ⟨n, v⟩ hy => by
    rcases S.par n (List.of_mem_zip hy).1 with q | q
    · exact .inl q
    · exact .inr ⟨q, PySem.W.cellsFrom_some _ _ _ (.inl q)⟩
  refine codeAny_call_function hr.depth (KX _ _ lk) rfl S.co S.gen rfl (PySem.W.codeRec_of KX hcd) (hb _ _ _ _ ?_)
  refine wpAny_newFunctionEnv_cells S.kind hkind fun env he s1 x => ?_
  subst he
  refine ⟨lim.keeps x.toInCall.keep, codeAny_func ?_⟩
  obtain ⟨t, ht, hq⟩ := hbody A outer s H vs Q E (hr.deeper _) hsp
  have I : Inv (cxOf CX P w K mg base N qual scope f cdv A outer s H E) [] (start N vs) H s1 := inv_start S hr.hd e0 hl r x
  refine wpAny_mono (ht [] s1 (start N vs) H _ I hq) (fun fl s' hs => ?_) fun e s' hs => hs
  have fin : ∀ {σ' : St} {H' : Hp} {v : V} {u : Value}, Inv (cxOf CX P w K mg base N qual scope f cdv A outer s H E) [] σ' H' s' → RelV v u → Q v H' → CE outer P w H s Q u s' :=
    fun {σ' H' v u} J rv q => ⟨v, H', J.os, J.bare, J.base, J.hok, rv, q⟩
  cases fl with
  | ret u =>
    obtain ⟨v, σ', H', J, rv, q⟩ := hs
    exact fin J rv q
  | next =>
    obtain ⟨σ', H', J, q⟩ := hs
    exact fin (v := V.non) (u := Value.none) J rfl q
  | brk =>
    obtain ⟨_, _, _, q⟩ := hs
    exact False.elim q
  | cont =>
    obtain ⟨_, _, _, q⟩ := hs
    exact False.elim q
end L2
namespace L2
open PySem PySem.Spec PyProof.Rows
section
variable {X : Cx} {x : Str} {p pos : Pos} {e : Expr} {es : List Expr} {t : TA} {id T : String} {r : List V → Hp → VK → Prop}
def tCB (r : List V → Hp → VK → Prop) (t : TA) : TE := fun σ H Q => t σ H fun vs H1 => r vs H1 Q
theorem pe_callB (hc : CallR X (.builtin id) r) (hg : Gl X x) (hm : X.mg x = none) (hv : bootBuiltins x = some (.builtin id)) (ha : PA X (e :: es) t) (hn : x ≠ "__name__" := by decide) (hdb : (x == ("__debug__" : Str)) = false := by decide)
    (he : starEach (e :: es) X.env = (false, eval e X.env) :: starEach es X.env := by rfl) (hpl : (backTo pos (starEach es X.env)).any (·.1) = false := by rfl) : PE X (.Call (.Name x p) (e :: es) [] pos) (tCB r t) := by
  intro pins s σ H Q I h
  refine wpAny_Call_Name_kw (ld_blt I hg hm hv ?_ hn hdb)
  exact PyProof.Rows.callWith_builtin1 (thn (ha pos pins s σ H _ I h) fun us s1 ⟨vs, H1, I1, r1, q1⟩ => hc pins s1 σ H1 vs us Q I1 r1 q1) he hpl
theorem pe_callTy (hc : CallR X (.type T) r) (hg : Gl X x) (hm : X.mg x = none) (hv : bootBuiltins x = some (.type T)) (ha : PA X (e :: es) t) (hn : x ≠ "__name__" := by decide) (hdb : (x == ("__debug__" : Str)) = false := by decide)
    (he : starEach (e :: es) X.env = (false, eval e X.env) :: starEach es X.env := by rfl) (hpl : (backTo pos (starEach es X.env)).any (·.1) = false := by rfl) : PE X (.Call (.Name x p) (e :: es) [] pos) (tCB r t) := by
  intro pins s σ H Q I h
  refine wpAny_Call_Name_kw (ld_blt I hg hm hv ?_ hn hdb)
  exact PyProof.Rows.callWith_type1 (thn (ha pos pins s σ H _ I h) fun us s1 ⟨vs, H1, I1, r1, q1⟩ => hc pins s1 σ H1 vs us Q I1 r1 q1) he hpl
end
end L2
namespace HT
open PySem PyProof.Rows
section
open PySem.SeqAt
open PySem.AutoSeq1 (wpAny_loadPart')
open PySem.MeetsSeq PySem.MeetsSeq2 PySem.MeetsSeq3
end
section
variable {prog : Program} {w : World} {A : Around} {E : Value → Shared → Prop} {s : Shared}
theorem cat_tup {t b : Addr} {vs ws : List Value} {Q : Value → Shared → Prop} (ht : IsTup s.heap t vs.toArray) (hb : IsTup s.heap b ws.toArray) (hv : vs ≠ [])
    (h1 : ws = [] → Q (.ref t) s) (h2 : ws ≠ [] → Q (.ref s.heap.objs.size) { s with heap := s.heap.push { cls := .type "tuple", data := .seq (vs ++ ws).toArray } })
    (hsz : vs.length + ws.length ≤ sizeLine) : wpAny (model prog w) A (binaryOp .Add (.ref t) (.ref b)) Q E s := by
  obtain ⟨⟨cls, dd, data, sl⟩, ho, hc, n, hd⟩ := id ht
  obtain ⟨⟨cls2, dd2, data2, sl2⟩, ho2, hc2, n2, hd2⟩ := id hb
  simp only at hc hd hc2 hd2
  subst hc hd hc2 hd2
  have e : vs.toArray ++ ws.toArray = (vs ++ ws).toArray := by simp
  by_cases hw : ws = []
  · exact concat_meets ⟨_, ho, rfl⟩ ⟨_, ho2, rfl⟩ noFill_tuple_add seq_tuple_add PySem.F.slot_tuple_add PySem.F.entry_tuple_add (PySem.F.args_tuple_add_2 _ _)
      (tuple_addW1 t b vs.toArray ws.toArray n n2 dd dd2 sl sl2 (by simpa using hv) (by simp [hw])) ⟨ho, ho2, h1 hw⟩
  · refine concat_meets ⟨_, ho, rfl⟩ ⟨_, ho2, rfl⟩ noFill_tuple_add seq_tuple_add PySem.F.slot_tuple_add PySem.F.entry_tuple_add (PySem.F.args_tuple_add_2 _ _)
      (tuple_addW2 t b vs.toArray ws.toArray n n2 dd dd2 sl sl2 (by simpa using hv) (by simpa using hw) (by rw [List.size_toArray, List.size_toArray]; exact hsz)) ⟨ho, ho2, ?_⟩
    rw [e]
    exact h2 hw
def sIx (n d : Nat) : Option Int → Nat
  | none => d
  | some v => if v < 0 then (v + (n : Int)).toNat else min v.toNat n
end
end HT
namespace L2
open PySem PySem.Spec PyProof.Rows
abbrev TO := St → Hp → (Option Int → Hp → Prop) → Prop
def PO (X : Cx) (e : Option Expr) (t : TO) : Prop :=
  ∀ (pins : List (Addr × Obj)) (s : Shared) (σ : St) (H : Hp) (Q : Option Int → Hp → Prop), Inv X pins σ H s → t σ H Q →
    wpAny (model X.prog X.w) X.A (evalPart e X.env) (fun u s' => ∃ o H', Inv X pins σ H' s' ∧ IsPart u o ∧ Q o H') X.xe s
section
variable {X : Cx} {e : Expr} {te : TE} {lo hi : Option Expr} {tl th : TO} {pos p2 : Pos}
def SlR (X : Cx) (r : V → Option Int → Option Int → Hp → VK → Prop) : Prop :=
  ∀ (pins : List (Addr × Obj)) (s : Shared) (σ : St) (H : Hp) (x : V) (v vl vu : Value) (lo hi : Option Int) (sl : Addr) (Q : VK), Inv X pins σ H s → RelV x v → s.heap.IsSliceOf sl vl vu .none → IsPart vl lo → IsPart vu hi → r x lo hi H Q →
    ∃ T id, typeLookup (.type T) "__getitem__" = pure (some (.builtin id)) ∧ s.TypeIs v T ∧ wpAny (model X.prog X.w) X.A (getItem v (.ref sl)) (EP X pins σ Q) X.xe s
theorem SlR.or {r r' : V → Option Int → Option Int → Hp → VK → Prop} (h : SlR X r) (h' : SlR X r') : SlR X (fun x lo hi H Q => r x lo hi H Q ∨ r' x lo hi H Q) := by
  intro pins s σ H x v vl vu lo hi sl Q I rx hs pl pu q
  rcases q with q | q
  · exact h pins s σ H x v vl vu lo hi sl Q I rx hs pl pu q
  · exact h' pins s σ H x v vl vu lo hi sl Q I rx hs pl pu q
def cutV (xs : List V) (lo hi : Option Int) : List V := (xs.drop (HT.sIx xs.length 0 lo)).take (HT.sIx xs.length xs.length hi - HT.sIx xs.length 0 lo)
def rCatT (K : PySem.W.Frag) : R2 := fun x y H Q => ∃ a b xs ys, x = .ref a ∧ y = .ref b ∧ SqT K H a xs ∧ SqT K H b ys ∧ xs ≠ [] ∧ xs.length + ys.length ≤ sizeLine ∧
  (ys = [] → Q (.ref a) H) ∧ (ys ≠ [] → ∀ p, H p = none → Q (.ref p) (upd H p (.tup (xs ++ ys))))
theorem Vals.nil_iff {xs : List V} {us : List Value} (r : Vals xs us) : us = [] ↔ xs = [] := by
  cases r with
  | nil => simp
  | cons _ _ => simp
theorem op_catT : OpR X (binaryOp .Add) (rCatT X.K) := by
  intro pins s σ H x y v u Q I rx ry h
  obtain ⟨a, b, xs, ys, rfl, rfl, ha, hb, hx, hz, q1, q2⟩ := h
  cases rx
  cases ry
  obtain ⟨its, r1, p1, _⟩ := I.tuple ha
  obtain ⟨its2, r2, p2, _⟩ := I.tuple hb
  refine HT.cat_tup p1 p2 (fun z => hx (r1.nil_iff.mp z)) (fun z => ⟨.ref a, H, I, rfl, q1 (r2.nil_iff.mp z)⟩) (fun z => ?_) (by rw [← r1.length, ← r2.length]; exact hz)
  refine ⟨.ref s.heap.objs.size, _, I.laid (t' := s.toks) (o := .tup (xs ++ ys)) (fun b ob q => Heap.get?_push_of_some _ q) (Nat.le_refl _) ?_, rfl, q2 (fun w => z (r2.nil_iff.mpr w)) _ (I.hok.fresh (Nat.le_refl _))⟩
  exact ⟨⟨by rw [List.length_append]; exact hz, NoD.new _ _ _⟩, _, r1.append r2, IsTup.new _ _⟩
end
end L2
namespace L2
open PySem PySem.Spec PyProof.Rows
def ixN (n : Nat) (i : Int) : Option Nat := if 0 ≤ i then (if i < n then some i.toNat else none) else if -(n : Int) ≤ i then some (i + n).toNat else none
def atI {α : Type} (xs : List α) (i : Int) : Option α := (ixN xs.length i).bind fun j => xs[j]?
theorem ixN_seq {n : Nat} {i : Int} {j : Nat} (h : ixN n i = some j) : seqIndex? i n = some j ∧ j < n ∧ -(n : Int) ≤ i ∧ i < n := by
  unfold ixN at h
  by_cases h0 : 0 ≤ i
  · rw [if_pos h0] at h
    by_cases h1 : i < n
    · rw [if_pos h1] at h
      have e : i.toNat = j := Option.some.inj h
      exact ⟨by rw [seqIndex_of h0 h1, e], by omega, by omega, h1⟩
    · rw [if_neg h1] at h; cases h
  · rw [if_neg h0] at h
    by_cases h1 : -(n : Int) ≤ i
    · rw [if_pos h1] at h
      have e : (i + n).toNat = j := Option.some.inj h
      exact ⟨by rw [seqIndex_neg (by omega) h1, e], by omega, h1, by omega⟩
    · rw [if_neg h1] at h; cases h
theorem atI_get {α : Type} {xs : List α} {i : Int} {v : α} (h : atI xs i = some v) : ∃ j, seqIndex? i xs.length = some j ∧ xs[j]? = some v ∧ j < xs.length ∧ -(xs.length : Int) ≤ i ∧ i < xs.length := by
  unfold atI at h
  cases e : ixN xs.length i with
  | none => rw [e] at h; cases h
  | some j =>
    rw [e] at h
    obtain ⟨h1, h2, h3, h4⟩ := ixN_seq e
    exact ⟨j, h1, h, h2, h3, h4⟩
theorem atI_nat {α : Type} {xs : List α} {j : Nat} {v : α} (h : xs[j]? = some v) : atI xs (j : Int) = some v := by
  have hj : j < xs.length := (List.getElem?_eq_some_iff.mp h).1
  have e : ixN xs.length (j : Int) = some j := by
    unfold ixN
    rw [if_pos (by omega), if_pos (by omega)]; simp
  unfold atI; rw [e]; exact h
def PlainIx (b : Expr) : Prop := ∀ o i, subscripted b false o i = operate [o, i] (getItem o i)
def IxR (X : Cx) (r : R2) : Prop :=
  ∀ (value slice : Expr) (pins : List (Addr × Obj)) (s : Shared) (σ : St) (H : Hp) (x y : V) (v u : Value) (Q : VK), Inv X pins σ H s → RelV x v → RelV y u → r x y H Q →
    subscripted slice false v u = operate [v, u] (getItem v u) → wpAny (model X.prog X.w) X.A (subscriptTail value slice v u) (EP X pins σ Q) X.xe s
def MtR (X : Cx) (id : String) (r : V → List V → Hp → VK → Prop) : Prop :=
  ∀ (pins : List (Addr × Obj)) (s : Shared) (σ : St) (H : Hp) (x : V) (xs : List V) (v : Value) (us : List Value) (Q : VK), Inv X pins σ H s → RelV x v → Vals xs us → r x xs H Q →
    wpAny (model X.prog X.w) X.A (call (.builtin id) (v :: us)) (EP X pins σ Q) X.xe s
section
variable {X : Cx} {a b : Expr} {ta tb : TE} {pos : Pos}
theorem IxR.or {r r' : R2} (h : IxR X r) (h' : IxR X r') : IxR X (fun x y H Q => r x y H Q ∨ r' x y H Q) := by
  intro value slice pins s σ H x y v u Q I rx ry q hs
  rcases q with q | q
  · exact h value slice pins s σ H x y v u Q I rx ry q hs
  · exact h' value slice pins s σ H x y v u Q I rx ry q hs
theorem MtR.or {id : String} {r r' : V → List V → Hp → VK → Prop} (h : MtR X id r) (h' : MtR X id r') : MtR X id (fun x xs H Q => r x xs H Q ∨ r' x xs H Q) := by
  intro pins s σ H x xs v us Q I rx rs q
  rcases q with q | q
  · exact h pins s σ H x xs v us Q I rx rs q
  · exact h' pins s σ H x xs v us Q I rx rs q
theorem pe_ix {r : R2} (hr : IxR X r) (ha : PE X a ta) (hb : PE X b tb) (hs : PlainIx b) : PE X (.Subscript a b pos) (tOp r ta tb) := by
  intro pins s σ H Q I h
  exact Subscript_ (binT ha hb I h fun v u s2 x y H2 I2 rx ry q => hr a b pins s2 σ H2 x y v u Q I2 rx ry q (hs _ _))
def rIxL (K : PySem.W.Frag) : R2 := fun x y H Q => ∃ p xs i v, x = .ref p ∧ y = .int i ∧ SqL K H p xs ∧ atI xs i = some v ∧ Q v H
def rIxT (K : PySem.W.Frag) : R2 := fun x y H Q => ∃ p xs i v, x = .ref p ∧ y = .int i ∧ SqT K H p xs ∧ atI xs i = some v ∧ Q v H
def rIxS : R2 := fun x y H Q => ∃ z i c, x = .str z ∧ y = .int i ∧ z.length ≤ sizeLine ∧ atI z.cps.toList i = some c ∧ Q (.str ⟨#[c]⟩) H
theorem ix_list : IxR X (rIxL X.K) := by
  intro value slice pins s σ H x y v u Q I rx ry h hs
  obtain ⟨p, xs, i, z, rfl, rfl, hq, he, q⟩ := h
  cases rx
  obtain ⟨t, rfl⟩ := ry
  obtain ⟨its, r, pl, hz⟩ := I.list hq
  obtain ⟨j, h1, h2, h3, h4, h5⟩ := atI_get he
  obtain ⟨w, ew, rw'⟩ := r.get h2
  have hl := r.length
  have hn := line63
  have fin : EP X pins σ Q w s := ⟨z, H, I, rw', q⟩
  by_cases h0 : 0 ≤ i
  · have hj : i.toNat = j := by
      rw [seqIndex_of h0 h5] at h1
      exact Option.some.inj h1
    exact item_listR pl.isList h0 (by omega) (by rw [hj]; simpa using ew) fin hs
  · have hj : (i + (its.toArray.size : Int)).toNat = j := by
      rw [seqIndex_neg (by omega) h4] at h1
      rw [List.size_toArray, ← hl]
      exact Option.some.inj h1
    exact subscriptTail_builtinR (x := w) pl.isList.typeIs slot_list_getitem.lookup
      (wpAny_getItem_list_neg (Q := fun r s' => r = w ∧ EP X pins σ Q r s') pl.isList (by omega) (by rw [List.size_toArray] <;> omega) (by omega) (by rw [hj]; simpa using ew) ⟨rfl, fin⟩) hs
theorem ix_tup : IxR X (rIxT X.K) := by
  intro value slice pins s σ H x y v u Q I rx ry h hs
  obtain ⟨p, xs, i, z, rfl, rfl, hq, he, q⟩ := h
  cases rx
  obtain ⟨t, rfl⟩ := ry
  obtain ⟨its, r, pl, hz⟩ := I.tuple hq
  obtain ⟨j, h1, h2, h3, h4, h5⟩ := atI_get he
  obtain ⟨w, ew, rw'⟩ := r.get h2
  have hl := r.length
  have hn := line63
  have fin : EP X pins σ Q w s := ⟨z, H, I, rw', q⟩
  exact subscriptTail_builtinR (x := w) pl.typeIs slot_tuple_getitem.lookup
    (getItem_tuple (j := j) (Q := fun r s' => r = w ∧ EP X pins σ Q r s') pl (by omega) (by omega) (by rw [List.size_toArray, ← hl]; exact h1) (by simpa using ew) ⟨rfl, fin⟩) hs
theorem ix_str : IxR X rIxS := by
  intro value slice pins s σ H x y v u Q I rx ry h hs
  obtain ⟨z, i, c, rfl, rfl, hz, he, q⟩ := h
  obtain ⟨t, rfl⟩ := rx
  obtain ⟨t', rfl⟩ := ry
  obtain ⟨j, h1, h2, h3, h4, h5⟩ := atI_get he
  have hl : z.cps.toList.length = z.length := by simp [Str.length]
  rw [hl] at h1 h4 h5
  have hn := line63
  exact tail_any (typeIs_str s z t) slot_str_getitem.lookup (getItem_str (c := c) (by
    have e1 : decide (i < -(2 ^ 63 : Int)) = false := decide_eq_false (by omega)
    have e2 : decide (i ≥ 2 ^ 63) = false := decide_eq_false (by omega)
    rw [e1, e2, Bool.or_false]) (by rw [h1]; simpa using h2) ⟨.str ⟨#[c]⟩, H, I.tok _, ⟨_, rfl⟩, q⟩) hs
def rIx (K : PySem.W.Frag) : R2 := fun x y H Q => rIxL K x y H Q ∨ rIxT K x y H Q ∨ rIxS x y H Q
theorem ix_seq : IxR X (rIx X.K) := ix_list.or (ix_tup.or ix_str)
theorem Inv.lst {pins : List (Addr × Obj)} {σ : St} {H : Hp} {s : Shared} {p : Addr} {xs : List V} (I : Inv X pins σ H s) (h : H p = some (.lst xs)) :
    ∃ (its : List Value) (n : Nat), Vals xs its ∧ s.heap.get? p = some { cls := .type "list", data := .seq its.toArray n } ∧ xs.length ≤ sizeLine := by
  obtain ⟨z, its, n, r, e⟩ := I.hok p _ h
  exact ⟨its, n, r, e, z⟩
theorem call_len_seq : CallR X (.builtin "len") (fun xs H Q => ∃ p ys, xs = [.ref p] ∧ (SqL X.K H p ys ∨ SqT X.K H p ys) ∧ Q (.int ys.length) H) := by
  intro pins s σ H xs us Q I r h
  obtain ⟨p, ys, rfl, hq, q⟩ := h
  obtain ⟨u, rfl, rx⟩ := vals1 r
  cases rx
  have hn := line63
  rcases hq with hq | hq
  · obtain ⟨its, r', pl, hz⟩ := I.list hq
    have hlen := r'.length
    exact Calls.call_len_list pl.isList (by simp only [List.size_toArray] <;> omega) ⟨.int ys.length, H, I.tok _, ⟨s.toks + 1, by rw [List.size_toArray, hlen]⟩, q⟩
  · obtain ⟨its, r', pl, hz⟩ := I.tuple hq
    have hlen := r'.length
    exact len_tuple pl (by simp only [List.size_toArray] <;> omega) ⟨.int ys.length, H, I.tok _, ⟨s.toks + 1, by rw [List.size_toArray, hlen]⟩, q⟩
theorem call_len_str : CallR X (.builtin "len") (fun xs H Q => ∃ z, xs = [.str z] ∧ z.length ≤ sizeLine ∧ Q (.int z.length) H) := by
  intro pins s σ H xs us Q I r h
  obtain ⟨z, rfl, hz, q⟩ := h
  obtain ⟨u, rfl, t, rfl⟩ := vals1 r
  have hn := line63
  exact len_str (by omega) ⟨.int z.length, H, I.tok _, ⟨_, rfl⟩, q⟩
theorem CallR.or {f : Value} {r r' : List V → Hp → VK → Prop} (h : CallR X f r) (h' : CallR X f r') : CallR X f (fun xs H Q => r xs H Q ∨ r' xs H Q) := by
  intro pins s σ H xs us Q I rs q
  rcases q with q | q
  · exact h pins s σ H xs us Q I rs q
  · exact h' pins s σ H xs us Q I rs q
theorem call_tuple_of : CallR X (.type "tuple") (fun xs H Q => ∃ p ys, xs = [.ref p] ∧ ((SqL X.K H p ys ∧ ∀ l, H l = none → Q (.ref l) (upd H l (.tup ys))) ∨ (SqT X.K H p ys ∧ Q (.ref p) H))) := by
  intro pins s σ H xs us Q I r h
  obtain ⟨p, ys, rfl, h⟩ := h
  obtain ⟨u, rfl, rx⟩ := vals1 r
  cases rx
  rcases h with ⟨hq, q⟩ | ⟨hq, q⟩
  · obtain ⟨its, r', pl, hz⟩ := I.list hq
    have hlen := r'.length
    refine call_tuple_list pl.isList (fun h' kp => ?_) (by simp only [List.size_toArray] <;> omega)
    have I1 : Inv X pins σ H { s with heap := h' } := I.kept (t' := s.toks) kp
    have I2 : Inv X pins σ (upd H h'.objs.size (.tup ys)) { s with heap := h'.push { cls := .type "tuple", data := .seq its.toArray } } :=
      I1.laid (t' := s.toks) (fun b o e => Heap.get?_push_of_some _ e) (Nat.le_refl _) (show ObjOk X.prog X.w _ _ _ (.tup ys) from ⟨⟨hz, NoD.new _ _ _⟩, its, r', IsTup.new _ _⟩)
    exact ⟨.ref h'.objs.size, _, I2, rfl, q _ (I1.hok.fresh (Nat.le_refl _))⟩
  · obtain ⟨its, r', pl, hz⟩ := I.tuple hq
    exact call_tuple_same pl ⟨.ref p, H, I, rfl, q⟩
variable {o e : Expr} {es : List Expr} {to : TE} {t : TA} {name : Str} {apos cpos : Pos} {T id : String} {r : V → List V → Hp → VK → Prop}
end
end L2
namespace L2
open PySem PySem.Spec PyProof.Rows
def MtM (X : Cx) (id : String) (r : V → List V → Hp → VK → Prop) : Prop :=
  ∀ (pins : List (Addr × Obj)) (s : Shared) (σ : St) (H : Hp) (x : V) (xs : List V) (v : Value) (us : List Value) (Q : VK), Inv X pins σ H s → RelV x v → Vals xs us → r x xs H Q →
    wpAny (model X.prog X.w) X.A (call (.builtin id) (v :: us)) (EP X pins σ Q) X.xe s
theorem Vals.one : ∀ {x : V} {us : List Value}, Vals [x] us → ∃ u, us = [u] ∧ RelV x u
  | _, _, .cons r .nil => ⟨_, rfl, r⟩
theorem Vals.zero : ∀ {us : List Value}, Vals [] us → us = []
  | _, .nil => rfl
section
variable {X : Cx} {pins : List (Addr × Obj)} {σ : St} {H : Hp} {s : Shared} {l b : Addr} {xs ys zs : List V}
theorem Inv.lset {its its' : List Value} {n : Nat} {f : Array Value → Array Value} {t' : Nat} (I : Inv X pins σ H s) (hH : H l = some (.lst xs))
    (e : s.heap.get? l = some { cls := .type "list", data := .seq its.toArray n }) (hf : f its.toArray = its'.toArray) (hv : Vals ys its') (hz : ys.length ≤ sizeLine) :
    Inv X pins σ (upd H l (.lst ys)) { s with heap := s.heap.update l (Obj.mapSeq f), toks := t' } := by
  have q := PySem.IsL.update e f
  rw [hf] at q
  refine I.write (x := l) (e := l) (by rw [hH]; exact trivial) (.inl rfl) (fun b' u hb hu => (Heap.get?_update_other s.heap (Obj.mapSeq f) (Ne.symm hb)).trans hu) ⟨_, q⟩ ?_
  exact ⟨hz, its', _, hv, q⟩
theorem Inv.fresh (I : Inv X pins σ H s) : H s.heap.objs.size = none := I.hok.fresh (Nat.le_refl _)
theorem Inv.lstM (I : Inv X pins σ H s) (hH : H l = some (.lst xs)) : xs.length ≤ sizeLine ∧ ∃ (its : List Value) (n : Nat), Vals xs its ∧ xs.length = its.length ∧ s.heap.get? l = some { cls := .type "list", data := .seq its.toArray n } := by
  obtain ⟨z, its, n, r, e⟩ := I.hok l _ hH
  exact ⟨z, its, n, r, r.length, e⟩
end
section
variable {X : Cx}
def rAppend : V → List V → Hp → VK → Prop := fun x vs H Q => ∃ l xs y, x = .ref l ∧ vs = [y] ∧ H l = some (.lst xs) ∧ xs.length < sizeLine ∧ Q .non (upd H l (.lst (xs ++ [y])))
theorem mt_append : MtM X "list.append" rAppend := by
  intro pins s σ H x vs v us Q I rx rv h
  obtain ⟨l, xs, y, rfl, rfl, hH, hz, q⟩ := h
  cases rx
  obtain ⟨u, rfl, ru⟩ := rv.one
  obtain ⟨z, its, n, r, hl, e⟩ := I.lstM hH
  refine call_meets F.slot_list_append ⟨_, e, rfl⟩ F.entry_list_append (F.args_list_append_2 _ _) (PySem.list_append l its.toArray n u (by rw [List.size_toArray]; omega)) ⟨e, ?_⟩
  refine ⟨.non, _, I.lset (its' := its ++ [u]) hH e (by simp) (r.append (.cons ru .nil)) ?_, rfl, q⟩
  rw [List.length_append, List.length_singleton]
  omega
end
section
variable {prog : Program} {w : World} {A : Around} {E : Value → Shared → Prop} {s : Shared}
end
section
variable {X : Cx}
end
end L2
namespace Att
open PySem PySem.W PySem.Calls PyProof.Rows
theorem ints_of_wellAll {P : Params} {h : Heap} : ∀ (ns : List Int) (vs : List Value), WellAll P h vs (ns.map WData.int) → IntsAre vs ns := by
  intro ns
  induction ns with
  | nil =>
    intro vs w
    rw [List.map_nil] at w
    cases w
    exact .nil
  | cons n ns ih =>
    intro vs w
    rw [List.map_cons] at w
    cases w with
    | cons a b =>
      cases a
      exact .cons _ _ (ih _ b)
theorem script_of {l : OpenLaw} {n : Nat} (hn : l.most = some n) {P : Params} {h : Heap} {args : List WData} {vals : List Value}
    (hpre : l.row.toRowW.claim.pre args = true) (hwl : WellAll P h vals args) :
    ∃ a vs ns, vals = [Value.ref a] ∧ args = [WData.list (ns.map WData.int)] ∧ h.get? a = some { cls := .type "list", data := .seq vs.toArray } ∧ IntsAre vs ns ∧ ns.length ≤ n := by
  have hsh : WShape.hasAll [] args [.list .int] = true := (pre_splitW hpre).1
  have hc : l.pre.holds [] { args := args } = true := (pre_splitW hpre).2
  obtain ⟨d, r, rfl, h1, h2⟩ := hasAllW_cons hsh
  obtain rfl := hasAllW_nil h2
  obtain ⟨xs, rfl, h3⟩ := hasW_list h1
  obtain ⟨ns, rfl⟩ := items_int h3
  have hlen : ns.length ≤ n := by
    unfold OpenLaw.pre at hc
    have h4 : (WTm.not (.lt (.lit (.int (n : Int))) (.len (.arg 0)))).holds [] { args := [.list (ns.map .int)] } = true := by
      have h4 := (holds_andW hc).1
      rw [hn] at h4
      exact h4
    have h5 := condW_of h4 (w_not (w_lt w_lit (w_len_list (w_arg rfl))))
    rw [List.length_map] at h5
    refine Nat.le_of_not_lt fun q => ?_
    have q' : (n : Int) < ((ns.length : Nat) : Int) := by omega
    first
      | (rw [decide_eq_true q'] at h5; exact absurd h5 (by decide))
      | (simp at h5; omega)
  cases hwl with
  | cons w1 w2 =>
    cases w2
    cases w1 with
    | list ho hall => exact ⟨_, _, ns, rfl, rfl, ho, ints_of_wellAll ns _ hall, hlen⟩
theorem post_true (l : OpenLaw) (args : List WData) : l.row.toRowW.claim.post args (.bool true) args = true :=
  postW_of (r := l.row.toRowW) (X := (true == true))
    (show WShape.has [] (.bool true) .bool = true by first | rfl | decide | simp [WShape.has, WShape.arms, WShape.armsAll])
    (show (WTm.eq .res (.lit (.bool true))).value [] { args := args, res := some (.bool true), after := args } = some (.bool (true == true)) from w_eq_bool (w_res rfl) w_lit) rfl
theorem attach_call {l : OpenLaw} {n : Nat} {q : Program} {loose : List Str} {XP : (Str → Option Value) → Heap → Prop} {YP : World → Heap → Prop} {d : DefRec}
    (hn : l.most = some n) (hdf : d.params.defaults = [])
    (call : ∀ (w : World) (s₀ s₁ : Shared) (mg mb : Str → Option Value) (fa : Addr) (o : Obj) (pm cd doc : Value) (a : Addr) (vs : List Value) (ns : List Int),
      Ground q loose [] XP w s₀ mg mb s₁.heap → YP w s₁.heap →
      s₁.heap.get? fa = some o → o.data = .func (docDef d.name d.params d.body d.scope pm cd doc) → s₁.heap.CodeRec cd d.name → mg d.name = some (.ref fa) →
      s₁.heap.get? a = some { cls := .type "list", data := .seq vs.toArray } → IntsAre vs ns → ns.length ≤ n → s₁.gens = #[] →
      codeAny (model l.prog w) callerA (.call (.ref fa) ⟨[.ref a], []⟩) (fun r s' => r = .ok (.ret (.bool true)) ∧ OldK s₁.heap s'.heap ∧ s'.os = s₁.os ∧ AllBare s'.gens) s₁) :
    WalkO q loose XP YP l.row.toRowW d [] (fun f vs => PySem.call f vs) := by
  intro w s₀ s₁ mg mb G Y fa o pm cd doc dV kV ho hd hcd hD hmg hg args vals as hpre hlay hrd hwl hlo
  obtain rfl : dV = .none := Dflts.none hD hdf
  obtain rfl : kV = .none := Dflts.noKw hD
  obtain ⟨a, vs, ns, rfl, rfl, hobj, hints, hlen⟩ := script_of hn hpre hwl
  refine enter_call (codeAny_mono (call w s₀ s₁ mg mb fa o pm cd doc a vs ns G Y ho (fd_plain hd) hcd hmg hobj hints hlen hg) fun r s' hq => ?_)
  obtain ⟨rfl, h2, h3, h4⟩ := hq
  exact ⟨.inl ⟨.bool true, .bool true, [], rfl, fun _ => rfl, .bool true, post_true l _, fun _ => ⟨List.Pairwise.nil, fun _ hm => (nomatch hm)⟩⟩, h2, h3, h4⟩
section
variable {prog : Program} {w : World} {A : Around} {E : Value → Shared → Prop} {s : Shared} {K : Frag}
end
end Att
namespace L2
open PySem PySem.Spec PyProof.Rows
theorem vals_ints : ∀ {vs : List Value} {ns : List Int}, IntsAre vs ns → Vals (ns.map V.int) vs
  | _, _, .nil => .nil
  | _, _, .cons n t h => .cons ⟨t, rfl⟩ (vals_ints h)
def Only (H : Hp) : Prop := ∀ b, H b = none ∨ ∃ o xs, H b = some (.frz o (.lst xs))
theorem law_call {P : Program} {w : World} {K : PySem.W.Frag} {mg mb : Str → Option Value} {CX : CXT} {k : Nat} {fa a : Addr} {fd : FuncData} {x : Str} {sp : Sp} {s₁ : Shared} {vs : List Value} {ns : List Int}
    (KX : K.In s₁.heap) (hns : s₁.heap.Ns mainGlobals mg) (hb : s₁.heap.Ns builtinsNs mb) (hbb : ∀ x : Str, x ≠ "__name__" → mb x = bootBuiltins x) (hlim : s₁.heap.NoLimit) (hg : s₁.gens = #[])
    (ha : s₁.heap.get? a = some { cls := .type "list", data := .seq vs.toArray }) (hi : IntsAre vs ns) (hl : ns.length ≤ sizeLine) (hr : Room k callerA)
    (F : ∀ base : Heap, K.In base → base.Ns mainGlobals mg → FnOk P w K mg base CX k fa fd [x] sp) (hbind : ∀ (s : Shared) (u : Value), BindsTo s fd ⟨[u], []⟩ [(x, u)])
    (hsp : ∀ H : Hp, Only H → SqL K H a (ns.map V.int) → sp [.ref a] H (fun v _ => v = .bl true) fun _ _ _ => False)
    (hCX : ∀ H e s', CX [] H s₁ (fun _ _ _ => False) e s' → False) :
    codeAny (model P w) callerA (.call (.ref fa) ⟨[.ref a], []⟩) (fun r s' => r = .ok (.ret (.bool true)) ∧ OldK s₁.heap s'.heap ∧ s'.os = s₁.os ∧ AllBare s'.gens) s₁ := by
  have rv := vals_ints hi
  have lenV := hi.length
  -- from an abstract heap in which nothing but the script may be tracked
  have core : ∀ H : Hp, Only H → SqL K H a (ns.map V.int) → HOk P w H s₁.heap → (∀ b, H b ≠ none → b = a) → (H a ≠ none → K.lookup a = none) →
      codeAny (model P w) callerA (.call (.ref fa) ⟨[.ref a], []⟩) (fun r s' => r = .ok (.ret (.bool true)) ∧ OldK s₁.heap s'.heap ∧ s'.os = s₁.os ∧ AllBare s'.gens) s₁ := by
    intro H hO hS hok hA hK
    have base_of : ∀ {b : Addr} {o : Obj}, s₁.heap.get? b = some o → H b = none → (hidT s₁.heap H).get? b = some o := fun e n => hidT_get e n
    have noA : ∀ {b : Addr} {o : Obj} {es : Array DictEntry} {ep : Nat}, s₁.heap.get? b = some o → o.data = .dict es ep → H b = none := fun {b o es ep} e d => by
      cases q : H b with
      | none => rfl
      | some u =>
        have e' : b = a := hA b (by rw [q]; simp)
        subst e'
        rw [ha] at e; cases e
        have d' : Data.seq vs.toArray _ = Data.dict es ep := d
        cases d'
    have nsK : ∀ {b : Addr} {m : Str → Option Value}, s₁.heap.Ns b m → (hidT s₁.heap H).Ns b m := fun {b m} ⟨o, es, ep, e, d, r⟩ => ⟨o, es, ep, base_of e (noA e d), d, r⟩
    have hKb : K.In (hidT s₁.heap H) := fun b o e => base_of (KX b o e) (by
      cases q : H b with
      | none => rfl
      | some u =>
        have e' : b = a := hA b (by rw [q]; simp)
        subst e'
        rw [hK (by rw [q]; simp)] at e; cases e)
    have hM : Mod K mg (hidT s₁.heap H) := ⟨hKb, nsK hns, ⟨mb, nsK hb, hbb⟩, let ⟨mc, h1, h2⟩ := hlim; ⟨mc, nsK h1, h2⟩⟩
    have e0 : Env0 P w K mg (hidT s₁.heap H) callerA [] s₁ H := ⟨rfl, hM, fun b o e => of_hidT e, Nat.le_of_eq (hidT_size _ _), trivial, fun b hb => absurd (show b ∈ ([] : List Addr) from hb) (by simp), hok, .of_eq hg⟩
    refine codeAny_mono ((F _ hKb (nsK hns)).run callerA [] s₁ H ⟨[.ref a], []⟩ [.ref a] [.ref a] _ _ hr e0 (hbind s₁ (.ref a)) (.cons rfl .nil) (hsp H hO hS)) fun r s' h => ?_
    cases r with
    | error e => exact (hCX H e s' h).elim
    | ok fl =>
      cases fl with
      | next => exact False.elim h
      | brk => exact False.elim h
      | cont => exact False.elim h
      | ret u =>
        obtain ⟨v, H', os, bare, un, hok', r', q⟩ := h
        have q' : v = .bl true := q
        subst q'
        obtain rfl : u = Value.bool true := r'
        refine ⟨rfl, OldK.of_keep fun b o e => ?_, os, bare⟩
        cases q : H b with
        | none => exact un.keep b o e q (by intro z; exact absurd (show b ∈ ([] : List Addr) from z) (by simp)) (by simp)
        | some u =>
          rcases hO b with z | ⟨ob, xs, z⟩
          · rw [q] at z; cases z
          · have z2 := un.frzs b ob _ z
            obtain ⟨e1, _⟩ := hok b _ z
            obtain ⟨e2, _⟩ := hok' b _ z2
            rw [e] at e1; cases e1
            exact e2
  cases hk : K.lookup a with
  | some o =>
    -- the script is one of the module's own objects
    have e := KX a o hk
    rw [ha] at e
    cases e
    refine core (fun _ => none) (fun _ => .inl rfl) (.inr ⟨_, vs.toArray, _, hk, rfl, rfl, rfl, by rw [List.size_toArray, lenV]; exact hl, by simpa using rv⟩) (fun b u z => by have z' : (none : Option HO) = some u := z; cases z') (fun b z => absurd rfl z) fun z => absurd rfl z
  | none =>
    refine core (fun b => if b = a then some (.frz { cls := .type "list", data := .seq vs.toArray } (.lst (ns.map V.int))) else none) (fun b => ?_) (.inl (.inr ⟨{ cls := .type "list", data := .seq vs.toArray }, if_pos rfl⟩)) (fun b u z => ?_) (fun b z => ?_) fun _ => hk
    · by_cases hb : b = a
      · exact .inr ⟨_, _, if_pos hb⟩
      · exact .inl (if_neg hb)
    · by_cases hb : b = a
      · have z' := (if_pos hb).symm.trans z
        cases z'
        subst hb
        exact ⟨ha, by rw [List.length_map]; exact hl, vs, _, rv, ha⟩
      · have z' := (if_neg hb).symm.trans z
        cases z'
    · by_cases hb : b = a
      · exact hb
      · exact absurd (if_neg hb) z
end L2
namespace L2
open PySem PySem.Spec PyProof.Rows
theorem walk_of {l : PySem.W.OpenLaw} {n k : Nat} {q : Program} {loose : List Str} {XP : (Str → Option Value) → Heap → Prop} {YP : World → Heap → Prop} {d : DefRec} {K : Params → PySem.W.Frag} {CX : World → CXT} {sp : World → Sp} {x : Str}
    (hn : l.most = some n) (hn2 : n ≤ sizeLine) (hdf : d.params.defaults = []) (hr : Room k callerA)
    (hY : ∀ (w : World) (h : Heap), YP w h → (K w.params).In h)
    (F : ∀ (w : World) (mg : Str → Option Value) (fa : Addr) (h : Heap), (K w.params).In h → h.Ns mainGlobals mg → mg d.name = some (.ref fa) →
      ∃ fd : FuncData, (∀ (s : Shared) (u : Value), BindsTo s fd ⟨[u], []⟩ [(x, u)]) ∧
        ∀ base : Heap, (K w.params).In base → base.Ns mainGlobals mg → FnOk l.prog w (K w.params) mg base (CX w) k fa fd [x] (sp w))
    (hsp : ∀ (w : World) (H : Hp) (a : Addr) (ns : List Int), ns.length ≤ n → Only H → SqL (K w.params) H a (ns.map V.int) → sp w [.ref a] H (fun v _ => v = .bl true) fun _ _ _ => False)
    (hCX : ∀ (w : World) (H : Hp) (s : Shared) (e : Value) (s' : Shared), CX w [] H s (fun _ _ _ => False) e s' → False) :
    PySem.W.WalkO q loose XP YP l.row.toRowW d [] (fun f vs => PySem.call f vs) := by
  refine Att.attach_call hn hdf fun w s₀ s₁ mg mb fa o pm cd doc a vs ns G Y ho hd hcd hmg hobj hints hlen hg => ?_
  have KX := hY w _ Y
  obtain ⟨fd, hb, hF⟩ := F w mg fa _ KX G.T.g hmg
  exact law_call KX G.T.g G.T.b G.T.builtins G.T.nolimit hg hobj hints (Nat.le_trans hlen hn2) hr hF hb (fun H hO hS => hsp w H a ns hlen hO hS) fun H e s' => hCX w H s₁ e s'
end L2
namespace L2
open PySem PySem.Spec PyProof.Rows
def inClass (s : Stmt) (j : Nat) : Stmt := match s with
  | .ClassDef _ _ _ body _ _ _ _ _ _ _ => body.getD j (.Pass ⟨0, 0, 0, 0⟩)
  | _ => .Pass ⟨0, 0, 0, 0⟩
def defArgs (s : Stmt) : Arguments := match s with
  | .FunctionDef _ a _ _ _ _ _ _ _ _ => a
  | _ => { posonlyargs := [], args := [], vararg := none, kwonlyargs := [], kw_defaults := [], kwarg := none, defaults := [] }
def defBody (s : Stmt) : List Stmt := match s with
  | .FunctionDef _ _ b _ _ _ _ _ _ _ => b
  | _ => []
def defScope (s : Stmt) : Scope := match s with
  | .FunctionDef _ _ _ _ _ _ sc _ _ _ => sc
  | _ => { kind := .function, names := [], isGenerator := false, isCoroutine := false }
abbrev CX0 : CXT := fun _ _ _ _ _ _ => False
abbrev E0 : XK := fun _ _ _ => False
theorem pass0 {X : Cx} : Passes CX0 X E0 := fun _ _ _ _ _ _ _ h => h.elim
structure Fun (K : PySem.W.Frag) (x qual : Str) (st : Stmt) (f : Addr) (fd : FuncData) : Prop where
  ex : ∃ (oc : Value) (od : Option Addr) (kV doc pm : Value) (an : Option Addr) (cdv ct : Value) (osl : Array (Option Value)),
    fd = PySem.W.fnOf x qual (defArgs st) (defBody st) (defScope st) .none kV doc pm an cdv ct ∧ K.lookup f = some ⟨oc, od, .func fd, osl⟩ ∧ PySem.W.codeIn K cdv qual = true
  kp : PySem.W.keepIn K (.ref f) = true
section
variable {P : Program} {w : World} {K : PySem.W.Frag} {mg : Str → Option Value} {base : Heap}
theorem Fun.ok {x qual : Str} {st : Stmt} {f : Addr} {fd : FuncData} {N ps : List Str} {k : Nat} {sp : Sp} (F : Fun K x qual st f fd) (S : FnScope N ps (defScope st)) (len : ∀ vs H Q E, sp vs H Q E → vs.length = ps.length)
    (hbody : ∀ (cdv : Value) (A : Around) (outer : List Env) (s : Shared) (H : Hp) (vs : List V) (Q : VK) (E : XK), Room k (A.deeper (envOfC qual (defScope st) s.heap.objs.size f cdv)) → sp vs H Q E →
      ∃ t, PSs (cxOf CX0 P w K mg base N qual (defScope st) f cdv A outer s H E).nox (defBody st) t ∧ t { nx := fun _ H' => Q .non H', rt := Q } (start N vs) H) : FnOk P w K mg base CX0 (k + 1) f fd ps sp := by
  obtain ⟨oc, od, kV, doc, pm, an, cdv, ct, osl, rfl, lk, hcd⟩ := F.ex
  refine fn_of lk hcd S len fun A outer s H vs Q E hr hsp => ?_
  obtain ⟨t, h, q⟩ := hbody cdv A outer s H vs Q E hr hsp
  exact ⟨t, h.nox, q⟩
theorem Fun.binds {x qual : Str} {st : Stmt} {f : Addr} {fd : FuncData} {ps : List Str} (F : Fun K x qual st f fd)
    (h : ∀ (kV doc pm : Value) (an : Option Addr) (cdv ct : Value) (us : List Value), us.length = ps.length → bindArgs (PySem.W.fnOf x qual (defArgs st) (defBody st) (defScope st) .none kV doc pm an cdv ct) ⟨us, []⟩ = pure (ps.zip us)) : Binds K fd ps [] := by
  obtain ⟨oc, od, kV, doc, pm, an, cdv, ct, osl, rfl, lk, hcd⟩ := F.ex
  exact .all (h kV doc pm an cdv ct)
theorem fun_mk {x qual : Str} {st : Stmt} {f : Addr} {oc : Value} {od an : Option Addr} {osl : Array (Option Value)} {kV doc pm cdv ct : Value} (l : K.lookup f = some ⟨oc, od, .func (PySem.W.fnOf x qual (defArgs st) (defBody st) (defScope st) .none kV doc pm an cdv ct), osl⟩)
    (c : PySem.W.codeIn K cdv qual = true) (k : PySem.W.keepIn K (.ref f) = true) : Fun K x qual st f (PySem.W.fnOf x qual (defArgs st) (defBody st) (defScope st) .none kV doc pm an cdv ct) := ⟨⟨oc, od, kV, doc, pm, an, cdv, ct, osl, rfl, l, c⟩, k⟩
end
section
variable {X : Cx}
end
theorem iteF {A B : Prop} (h : B) : if false = true then A else B := by
  rw [if_neg Bool.false_ne_true]
  exact h
theorem iteT {A B : Prop} (h : A) : if true = true then A else B := by
  rw [if_pos rfl]
  exact h
def Same (H H' : Hp) : Prop := ∀ b o, H b = some o → H' b = some o
theorem Same.refl (H : Hp) : Same H H := fun _ _ h => h
theorem Same.trans {H H1 H2 : Hp} (a : Same H H1) (b : Same H1 H2) : Same H H2 := fun c o h => b c o (a c o h)
theorem Same.free {H H' : Hp} (e : Same H H') {l : Addr} (h : H' l = Option.none) : H l = Option.none := by
  cases q : H l with
  | none => rfl
  | some o =>
    rw [e l o q] at h
    cases h
theorem Same.seq {K : PySem.W.Frag} {H H' : Hp} {a : Addr} {xs : List V} (e : Same H H') (h : SqL K H a xs) : SqL K H' a xs := by
  rcases h with (h | ⟨o, h⟩) | h
  · exact .inl (.inl (e _ _ h))
  · exact .inl (.inr ⟨o, e _ _ h⟩)
  · exact .inr h
end L2
set_option Elab.async false
set_option linter.all false
set_option maxRecDepth 100000
namespace L2
open PySem PySem.Spec PyProof.Rows
section
variable {κ : Type} [DecidableEq κ]
def valV (kvs : List (κ × V)) (k : κ) : Option V := (kvs.find? fun kv => decide (kv.1 = k)).map (·.2)
def putK (kvs : List (κ × V)) (k : κ) (v : V) : List (κ × V) :=
  if (kvs.any fun kv => decide (kv.1 = k)) = true then kvs.map (fun kv => if kv.1 = k then (kv.1, v) else kv) else kvs ++ [(k, v)]
def dropK (kvs : List (κ × V)) (k : κ) : List (κ × V) := kvs.filter fun kv => decide (kv.1 ≠ k)
theorem valV_pos {p : κ × V} {r : List (κ × V)} {k : κ} (e : p.1 = k) : valV (p :: r) k = some p.2 := by simp [valV, List.find?_cons, e]
theorem valV_neg {p : κ × V} {r : List (κ × V)} {k : κ} (e : ¬ p.1 = k) : valV (p :: r) k = valV r k := by simp [valV, List.find?_cons, e]
theorem valV_any (k : κ) : ∀ kvs : List (κ × V), (kvs.any fun kv => decide (kv.1 = k)) = (valV kvs k).isSome
  | [] => rfl
  | p :: r => by
    rw [List.any_cons]
    by_cases e : p.1 = k
    · simp only [valV_pos e, decide_eq_true e, Bool.true_or, Option.isSome_some]
    · rw [valV_neg e, decide_eq_false e, Bool.false_or]; exact valV_any k r
theorem RelO.isSome_eq {o : Option V} {u : Option Value} (r : RelO o u) : o.isSome = u.isSome := by
  cases o with
  | none => cases u with
    | none => rfl
    | some _ => exact (show False from r).elim
  | some _ => cases u with
    | none => exact (show False from r).elim
    | some _ => rfl
theorem RelO.getD {o : Option V} {u : Option Value} {d : V} {d' : Value} (r : RelO o u) (rd : RelV d d') : RelV (o.getD d) (u.getD d') := by
  cases o with
  | none => cases u with
    | none => exact rd
    | some _ => exact (show False from r).elim
  | some _ => cases u with
    | none => exact (show False from r).elim
    | some _ => exact r
theorem KV.val {kvs : List (κ × V)} {vs : List (κ × Value)} (r : KV kvs vs) (k : κ) : RelO (valV kvs k) (valueAt vs k) := by
  unfold KV at r
  induction r with
  | nil => exact True.intro
  | @cons p q ps qs h t ih =>
    obtain ⟨h1, h2⟩ := h
    by_cases e : p.1 = k
    · have e' : q.1 = k := h1.symm.trans e
      have b : valueAt (q :: qs) k = some q.2 := by simp [valueAt, List.find?_cons, e']
      rw [valV_pos e, b]; exact h2
    · have e' : ¬ q.1 = k := fun z => e (h1.trans z)
      have b : valueAt (q :: qs) k = valueAt qs k := by simp [valueAt, List.find?_cons, e']
      rw [valV_neg e, b]; exact ih
theorem KV.any {kvs : List (κ × V)} {vs : List (κ × Value)} (r : KV kvs vs) (k : κ) : (kvs.any fun kv => decide (kv.1 = k)) = vs.any fun kv => decide (kv.1 = k) := by
  unfold KV at r
  induction r with
  | nil => rfl
  | cons h t ih => rw [List.any_cons, List.any_cons, ih, h.1]
theorem KV.repl {kvs : List (κ × V)} {vs : List (κ × Value)} (r : KV kvs vs) (k : κ) {y : V} {u : Value} (ry : RelV y u) :
    KV (kvs.map fun kv => if kv.1 = k then (kv.1, y) else kv) (vs.map fun kv => if kv.1 = k then (kv.1, u) else kv) := by
  unfold KV at r ⊢
  induction r with
  | nil => exact .nil
  | @cons p q ps qs h t ih =>
    rw [List.map_cons, List.map_cons]
    refine .cons ?_ ih
    obtain ⟨h1, h2⟩ := h
    by_cases e : p.1 = k
    · rw [if_pos e, if_pos (h1.symm.trans e)]; exact ⟨h1, ry⟩
    · rw [if_neg e, if_neg (fun z => e (h1.trans z))]; exact ⟨h1, h2⟩
theorem KV.put {kvs : List (κ × V)} {vs : List (κ × Value)} (r : KV kvs vs) (k : κ) {y : V} {u : Value} (ry : RelV y u) : KV (putK kvs k y) (stored vs k u) := by
  unfold putK stored
  rw [r.any k]
  by_cases e : (vs.any fun kv => decide (kv.1 = k)) = true
  · rw [if_pos e, if_pos e]; exact r.repl k ry
  · rw [if_neg e, if_neg e]; exact Paired.snoc r ⟨rfl, ry⟩
theorem KV.drop {kvs : List (κ × V)} {vs : List (κ × Value)} (r : KV kvs vs) (k : κ) : KV (dropK kvs k) (without vs k) := by
  unfold KV at r ⊢
  unfold dropK without
  induction r with
  | nil => exact .nil
  | @cons p q ps qs h t ih =>
    obtain ⟨h1, h2⟩ := h
    rw [List.filter_cons, List.filter_cons]
    by_cases e : p.1 = k
    · have a : ¬ decide (p.1 ≠ k) = true := by simp [e]
      have b : ¬ decide (q.1 ≠ k) = true := by simp [h1.symm.trans e]
      rw [if_neg a, if_neg b]; exact ih
    · have e' : ¬ q.1 = k := fun z => e (h1.trans z)
      have a : decide (p.1 ≠ k) = true := by simp [e]
      have b : decide (q.1 ≠ k) = true := by simp [e']
      rw [if_pos a, if_pos b]; exact .cons ⟨h1, h2⟩ ih
theorem KV.keys {kvs : List (κ × V)} {vs : List (κ × Value)} (r : KV kvs vs) : kvs.map (·.1) = vs.map (·.1) := by
  unfold KV at r
  induction r with
  | nil => rfl
  | cons h t ih => rw [List.map_cons, List.map_cons, ih, h.1]
theorem KV.length {kvs : List (κ × V)} {vs : List (κ × Value)} (r : KV kvs vs) : kvs.length = vs.length := Paired.length r
end
abbrev KT (H : Hp) : List (List Key × V) → List (List Key × Addr × Value) → Prop := Paired fun p q => p.1 = q.1 ∧ H q.2.1 = some (.tup (p.1.map kV)) ∧ RelV p.2 q.2.2
theorem KT.val {H : Hp} {kvs : List (List Key × V)} {xs : List (List Key × Addr × Value)} (r : KT H kvs xs) (k : List Key) : RelO (valV kvs k) ((atKey xs k).map (·.2)) := by
  induction r with
  | nil => exact True.intro
  | @cons p q ps qs h t ih =>
    obtain ⟨h1, _, h2⟩ := h
    by_cases e : p.1 = k
    · have e' : q.1 = k := h1.symm.trans e
      have b : atKey (q :: qs) k = some q.2 := by simp [atKey, List.find?_cons, e']
      rw [valV_pos e, b]; exact h2
    · have e' : ¬ q.1 = k := fun z => e (h1.trans z)
      have b : atKey (q :: qs) k = atKey qs k := by simp [atKey, List.find?_cons, e']
      rw [valV_neg e, b]; exact ih
theorem KT.repl {H : Hp} {kvs : List (List Key × V)} {xs : List (List Key × Addr × Value)} (r : KT H kvs xs) (k : List Key) {y : V} {u : Value} (ry : RelV y u) :
    KT H (kvs.map fun kv => if kv.1 = k then (kv.1, y) else kv) (xs.map (putAt k u)) := by
  induction r with
  | nil => exact .nil
  | @cons p q ps qs h t ih =>
    rw [List.map_cons, List.map_cons]
    refine .cons ?_ ih
    obtain ⟨h1, h2, h3⟩ := h
    unfold putAt
    by_cases e : p.1 = k
    · rw [if_pos e, if_pos (h1.symm.trans e)]; exact ⟨h1, h2, ry⟩
    · rw [if_neg e, if_neg (fun z => e (h1.trans z))]; exact ⟨h1, h2, h3⟩
theorem KT.put {H : Hp} {kvs : List (List Key × V)} {xs : List (List Key × Addr × Value)} (r : KT H kvs xs) (k : List Key) {b : Addr} {y : V} {u : Value} (hb : H b = some (.tup (k.map kV))) (ry : RelV y u) :
    KT H (putK kvs k y) (storedH xs k b u) := by
  have e : (kvs.any fun kv => decide (kv.1 = k)) = (atKey xs k).isSome := by
    rw [valV_any, (r.val k).isSome_eq, Option.isSome_map]
  unfold putK storedH
  rw [e]
  by_cases q : (atKey xs k).isSome = true
  · rw [if_pos q, if_pos q]; exact r.repl k ry
  · rw [if_neg q, if_neg q]; exact Paired.snoc r ⟨rfl, hb, ry⟩
theorem KT.keeps {H H' : Hp} {kvs : List (List Key × V)} {xs : List (List Key × Addr × Value)} (r : KT H kvs xs) (ht : ∀ b ys, H b = some (.tup ys) → H' b = some (.tup ys)) : KT H' kvs xs :=
  Paired.mapP r fun _ _ z => ⟨z.1, ht _ _ z.2.1, z.2.2⟩
section
variable {P : Program} {w : World} {H : Hp} {h : Heap} {a : Addr}
end
def DGet (H : Hp) (a : Addr) (y : V) (r : Option V) : Prop :=
  (∃ kvs k, Rd H a (.dK kvs) ∧ y = kV k ∧ r = valV kvs k) ∨ ∃ kvs k b, Rd H a (.dT kvs) ∧ y = .ref b ∧ H b = some (.tup (k.map kV)) ∧ r = valV kvs k
def DPut (H : Hp) (a : Addr) (y v : V) (H' : Hp) : Prop :=
  (∃ kvs k, H a = some (.dK kvs) ∧ y = kV k ∧ kvs.length < sizeLine ∧ H' = upd H a (.dK (putK kvs k v))) ∨
  ∃ kvs k b, H a = some (.dT kvs) ∧ y = .ref b ∧ H b = some (.tup (k.map kV)) ∧ kvs.length < sizeLine ∧ H' = upd H a (.dT (putK kvs k v))
theorem DGet.k {H : Hp} {a : Addr} {kvs : List (Key × V)} {k : Key} (e : H a = some (.dK kvs)) : DGet H a (kV k) (valV kvs k) := .inl ⟨kvs, k, .inl e, rfl, rfl⟩
theorem DGet.t {H : Hp} {a b : Addr} {kvs : List (List Key × V)} {k : List Key} (e : H a = some (.dT kvs)) (eb : H b = some (.tup (k.map kV))) : DGet H a (.ref b) (valV kvs k) := .inr ⟨kvs, k, b, .inl e, rfl, eb, rfl⟩
theorem DPut.k {H : Hp} {a : Addr} {kvs : List (Key × V)} {k : Key} {v : V} (e : H a = some (.dK kvs)) (hl : kvs.length < sizeLine) : DPut H a (kV k) v (upd H a (.dK (putK kvs k v))) := .inl ⟨kvs, k, e, rfl, hl, rfl⟩
theorem DPut.t {H : Hp} {a b : Addr} {kvs : List (List Key × V)} {k : List Key} {v : V} (e : H a = some (.dT kvs)) (eb : H b = some (.tup (k.map kV))) (hl : kvs.length < sizeLine) :
    DPut H a (.ref b) v (upd H a (.dT (putK kvs k v))) := .inr ⟨kvs, k, b, e, rfl, eb, hl, rfl⟩
section
variable {X : Cx} {pins : List (Addr × Obj)} {σ : St} {H : Hp} {s : Shared} {a : Addr} {y v : V} {u r : Value} {o : Option V} {A : Around} {E : Value → Shared → Prop}
end
section
variable {X : Cx} {pins : List (Addr × Obj)} {σ : St} {H : Hp} {s : Shared} {a : Addr} {kvs : List (Key × V)} {k : Key} {u : Value} {A : Around} {E : Value → Shared → Prop}
end
section
variable {X : Cx} {o i e value : Expr} {pos pos' tpos : Pos} {td ty tv : TE}
end
section
variable {X : Cx} {pos : Pos}
end
section
variable {X : Cx} {pins : List (Addr × Obj)} {σ : St} {H : Hp} {s : Shared} {a : Addr} {y d : V} {u r : Value} {o : Option V} {A : Around} {E : Value → Shared → Prop}
end
section
variable {X : Cx} {o e f : Expr} {apos cpos : Pos} {td ty tx : TE}
end
section
variable {X : Cx} {pins : List (Addr × Obj)} {σ : St} {H : Hp} {s : Shared} {a : Addr} {kvs : List (Key × V)} {A : Around} {E : Value → Shared → Prop}
end
section
variable {X : Cx} {pins : List (Addr × Obj)} {σ : St} {H : Hp} {s : Shared} {a : Addr} {y : V} {u : Value} {A : Around} {E : Value → Shared → Prop}
end
end L2
set_option Elab.async false
set_option linter.all false
set_option maxRecDepth 100000
set_option maxHeartbeats 4000000
namespace DL
open PySem PySem.Spec PyProof.Rows L2 PySem.W
def onlyV : List Value → Bool
  | [.type a, .type b, .type c, .type d] => a == "ValueError" && b == "Exception" && c == "BaseException" && d == "object"
  | .ref _ :: r => onlyV r
  | _ => false
theorem onlyV_4 {a b c d : String} (e : onlyV [.type a, .type b, .type c, .type d] = true) : [Value.type a, .type b, .type c, .type d] = [.type "ValueError", .type "Exception", .type "BaseException", .type "object"] := by
  simp only [onlyV, Bool.and_eq_true, beq_iff_eq] at e
  obtain ⟨⟨⟨rfl, rfl⟩, rfl⟩, rfl⟩ := e
  rfl
theorem onlyV_ind {P : List Value → Prop} (h0 : P [.type "ValueError", .type "Exception", .type "BaseException", .type "object"]) (h1 : ∀ c r, onlyV r = true → P r → P (.ref c :: r)) : ∀ l, onlyV l = true → P l
  | [.type a, .type b, .type c, .type d], e => by rw [onlyV_4 e]; exact h0
  | .ref c :: r, e => h1 c r (by cases r <;> exact e) (onlyV_ind h0 h1 r (by cases r <;> exact e))
theorem has_V (n : String) (hn : [Value.type "ValueError", .type "Exception", .type "BaseException", .type "object"].contains (.type n) = true) : ∀ l, onlyV l = true → l.contains (.type n) = true :=
  onlyV_ind hn fun c r _ ih => by rw [List.contains_cons, ih, Bool.or_true]
structure XCl (K : Frag) (C : Addr) : Prop where
  cd : ∃ cd, clsIn K C = some cd ∧ cd.hasDict = true ∧ onlyV cd.mro = true
  sa : findIn K (.ref C) "__setattr__" = some (some (.builtin "object.__setattr__"))
  ga : findIn K (.ref C) "__getattribute__" = some (some (.builtin "BaseException.__getattribute__"))
  gh : findIn K (.ref C) "__getattr__" = some none
  ty : typeIn K (.ref C) = some (.type "type")
structure XCk (K : Frag) (C : Addr) : Prop extends XCl K C where
  ca : findIn K (.ref C) "__class__" = some (some (.builtin "object.__class__"))
  cg : specialIn K (.builtin "object.__class__") "__get__" = some (some (.builtin "getset_descriptor.__get__"))
  ct : takesIn K (.builtin "object.__class__") = some true
section
variable {K : Frag} {C : Addr}
theorem XCl.mro (c : XCl K C) (n : String) (hn : [Value.type "ValueError", .type "Exception", .type "BaseException", .type "object"].contains (.type n) = true) : mroIn K C (.type n) = some true := by
  obtain ⟨cd, hc, _, ho⟩ := c.cd
  have ne : cd.mro.isEmpty = false := by cases q : cd.mro with | nil => rw [q] at ho; cases ho | cons _ _ => rfl
  unfold mroIn
  rw [hc, Option.bind_some, if_neg (by rw [ne]; decide), has_V n hn _ ho]
end
end DL
set_option Elab.async false
set_option linter.all false
set_option maxRecDepth 100000
set_option maxHeartbeats 4000000
namespace DL
open PySem PySem.Spec PyProof.Rows L2 PySem.W
theorem refuse_V (self : Value) : ∀ l, onlyV l = true → refuseLoop self "__setattr__" l = pure () :=
  onlyV_ind (by kernel_rfl) fun c r _ ih => by rw [refuseLoop_ref]; exact ih
section
variable {prog : Program} {w : World} {A : Around} {E : Value → Shared → Prop} {s : Shared} {K : Frag} {x C : Addr} {name : Str} {v : Value} {vs : Array Value} {sl : Array (Option Value)}
theorem XCl.sub {M : Model} {h : Heap} {ox : Obj} {od : Option Obj} (c : XCl K C) (X : K.In h) (I : InstAt h x ox C od) (n : String) (hn : [Value.type "ValueError", .type "Exception", .type "BaseException", .type "object"].contains (.type n) = true) : Looks M h (isInstance (.ref x) (.type n)) true := by
  obtain ⟨cd, hc, _, ho⟩ := c.cd
  have ne : cd.mro.isEmpty = false := by cases q : cd.mro with | nil => rw [q] at ho; cases ho | cons _ _ => rfl
  exact I.type.andThen (looks_mroIn X (by unfold mroIn; rw [hc, Option.bind_some, if_neg (by rw [ne]; decide), has_V n hn _ ho]))
theorem xosa {R : Result → Shared → Prop} {ox : Obj} {od : Option Obj} {tk : Tok} (c : XCl K C) (X : K.In s.heap) (I : InstAt s.heap x ox C od) (ht : NoAttr K C name)
    (h : wpAny (model prog w) A.in1 (Builtin.ObjectAttr.storeInOwnDict (.ref x) (.ref C) (.str name tk) name v false)
      (fun fin s' => match fin with | .done f => R (.ok f) s' | .again c' => c'.quiet = true ∧ codeAny (model prog w) A c' R s') (fun e s' => R (.error e) s') s) :
    codeAny (model prog w) A (.call (.builtin "object.__setattr__") ⟨[.ref x, .str name tk, v], []⟩) R s := by
  have SF := PySem.F.store_object
  obtain ⟨cd, hc, _, ho⟩ := c.cd
  refine codeAny_call_builtin SF.slot.plain SF.entry (@check_slot (model prog w) _ _ s "object.__setattr__" "object" "__setattr__" (.ref x) [.str name tk, v] [] _ SF.kind SF.split (c.sub X I "object" (by decide)) (SF.args (.ref x) (.str name tk) v) ?_)
  have hm : Looks (model prog w) s.heap (mroOf (.ref C)) cd.mro := (looks_clsIn X hc).andThen .now
  rw [osa_eq, refuse_eq]
  refine wpAny_bind (wpAny_bind (I.type.here (wpAny_bind (hm.here ?_))))
  rw [refuse_V _ _ ho]
  refine wpAny_pure (wpAny_bind (I.type.here (wpAny_bind ((looks_findIn X (show findIn K (.ref C) name = some none from ht)).here ?_))))
  exact wpAny_bind (wpAny_pure h)
theorem xset_new {Q : Unit → Shared → Prop} (c : XCl K C) (X : K.In s.heap) (hx : s.heap.get? x = some ⟨.ref C, none, .fields vs, sl⟩) (ht : NoAttr K C name)
    (h : ∀ h' t', h'.get? x = some ⟨.ref C, some s.heap.objs.size, .fields vs, sl⟩ → h'.Ns1 s.heap.objs.size (fun y => if y = name then some v else none) → (∀ b o, b ≠ x → s.heap.get? b = some o → h'.get? b = some o) → Q () { s with heap := h', toks := t' }) :
    wpAny (model prog w) A (setAttr (.ref x) name v) Q E s := by
  obtain ⟨hh, g, d, t, os⟩ := s
  have I : InstAt hh x ⟨.ref C, none, .fields vs, sl⟩ C none := ⟨hx, rfl, rfl, trivial⟩
  obtain ⟨cd, hc, hd, _⟩ := c.cd
  refine set_plain (s := ⟨hh, g, d, t, os⟩) X I c.sa (xosa (s := ⟨hh, g, d, t + 1, os⟩) c X I ht ?_)
  have hxs : x ≠ hh.objs.size := Nat.ne_of_lt (Heap.lt_size hx)
  have hx1 : (hh.push { cls := .type "dict", data := .dict #[] }).get? x = some ⟨.ref C, none, .fields vs, sl⟩ := Heap.get?_push_of_some _ hx
  refine wpAny_bind (wpAny_pure (wpAny_bind (wpAny_bind (wpAny_loadPart hx (wpAny_bind (Looks.here (s := ⟨hh, g, d, t + 1, os⟩) (looks_clsIn X hc) ?_))))))
  rw [hd]
  refine wpAny_bind (wpAny_alloc' (wpAny_bind (wpAny_update' hx1 (wpAny_pure ?_))))
  generalize eh : ((hh.push { cls := .type "dict", data := .dict #[] }).update x fun o => { cls := o.cls, dict := some hh.objs.size, data := o.data, slots := o.slots }) = h1
  have hgd : h1.get? hh.objs.size = some { cls := .type "dict", data := .dict #[] } := by
    rw [← eh]
    exact (Heap.get?_update_ne _ _ _ _ hxs.symm).trans (Heap.get?_push_at rfl rfl)
  have hx2 : h1.get? x = some ⟨.ref C, some hh.objs.size, .fields vs, sl⟩ := by rw [← eh]; exact Heap.get?_update_self _ hx1 rfl
  have hnd : h1.Ns hh.objs.size (fun _ => none) := ⟨_, #[], _, hgd, rfl, fun e he => absurd he (by simp), fun _ => rfl⟩
  refine wpAny_bind (wpAny_pure (wpAny_bind (wpAny_nsSet1 (s := ⟨h1, g, d, t + 1, os⟩) (Heap.Ns1.of_empty hnd) fun h' hn' hs => ?_)))
  obtain ⟨oD, esD, epD, hoD, hdD, hcD⟩ := hn'.count (Within.cons name v Within.nil)
  refine wpAny_bind (wpAny_lookBehind hoD (by rw [hdD]; exact pastItsLine_dict (Nat.le_trans hcD (by rw [List.length_cons, List.length_nil, sizeLine_eq]; omega))) ?_)
  refine wpAny_pure (h h' _ ((hs.2 x hxs).trans hx2) hn' fun b o hb e => ?_)
  refine (hs.2 b (Nat.ne_of_lt (Heap.lt_size e))).trans ?_
  rw [← eh]
  exact (Heap.get?_update_ne _ _ _ _ hb).trans (Heap.get?_push_of_some _ e)
theorem xset_more {Q : Unit → Shared → Prop} {dx : Addr} {mA : Str → Option Value} {ns : List Str} (c : XCl K C) (X : K.In s.heap) (hx : s.heap.get? x = some ⟨.ref C, some dx, .fields vs, sl⟩) (ht : NoAttr K C name) (hn : s.heap.Ns1 dx mA) (hw : Within mA ns) (hz : ns.length < sizeLine) (ne : dx ≠ x)
    (h : ∀ h' t', h'.Ns1 dx (fun y => if y = name then some v else mA y) → Heap.SameBut dx s.heap h' → Q () { s with heap := h', toks := t' }) :
    wpAny (model prog w) A (setAttr (.ref x) name v) Q E s := by
  obtain ⟨hh, g, d, t, os⟩ := s
  obtain ⟨od, ho, _⟩ := lookIn_ns hn
  have I : InstAt hh x ⟨.ref C, some dx, .fields vs, sl⟩ C (some od) := ⟨hx, rfl, rfl, ho⟩
  obtain ⟨cd, hc, hd, _⟩ := c.cd
  refine set_plain (s := ⟨hh, g, d, t, os⟩) X I c.sa (xosa (s := ⟨hh, g, d, t + 1, os⟩) c X I ht ?_)
  refine wpAny_bind (wpAny_pure (wpAny_bind (wpAny_bind (wpAny_loadPart hx (wpAny_bind (Looks.here (s := ⟨hh, g, d, t + 1, os⟩) (looks_clsIn X hc) ?_))))))
  rw [hd]
  refine wpAny_pure (a := some dx) (wpAny_bind (wpAny_pure (wpAny_bind ?_)))
  refine wpAny_nsSet1 (s := ⟨hh, g, d, t + 1, os⟩) hn fun h' hn2 hs2 => ?_
  obtain ⟨oD, esD, epD, hoD, hdD, hcD⟩ := hn2.count (Within.cons name v hw)
  refine wpAny_bind (wpAny_lookBehind hoD (by rw [hdD]; exact pastItsLine_dict (Nat.le_trans hcD (by rw [List.length_cons]; omega))) ?_)
  exact wpAny_pure (h _ _ hn2 hs2)
theorem xget {Q : Value → Shared → Prop} {expr : Bool} {dx : Addr} {mA : Str → Option Value} (c : XCl K C) (X : K.In s.heap) (hx : s.heap.get? x = some ⟨.ref C, some dx, .fields vs, sl⟩) (ht : NoAttr K C name) (hn : s.heap.Ns1 dx mA) (hv : mA name = some v) (hh' : handedIn v = true)
    (h : ∀ t', Q v { s with toks := t' }) : wpAny (model prog w) A (getAttr (.ref x) name expr) Q E s := by
  obtain ⟨hh, g, d, t, os⟩ := s
  obtain ⟨od, ho, hl⟩ := lookIn_ns hn
  have I : InstAt hh x ⟨.ref C, some dx, .fields vs, sl⟩ C (some od) := ⟨hx, rfl, rfl, ho⟩
  obtain ⟨cd, hc, hd, _⟩ := c.cd
  have FX := PySem.F.attr_ValueError
  have L0 := I.type (M := model prog w)
  have L1 := looks_findIn (M := model prog w) X c.ga
  have L2 := looks_findIn (M := model prog w) X c.gh
  have hf : findObj K C (some od) name = some (.value v) := findObj_own (by unfold hasDictIn; rw [hc]; exact hd) ht rfl (by rw [hl, hv])
  have L3 := looks_find (M := model prog w) X I hf
  unfold getAttr getAttrBy
  refine wpAny_bind (wpAny_mkText (wpAny_holding (wpAny_bind (L0.at (wpAny_bind (L1.at ?_))))))
  show wpAny _ _ (getAttrByItsOwn _ _ _ _ _ _) _ _ _
  unfold getAttrByItsOwn
  refine wpAny_bind (L2.at (wpAny_bind (wpAny_attempt (wpAny_holding ?_))))
  show wpAny _ _ (callGetattribute _ _ _ _) _ _ _
  unfold callGetattribute boundAndCalled
  rw [if_neg (by cases expr <;> simp [onTheHeap])]
  rw [FX.ga.bind]
  refine wpAny_bind (wpAny_pure (wpAny_call ?_))
  refine codeAny_call_builtin FX.ga.plain F.entry_bexc_ga (@check_slot (model prog w) _ _ ⟨hh, g, d, t + 1, os⟩ "BaseException.__getattribute__" "BaseException" "__getattribute__" (.ref x) [.str name t] [] _ (by decide +kernel) (by decide +kernel) (c.sub X I "BaseException" (by decide)) (F.args_bexc_ga (.ref x) (.str name t)) ?_)
  unfold Builtin.«object.__getattribute__»
  refine wpAny_bind (wpAny_pure (wpAny_bind (wpAny_pure (wpAny_bind (L0.at (wpAny_bind (L3.at ?_)))))))
  refine wpAny_pure ?_
  show wpAny _ _ (handedOut v) _ _ _
  rw [handedOut_of hh']
  exact wpAny_pure (h _)
end
end DL
set_option Elab.async false
set_option linter.all false
set_option maxRecDepth 100000
set_option maxHeartbeats 4000000
namespace DL
open PySem PySem.Spec PyProof.Rows L2 PySem.W
section
variable {prog : Program} {w : World} {A : Around} {E : Value → Shared → Prop} {s : Shared} {K : Frag} {x C : Addr} {vs : Array Value} {sl : Array (Option Value)}
theorem xclass {Q : Option Value → Shared → Prop} {ox : Obj} {od : Option Obj} (c : XCk K C) (X : K.In s.heap) (I : InstAt s.heap x ox C od) (h : Q (some (.ref C)) { s with toks := s.toks + 1 }) : wpAny (model prog w) A (getAttr? (.ref x) "__class__") Q E s := by
  obtain ⟨hh, g, d, t, os⟩ := s
  obtain ⟨cd, hc, hd, _⟩ := c.cd
  have FX := PySem.F.attr_ValueError
  have L0 := I.type (M := model prog w)
  have L1 := looks_findIn (M := model prog w) X c.ga
  have L2 := looks_findIn (M := model prog w) X c.gh
  have hf : findObj K C od "__class__" = some (.bind (.builtin "getset_descriptor.__get__") (.builtin "object.__class__")) := by simp only [findObj, hc, c.ca, c.cg, c.ct, Option.bind_some]
  have L3 := looks_find (M := model prog w) X I hf
  unfold getAttr? getAttrBy? getAttrBy
  refine wpAny_bind (wpAny_mkText (wpAny_bind (wpAny_attempt (wpAny_holding (wpAny_bind (L0.at (wpAny_bind (L1.at ?_))))))))
  show wpAny _ _ (getAttrByItsOwn _ _ _ _ _ _) _ _ _
  unfold getAttrByItsOwn
  refine wpAny_bind (L2.at (wpAny_bind (wpAny_attempt (wpAny_holding ?_))))
  show wpAny _ _ (callGetattribute _ _ _ _) _ _ _
  unfold callGetattribute boundAndCalled
  rw [if_neg (by simp [onTheHeap])]
  rw [FX.ga.bind]
  refine wpAny_bind (wpAny_pure (wpAny_call ?_))
  refine codeAny_call_builtin FX.ga.plain F.entry_bexc_ga (@check_slot (model prog w) _ _ ⟨hh, g, d, t + 1, os⟩ "BaseException.__getattribute__" "BaseException" "__getattribute__" (.ref x) [.str "__class__" t] [] _ (by decide +kernel) (by decide +kernel) (c.sub X I "BaseException" (by decide)) (F.args_bexc_ga (.ref x) (.str "__class__" t)) ?_)
  unfold Builtin.«object.__getattribute__»
  refine wpAny_bind (wpAny_pure (wpAny_bind (wpAny_pure (wpAny_bind (L0.at (wpAny_bind (L3.at ?_)))))))
  show wpAny _ _ (holding [.builtin "object.__class__"] (call (.builtin "getset_descriptor.__get__") [.builtin "object.__class__", .ref x, .ref C]) >>= ret) _ _ _
  refine wpAny_bind (wpAny_holding (wpAny_call (class_get (s := ⟨hh, g, d, t + 1, os⟩) (ox := ox) (od := od) X I (c.mro "object" (by decide)) ?_)))
  refine wpAny_pure ?_
  exact wpAny_pure (wpAny_pure h)
theorem kitx_exc {ox : Obj} {od : Option Obj} (c : XCk K C) : KitX K (.ref x) (.ref C) (fun h => InstAt h x ox C od) where
  ty := fun _ _ _ I => I.type
  it := fun _ _ X _ => by
    obtain ⟨cd, hc, _⟩ := c.cd
    unfold clsIn at hc
    split at hc
    · rename_i ho
      intro A' Q' E' s' k q
      unfold isType loadHead
      exact wpAny_bind (wpAny_loadPart (k _ _ (X _ _ ho)) (wpAny_pure q))
    · cases hc
  ne := fun h tp dd its n sl X htp => by
    obtain ⟨cd, hc, _⟩ := c.cd
    refine Bool.eq_false_iff.mpr fun q => ?_
    have e : C = tp := Value.ref.inj (beq_iff_eq.mp q)
    subst e
    unfold clsIn at hc
    split at hc
    · rename_i ho
      have z := (X _ _ ho).symm.trans htp
      cases z
    · cases hc
  ca := fun X I k => xclass c X I k
theorem notType {M : Model} {h : Heap} {o : Obj} (hx : h.get? x = some o) (hd : notCls o = true) : Looks M h (isType (.ref x)) false := by
  intro A' Q' E' s' k q
  unfold isType loadHead
  refine wpAny_bind (wpAny_loadPart (k _ _ hx) ?_)
  obtain ⟨c, d, dt, sl⟩ := o
  cases dt <;> first | exact wpAny_pure q | cases hd
theorem xraise {env : Env} {xs : Sem Value} {Q : Flow → Shared → Prop} (hh : A.handled = none) (c : XCl K C)
    (h : wpAny (model prog w) A xs (fun v s₁ => ∃ e dx od vs sl, v = .ref e ∧ K.In s₁.heap ∧ InstAt s₁.heap e ⟨.ref C, dx, .fields vs, sl⟩ C od ∧ vs[1]? = some .none ∧ E (.ref e) s₁) E s) : wpAny (model prog w) A (raiseStmt env (some xs) none) Q E s := by
  unfold raiseStmt
  refine wpAny_bind (wpAny_mono h (fun v s₁ h₁ => ?_) fun _ _ x => x)
  obtain ⟨e, dx, od, vs, sl, rfl, X, I, h1, hE⟩ := h₁
  obtain ⟨hp, g, d, tk, os⟩ := s₁
  have N := notType (M := model prog w) I.at_ rfl
  have S := c.sub (M := model prog w) X I "BaseException" (by decide)
  refine wpAny_bind (wpAny_pure (wpAny_bind (wpAny_holding ?_)))
  have T := looks_typeIn (M := model prog w) X c.ty
  unfold excFromValue isExcClass
  refine wpAny_bind (wpAny_bind (N.at ?_))
  rw [if_neg Bool.false_ne_true]
  refine wpAny_pure ?_
  rw [if_neg Bool.false_ne_true]
  refine wpAny_bind (S.at ?_)
  rw [if_pos rfl]
  refine wpAny_pure ?_
  refine wpAny_bind (N.at ?_)
  rw [if_neg Bool.false_ne_true]
  refine wpAny_bind ?_
  unfold raisedInstance
  refine wpAny_bind (I.type.at (wpAny_bind (T.at ?_)))
  rw [if_pos (by decide)]
  refine wpAny_pure ?_
  unfold setFlight
  refine wpAny_bind (wpAny_bind (wpAny_field I.at_ rfl h1 ?_))
  rw [if_neg (by decide)]
  exact wpAny_pure (wpAny_raiseNew_none hh hE)
theorem xraise_st {env : Env} {xe : Expr} {pos : Pos} {Q : Flow → Shared → Prop} (hh : A.handled = none) (c : XCl K C)
    (h : wpAny (model prog w) A (eval xe env) (fun v s₁ => ∃ e dx od vs sl, v = .ref e ∧ K.In s₁.heap ∧ InstAt s₁.heap e ⟨.ref C, dx, .fields vs, sl⟩ C od ∧ vs[1]? = some .none ∧ E (.ref e) s₁) E s) : wpAny (model prog w) A (exec (.Raise (some xe) none pos) env) Q E s := by
  rw [arm_exec_Raise]
  exact wpAny_bind (wpAny_standAt (xraise hh c (wpAny_bind (wpAny_mono h (fun v s₁ h₁ => wpAny_bind (wpAny_standAt (wpAny_pure h₁))) fun _ _ z => z))))
theorem xmatch {M : Model} {S : Addr} {ox : Obj} {od : Option Obj} {b : Bool} {Q : Bool → Shared → Prop} (c : XCl K C) (cs : XCl K S) (X : K.In s.heap) (I : InstAt s.heap x ox C od) (hb : mroIn K C (.ref S) = some b) (h : Q b s) : wpAny M A (excMatches (.ref x) (.ref S)) Q E s := by
  obtain ⟨hp, g, d, tk, os⟩ := s
  have T := looks_typeIn (M := M) X cs.ty
  have U : Looks M hp (isSubtype (.type "type") (.type "tuple")) false := Looks.of_pure tc_notTuple
  have V : Looks M hp (isType (.ref S)) true := by
    obtain ⟨cd, hc, _⟩ := cs.cd
    unfold clsIn at hc
    split at hc
    · rename_i ho
      intro A' Q' E' s' k q
      unfold isType loadHead
      exact wpAny_bind (wpAny_loadPart (k _ _ (X _ _ ho)) (wpAny_pure q))
    · cases hc
  have W := looks_mroIn (M := M) X (cs.mro "BaseException" (by decide))
  have Y := looks_mroIn (M := M) X hb
  unfold excMatches isInstance isExcClass
  refine wpAny_bind (wpAny_bind (T.at (U.at ?_)))
  rw [if_neg Bool.false_ne_true]
  refine wpAny_bind (wpAny_pure ?_)
  simp only [List.forIn_cons, List.forIn_nil]
  refine wpAny_bind (wpAny_bind (wpAny_bind (wpAny_bind (V.at ?_))))
  rw [if_pos rfl]
  refine W.at ?_
  refine wpAny_pure (wpAny_pure (wpAny_bind (I.type.at (wpAny_bind (wpAny_bind (wpAny_bind (Y.at ?_)))))))
  cases b with
  | true => exact wpAny_pure (wpAny_pure (wpAny_pure h))
  | false => exact wpAny_pure (wpAny_pure (wpAny_pure h))
end
end DL
set_option Elab.async false
set_option linter.all false
set_option maxRecDepth 100000
set_option maxHeartbeats 4000000
namespace DL
open PySem PySem.Spec PyProof.Rows L2
inductive D where
  | dat (p : PyData)
  | cel (a : Addr)
inductive Cel where
  | l (xs : List PyData)
  | d (kvs : List (Key × PyData))
  | t (kvs : List (List Key × PyData))
  | dl (kas : List (Key × Addr))
  | fd (kvs : List (Key × PyData))
  | ft (kvs : List (List Key × PyData))
  | n (kvs : List (List PyData × D))
  | g (kvs : List (Key × D))
  | o (N : Str) (fs : List (Str × D))
  | tc (xs : List D)
@[simp] def isF : Option Cel → Bool
  | some (.fd _) => true
  | some (.ft _) => true
  | some (.tc _) => true
  | _ => false
abbrev Mu := Addr → Option Cel
abbrev St2 := List (Option D)
@[simp] def keyPy : Key → PyData
  | .inl i => .int i
  | .inr z => .str z
def mkU : PyData := .int (2 ^ 1930)
theorem mkU_show : mkU.showable = false := by
  show decide ((((2 : Int) ^ 1930).natAbs).log2 < 1920) = false
  rw [Int.natAbs_pow, show (2 : Int).natAbs = 2 from rfl, Nat.log2_two_pow]
  decide
def Ents (K : PySem.W.Frag) : HO → List (PyData × V) → Prop
  | .dK ws, vs => vs = ws.map fun kv => (keyPy kv.1, kv.2)
  | .dT ws, vs => vs = ws.map fun kv => (.tuple (kv.1.map keyPy), kv.2)
  | .dN K' ws, vs => K' = K ∧ vs = ws.map fun kv => (.tuple kv.1, kv.2)
  | _, _ => False
def EntX (K : PySem.W.Frag) (H : Hp) (o : Obj) (u : HO) (vs : List (PyData × V)) : Prop :=
  (∃ r, vs = (mkU, .non) :: r ∧ Ents K u r) ∨ ∃ C N fs dx ws sl, XCk K C ∧ PySem.W.nsIn K mainGlobals N = some (some (.ref C)) ∧ o = ⟨.ref C, dx, .fields ws, sl⟩ ∧ vs = (mkU, .str N) :: fs.map (fun kv : Str × V => (PyData.str kv.1, kv.2)) ∧
    ((dx = none ∧ fs = []) ∨ ∃ d od, dx = some d ∧ H d = some (.frz od (.xd fs)))
mutual
def RP (K : PySem.W.Frag) (Z : Addr → Prop) (m : Mu) (H : Hp) : PyData → V → Prop
  | .none, v => v = .non
  | .bool b, v => v = .bl b
  | .int i, v => v = .int i
  | .str x, v => v = .str x
  | .tuple xs, v => ∃ a vs, v = .ref a ∧ SqT K H a vs ∧ RPs K Z m H xs vs
  | .list xs, v => ∃ a vs, v = .ref a ∧ (m a = none ∧ ¬ Z a) ∧ SqL K H a vs ∧ RPs K Z m H xs vs
  | .dict kvs, v => ∃ a o u vs, v = .ref a ∧ H a = some (.frz o u) ∧ EntX K H o u vs ∧ RPd K Z m H kvs vs
def RPd (K : PySem.W.Frag) (Z : Addr → Prop) (m : Mu) (H : Hp) : List (PyData × PyData) → List (PyData × V) → Prop
  | [], vs => vs = []
  | (k, p) :: xs, vs => ∃ v r, vs = (k, v) :: r ∧ RP K Z m H p v ∧ RPd K Z m H xs r
def RPs (K : PySem.W.Frag) (Z : Addr → Prop) (m : Mu) (H : Hp) : List PyData → List V → Prop
  | [], vs => vs = []
  | x :: xs, vs => ∃ v r, vs = v :: r ∧ RP K Z m H x v ∧ RPs K Z m H xs r
end
def RD (K : PySem.W.Frag) (Z : Addr → Prop) (m : Mu) (H : Hp) : D → V → Prop
  | .dat p, v => RP K Z m H p v
  | .cel a, v => v = .ref a ∧ (m a).isSome = true
def RDs (K : PySem.W.Frag) (Z : Addr → Prop) (m : Mu) (H : Hp) : List D → List V → Prop
  | [], vs => vs = []
  | x :: xs, vs => ∃ v r, vs = v :: r ∧ RD K Z m H x v ∧ RDs K Z m H xs r
def RKV {κ : Type} (K : PySem.W.Frag) (Z : Addr → Prop) (m : Mu) (H : Hp) : List (κ × PyData) → List (κ × V) → Prop
  | [], vs => vs = []
  | (k, p) :: xs, vs => ∃ v r, vs = (k, v) :: r ∧ RP K Z m H p v ∧ RKV K Z m H xs r
def RW (K : PySem.W.Frag) (Z : Addr → Prop) (m : Mu) (H : Hp) : D → V → Prop
  | .dat p, v => RP K Z m H p v
  | .cel a, v => v = .ref a
def RKW {κ : Type} (K : PySem.W.Frag) (Z : Addr → Prop) (m : Mu) (H : Hp) : List (κ × D) → List (κ × V) → Prop
  | [], vs => vs = []
  | (k, p) :: xs, vs => ∃ v r, vs = (k, v) :: r ∧ RW K Z m H p v ∧ RKW K Z m H xs r
def RC (K : PySem.W.Frag) (Z : Addr → Prop) (m : Mu) (H : Hp) : Cel → HO → Prop
  | .l xs, .lst vs => RPs K Z m H xs vs
  | .d kvs, .dK vs => RKV K Z m H kvs vs
  | .t kvs, .dT vs => RKV K Z m H kvs vs
  | .dl kas, .dK vs => vs = kas.map fun x => (x.1, V.ref x.2)
  | .fd kvs, .frz _ (.dK vs) => RKV K Z m H kvs vs
  | .ft kvs, .frz _ (.dT vs) => RKV K Z m H kvs vs
  | .n kvs, .dN K' vs => K' = K ∧ RKW K Z m H kvs vs
  | .g kvs, .dK vs => RKW K Z m H kvs vs
  | .tc xs, .tup vs => RKW K Z m H (xs.map fun x => ((), x)) (vs.map fun v => ((), v))
  | .o N fs, .ins C _ vs => PySem.W.nsIn K mainGlobals N = some (some (.ref C)) ∧ RKW K Z m H fs vs
  | _, _ => False
structure Ok (K : PySem.W.Frag) (Z : Addr → Prop) (m : Mu) (H : Hp) : Prop where
  g : ∀ a c, m a = some c → ∃ o, H a = some o ∧ RC K Z m H c o
  z : ∀ a, Z a → m a = none ∧ H a ≠ none
structure Ext (K : PySem.W.Frag) (Z : Addr → Prop) (m : Mu) (H : Hp) (m' : Mu) (H' : Hp) : Prop where
  t : ∀ a vs, SqT K H a vs → SqT K H' a vs
  l : ∀ a vs, (m a = none ∧ ¬ Z a) → SqL K H a vs → m' a = none ∧ SqL K H' a vs
  z : ∀ a, Z a → H' a = H a
  c : ∀ a, (m a).isSome = true → (m' a).isSome = true
  fz : ∀ a o u, H a = some (.frz o u) → H' a = some (.frz o u)
  fm : ∀ a, isF (m a) = true → m' a = m a
  ll : ∀ a vs, (m a = none ∧ ¬ Z a) → H a = some (.lst vs) → H' a = some (.lst vs)
section
variable {K : PySem.W.Frag} {Z : Addr → Prop} {m m' m2 : Mu} {H H' H2 : Hp}
theorem Ext.refl : Ext K Z m H m H := ⟨fun _ _ h => h, fun _ _ h1 h2 => ⟨h1.1, h2⟩, fun _ _ => rfl, fun _ h => h, fun _ _ _ h => h, fun _ _ => rfl, fun _ _ _ h => h⟩
theorem Ext.trans (a : Ext K Z m H m' H') (b : Ext K Z m' H' m2 H2) : Ext K Z m H m2 H2 :=
  ⟨fun x vs h => b.t x vs (a.t x vs h), fun x vs h1 h2 => let ⟨q1, q2⟩ := a.l x vs h1 h2; b.l x vs ⟨q1, h1.2⟩ q2, fun x h => (b.z x h).trans (a.z x h), fun x h => b.c x (a.c x h), fun x o u h => b.fz x o u (a.fz x o u h), fun x h => by
    have q := a.fm x h
    rw [b.fm x (by rw [q]; exact h), q], fun x vs h1 h2 => b.ll x vs ⟨(a.l x vs h1 (.inl (.inl h2))).1, h1.2⟩ (a.ll x vs h1 h2)⟩
theorem EntX.mk {o : Obj} {u : HO} {r : List (PyData × V)} (h : Ents K u r) : EntX K H o u ((mkU, .non) :: r) := .inl ⟨r, rfl, h⟩
theorem EntX.hd {o : Obj} {u : HO} {vs : List (PyData × V)} (h : EntX K H o u vs) : ∃ v r, vs = (mkU, v) :: r := by
  rcases h with ⟨r, h, _⟩ | ⟨_, _, _, _, _, _, _, _, _, h, _⟩ <;> exact ⟨_, _, h⟩
theorem EntX.tr {o : Obj} {u : HO} {vs : List (PyData × V)} (hf : ∀ a o u, H a = some (.frz o u) → H' a = some (.frz o u)) (h : EntX K H o u vs) : EntX K H' o u vs := by
  rcases h with h | ⟨C, N, fs, dx, ws, sl, h1, h2, h3, h4, h5⟩
  · exact .inl h
  · exact .inr ⟨C, N, fs, dx, ws, sl, h1, h2, h3, h4, h5.imp id fun ⟨d, od, a, b⟩ => ⟨d, od, a, hf _ _ _ b⟩⟩
mutual
theorem RP.ext (e : Ext K Z m H m' H') : ∀ (p : PyData) (v : V), RP K Z m H p v → RP K Z m' H' p v
  | .none, v, h => by simpa only [RP] using h
  | .bool _, v, h => by simpa only [RP] using h
  | .int _, v, h => by simpa only [RP] using h
  | .str _, v, h => by simpa only [RP] using h
  | .tuple xs, v, h => by
    simp only [RP] at h ⊢
    obtain ⟨a, vs, h1, h2, h3⟩ := h
    exact ⟨a, vs, h1, e.t a vs h2, RPs.ext e xs vs h3⟩
  | .list xs, v, h => by
    simp only [RP] at h ⊢
    obtain ⟨a, vs, h1, h2, h3, h4⟩ := h
    obtain ⟨q1, q2⟩ := e.l a vs h2 h3
    exact ⟨a, vs, h1, ⟨q1, h2.2⟩, q2, RPs.ext e xs vs h4⟩
  | .dict kvs, v, h => by
    simp only [RP] at h ⊢
    obtain ⟨a, o, u, vs, h1, h2, h3, h4⟩ := h
    exact ⟨a, o, u, vs, h1, e.fz a o u h2, h3.tr e.fz, RPd.ext e kvs _ h4⟩
theorem RPd.ext (e : Ext K Z m H m' H') : ∀ (xs : List (PyData × PyData)) (vs : List (PyData × V)), RPd K Z m H xs vs → RPd K Z m' H' xs vs
  | [], vs, h => by simpa only [RPd] using h
  | (k, p) :: xs, vs, h => by
    simp only [RPd] at h ⊢
    obtain ⟨v, r, h1, h2, h3⟩ := h
    exact ⟨v, r, h1, RP.ext e p v h2, RPd.ext e xs r h3⟩
theorem RPs.ext (e : Ext K Z m H m' H') : ∀ (xs : List PyData) (vs : List V), RPs K Z m H xs vs → RPs K Z m' H' xs vs
  | [], vs, h => by simpa only [RPs] using h
  | x :: xs, vs, h => by
    simp only [RPs] at h ⊢
    obtain ⟨v, r, h1, h2, h3⟩ := h
    exact ⟨v, r, h1, RP.ext e x v h2, RPs.ext e xs r h3⟩
end
theorem RD.ext (e : Ext K Z m H m' H') {d : D} {v : V} (h : RD K Z m H d v) : RD K Z m' H' d v := by
  cases d with
  | dat p => exact RP.ext e p v h
  | cel a => exact ⟨h.1, e.c a h.2⟩
theorem RDs.ext (e : Ext K Z m H m' H') : ∀ {xs : List D} {vs : List V}, RDs K Z m H xs vs → RDs K Z m' H' xs vs
  | [], _, h => h
  | _ :: _, _, ⟨v, r, h1, h2, h3⟩ => ⟨v, r, h1, h2.ext e, RDs.ext e h3⟩
theorem RKV.lift {κ : Type} {Z' : Addr → Prop} (tr : ∀ p v, RP K Z m H p v → RP K Z' m' H' p v) : ∀ {xs : List (κ × PyData)} {vs : List (κ × V)}, RKV K Z m H xs vs → RKV K Z' m' H' xs vs
  | [], _, h => h
  | _ :: _, _, ⟨v, r, h1, h2, h3⟩ => ⟨v, r, h1, tr _ _ h2, RKV.lift tr h3⟩
theorem RKW.lift {κ : Type} {Z' : Addr → Prop} (tr : ∀ p v, RP K Z m H p v → RP K Z' m' H' p v) : ∀ {xs : List (κ × D)} {vs : List (κ × V)}, RKW K Z m H xs vs → RKW K Z' m' H' xs vs
  | [], _, h => h
  | (_, .dat _) :: _, _, ⟨v, r, h1, h2, h3⟩ => ⟨v, r, h1, tr _ _ h2, RKW.lift tr h3⟩
  | (_, .cel _) :: _, _, ⟨v, r, h1, h2, h3⟩ => ⟨v, r, h1, h2, RKW.lift tr h3⟩
theorem RPs.lift {Z' : Addr → Prop} (tr : ∀ p v, RP K Z m H p v → RP K Z' m' H' p v) : ∀ {ps : List PyData} {vs : List V}, RPs K Z m H ps vs → RPs K Z' m' H' ps vs
  | [], _, h => by simpa only [RPs] using h
  | _ :: _, _, h => by
    simp only [RPs] at h ⊢
    obtain ⟨v, r, h1, h2, h3⟩ := h
    exact ⟨v, r, h1, tr _ _ h2, RPs.lift tr h3⟩
theorem RC.lift {Z' : Addr → Prop} {c : Cel} {o : HO} (tr : ∀ p v, RP K Z m H p v → RP K Z' m' H' p v) (h : RC K Z m H c o) : RC K Z' m' H' c o := by
  cases c <;> cases o <;> first | exact RPs.lift tr h | exact RKV.lift tr h | exact RKW.lift tr h | exact ⟨h.1, RKW.lift tr h.2⟩ | exact h | (rename_i ob u; cases u <;> first | exact RKV.lift tr h | exact h)
theorem RC.ext {c : Cel} {o : HO} (e : Ext K Z m H m' H') (h : RC K Z m H c o) : RC K Z m' H' c o := h.lift fun p v q => RP.ext e p v q
theorem RC.mut {c : Cel} {o : HO} (h : RC K Z m H c o) (nf : isF (some c) = false) : (∀ xs, o ≠ .tup xs) ∧ (∀ a b, o ≠ .frz a b) := by
  cases c with
  | fd _ => cases nf
  | ft _ => cases nf
  | tc _ => cases nf
  | dl _ => cases o <;> first | exact h.elim | exact ⟨fun _ e => (nomatch e), fun _ _ e => (nomatch e)⟩
  | l _ => cases o <;> first | exact h.elim | exact ⟨fun _ e => (nomatch e), fun _ _ e => (nomatch e)⟩
  | d _ => cases o <;> first | exact h.elim | exact ⟨fun _ e => (nomatch e), fun _ _ e => (nomatch e)⟩
  | n _ => cases o <;> first | exact h.elim | exact ⟨fun _ e => (nomatch e), fun _ _ e => (nomatch e)⟩
  | g _ => cases o <;> first | exact h.elim | exact ⟨fun _ e => (nomatch e), fun _ _ e => (nomatch e)⟩
  | o _ _ => cases o <;> first | exact h.elim | exact ⟨fun _ e => (nomatch e), fun _ _ e => (nomatch e)⟩
  | t _ => cases o <;> first | exact h.elim | exact ⟨fun _ e => (nomatch e), fun _ _ e => (nomatch e)⟩
theorem Ok.l {a : Addr} {xs : List PyData} (ok : Ok K Z m H) (h : m a = some (.l xs)) : ∃ vs, H a = some (.lst vs) ∧ RPs K Z m H xs vs := by
  obtain ⟨o, h1, h2⟩ := ok.g a _ h
  cases o <;> first | exact ⟨_, h1, h2⟩ | exact h2.elim
theorem Ok.d {a : Addr} {xs : List (Key × PyData)} (ok : Ok K Z m H) (h : m a = some (.d xs)) : ∃ vs, H a = some (.dK vs) ∧ RKV K Z m H xs vs := by
  obtain ⟨o, h1, h2⟩ := ok.g a _ h
  cases o <;> first | exact ⟨_, h1, h2⟩ | exact h2.elim
theorem Ok.t {a : Addr} {xs : List (List Key × PyData)} (ok : Ok K Z m H) (h : m a = some (.t xs)) : ∃ vs, H a = some (.dT vs) ∧ RKV K Z m H xs vs := by
  obtain ⟨o, h1, h2⟩ := ok.g a _ h
  cases o <;> first | exact ⟨_, h1, h2⟩ | exact h2.elim
theorem RPs.length : ∀ {xs : List PyData} {vs : List V}, RPs K Z m H xs vs → vs.length = xs.length
  | [], _, h => by simp only [RPs] at h; subst h; rfl
  | _ :: xs, _, h => by
    simp only [RPs] at h
    obtain ⟨v, r, h1, _, h3⟩ := h
    subst h1
    rw [List.length_cons, List.length_cons, RPs.length h3]
theorem RDs.length : ∀ {xs : List D} {vs : List V}, RDs K Z m H xs vs → vs.length = xs.length
  | [], _, h => by cases (show _ = [] from h); rfl
  | _ :: xs, _, ⟨v, r, h1, _, h3⟩ => by
    subst h1
    rw [List.length_cons, List.length_cons, RDs.length h3]
theorem RPs.get : ∀ {xs : List PyData} {vs : List V} {i : Nat} {p : PyData}, RPs K Z m H xs vs → xs[i]? = some p → ∃ v, vs[i]? = some v ∧ RP K Z m H p v
  | [], _, _, _, _, e => by simp at e
  | x :: xs, _, 0, p, h, e => by
    simp only [RPs] at h
    obtain ⟨v, r, h1, h2, _⟩ := h
    simp at e
    subst h1 e
    exact ⟨v, rfl, h2⟩
  | x :: xs, _, i + 1, p, h, e => by
    simp only [RPs] at h
    obtain ⟨v, r, h1, _, h3⟩ := h
    obtain ⟨u, q1, q2⟩ := RPs.get (i := i) (p := p) h3 (by simpa using e)
    subst h1
    exact ⟨u, by simpa using q1, q2⟩
theorem RPs.set : ∀ {xs : List PyData} {vs : List V} {i : Nat} {p : PyData} {v : V}, RPs K Z m H xs vs → RP K Z m H p v → RPs K Z m H (xs.set i p) (vs.set i v)
  | [], _, _, _, _, h, _ => by simp only [RPs] at h; subst h; simp [RPs]
  | x :: xs, _, 0, p, v, h, q => by
    simp only [RPs] at h
    obtain ⟨w, r, h1, _, h3⟩ := h
    subst h1
    simp only [List.set_cons_zero, RPs]
    exact ⟨v, r, rfl, q, h3⟩
  | x :: xs, _, i + 1, p, v, h, q => by
    simp only [RPs] at h
    obtain ⟨w, r, h1, h2, h3⟩ := h
    subst h1
    simp only [List.set_cons_succ, RPs]
    exact ⟨w, _, rfl, h2, RPs.set h3 q⟩
theorem RPs.append : ∀ {xs ys : List PyData} {vs ws : List V}, RPs K Z m H xs vs → RPs K Z m H ys ws → RPs K Z m H (xs ++ ys) (vs ++ ws)
  | [], _, _, _, h, q => by simp only [RPs] at h; subst h; simpa using q
  | x :: xs, _, _, _, h, q => by
    simp only [RPs] at h
    obtain ⟨w, r, h1, h2, h3⟩ := h
    subst h1
    simp only [List.cons_append, RPs]
    exact ⟨w, _, rfl, h2, RPs.append h3 q⟩
theorem RPs.drop : ∀ {xs : List PyData} {vs : List V} (n : Nat), RPs K Z m H xs vs → RPs K Z m H (xs.drop n) (vs.drop n)
  | _, _, 0, h => by simpa using h
  | [], _, n + 1, h => by simp only [RPs] at h; subst h; simp [RPs]
  | x :: xs, _, n + 1, h => by
    simp only [RPs] at h
    obtain ⟨w, r, h1, h2, h3⟩ := h
    subst h1
    simpa using RPs.drop n h3
theorem RPs.take : ∀ {xs : List PyData} {vs : List V} (n : Nat), RPs K Z m H xs vs → RPs K Z m H (xs.take n) (vs.take n)
  | _, _, 0, h => by simp [RPs]
  | [], _, n + 1, h => by simp only [RPs] at h; subst h; simp [RPs]
  | x :: xs, _, n + 1, h => by
    simp only [RPs] at h
    obtain ⟨w, r, h1, h2, h3⟩ := h
    subst h1
    simp only [List.take_succ_cons, RPs]
    exact ⟨w, _, rfl, h2, RPs.take n h3⟩
@[simp] def pds : List D → Option (List PyData)
  | [] => some []
  | .dat p :: r => (pds r).map (p :: ·)
  | .cel _ :: _ => none
theorem RDs.pds : ∀ {xs : List D} {vs : List V} {ps : List PyData}, RDs K Z m H xs vs → DL.pds xs = some ps → RPs K Z m H ps vs
  | [], vs, ps, h, e => by
    cases (show vs = [] from h)
    cases (show some [] = some ps from e)
    simp [RPs]
  | .dat p :: r, vs, ps, ⟨v, w, h1, h2, h3⟩, e => by
    simp only [DL.pds] at e
    cases q : DL.pds r with
    | none => rw [q] at e; cases e
    | some qs =>
      rw [q] at e
      cases e
      simp only [RPs]
      exact ⟨v, w, h1, h2, RDs.pds h3 q⟩
  | .cel a :: r, _, _, _, e => by simp only [DL.pds] at e; cases e
theorem SqT.same {a : Addr} {xs : List V} (e : Same H H') (h : SqT K H a xs) : SqT K H' a xs := by
  rcases h with (h | ⟨o, h⟩) | h
  · exact .inl (.inl (e _ _ h))
  · exact .inl (.inr ⟨o, e _ _ h⟩)
  · exact .inr h
theorem Ext.grow (s : Same H H') (hz : ∀ a, Z a → H a ≠ none) : Ext K Z m H m H' := ⟨fun _ _ h => SqT.same s h, fun _ _ h1 h2 => ⟨h1.1, s.seq h2⟩, fun a h => by
  cases q : H a with
  | none => exact absurd q (hz a h)
  | some o => exact s a o q, fun _ h => h, fun a o u h => s _ _ h, fun _ _ => rfl, fun _ _ _ h => s _ _ h⟩
theorem Ok.grow (s : Same H H') (ok : Ok K Z m H) : Ok K Z m H' := by
  have e : Ext K Z m H m H' := Ext.grow s fun a h => (ok.z a h).2
  refine ⟨fun a c h => ?_, fun a h => ⟨(ok.z a h).1, by rw [e.z a h]; exact (ok.z a h).2⟩⟩
  obtain ⟨o, h1, h2⟩ := ok.g a c h
  exact ⟨o, s _ _ h1, h2.ext e⟩
theorem Ok.ext (s : Same H H') (ok : Ok K Z m H) : Ext K Z m H m H' := Ext.grow s fun a h => (ok.z a h).2
theorem same_new {p : Addr} {o : HO} (h : H p = none) : Same H (upd H p o) := fun b u q => by rw [upd_ne (ne_of_none q h)]; exact q
def updM (m : Mu) (a : Addr) (c : Cel) : Mu := fun b => if b = a then some c else m b
theorem updM_same {a : Addr} {c : Cel} : updM m a c a = some c := by unfold updM; rw [if_pos rfl]
theorem updM_ne {a b : Addr} {c : Cel} (h : b ≠ a) : updM m a c b = m b := by unfold updM; rw [if_neg h]
theorem SqL.ne {p a : Addr} {xs : List V} (hp : H p = none) (hk : K.lookup p = none) (h : SqL K H a xs) : a ≠ p := by
  rintro rfl
  rcases h with (h | ⟨o, h⟩) | ⟨o, _, _, h, _⟩
  · rw [hp] at h; cases h
  · rw [hp] at h; cases h
  · rw [hk] at h; cases h
theorem Ext.cell {p : Addr} {o : HO} {c : Cel} (ok : Ok K Z m H) (hp : H p = none) (hk : K.lookup p = none) : Ext K Z m H (updM m p c) (upd H p o) := by
  refine ⟨fun _ _ h => SqT.same (same_new hp) h, fun a xs h1 h2 => ?_, fun a h => ?_, fun a h => ?_, fun a o u h => same_new hp _ _ h, fun a h => ?_, fun _ _ _ h => same_new hp _ _ h⟩
  · have ne := SqL.ne hp hk h2
    exact ⟨by rw [updM_ne ne]; exact h1.1, (same_new hp).seq h2⟩
  · have ne : a ≠ p := fun e => (ok.z a h).2 (by rw [e]; exact hp)
    exact upd_ne ne
  · by_cases e : a = p
    · subst e; rw [updM_same]; rfl
    · rw [updM_ne e]; exact h
  · have ne : a ≠ p := by
      rintro rfl
      cases q : m a with
      | none => rw [q] at h; cases h
      | some x =>
        obtain ⟨w, h1, _⟩ := ok.g a x q
        rw [hp] at h1
        cases h1
    exact updM_ne ne
theorem Ok.updC {p : Addr} {o : HO} {c : Cel} (ok : Ok K Z m H) (hz : ¬ Z p) (e : Ext K Z m H (updM m p c) (upd H p o)) (r : RC K Z m H c o) : Ok K Z (updM m p c) (upd H p o) := by
  refine ⟨fun a x h => ?_, fun a h => ?_⟩
  · by_cases q : a = p
    · subst q
      rw [updM_same] at h
      cases h
      exact ⟨o, upd_same, r.ext e⟩
    · rw [updM_ne q] at h
      obtain ⟨w, h1, h2⟩ := ok.g a x h
      exact ⟨w, by rw [upd_ne q]; exact h1, h2.ext e⟩
  · have ne : a ≠ p := fun e => hz (e ▸ h)
    exact ⟨by rw [updM_ne ne]; exact (ok.z a h).1, by rw [upd_ne ne]; exact (ok.z a h).2⟩
theorem Ok.cell {p : Addr} {o : HO} {c : Cel} (ok : Ok K Z m H) (hp : H p = none) (hk : K.lookup p = none) (r : RC K Z m H c o) : Ok K Z (updM m p c) (upd H p o) :=
  ok.updC (fun h => (ok.z p h).2 hp) (Ext.cell ok hp hk) r
theorem Ext.put {a : Addr} {o o0 : HO} {c c0 : Cel} (ok : Ok K Z m H) (hm : m a = some c0) (hH : H a = some o0) (nf : isF (some c0) = false := by rfl) : Ext K Z m H (updM m a c) (upd H a o) := by
  have mu : (∀ xs, o0 ≠ .tup xs) ∧ (∀ a b, o0 ≠ .frz a b) := by
    obtain ⟨w, h1, h2⟩ := ok.g a c0 hm
    rw [hH] at h1
    cases h1
    exact h2.mut nf
  refine ⟨fun b xs h => ?_, fun b xs h1 h2 => ?_, fun b h => ?_, fun b h => ?_, fun b w u h => ?_, fun b h => ?_, fun b vs h1 h2 => by rw [upd_ne (by rintro rfl; rw [hm] at h1; cases h1.1)]; exact h2⟩
  · rcases h with (h | ⟨w, h⟩) | h
    · have ne : b ≠ a := by rintro rfl; rw [hH] at h; cases h; exact absurd rfl (mu.1 _)
      exact .inl (.inl (by rw [upd_ne ne]; exact h))
    · have ne : b ≠ a := by rintro rfl; rw [hH] at h; cases h; exact absurd rfl (mu.2 _ _)
      exact .inl (.inr ⟨w, by rw [upd_ne ne]; exact h⟩)
    · exact .inr h
  · have ne : b ≠ a := by rintro rfl; rw [hm] at h1; cases h1.1
    refine ⟨by rw [updM_ne ne]; exact h1.1, ?_⟩
    rcases h2 with (h | ⟨w, h⟩) | h
    · exact .inl (.inl (by rw [upd_ne ne]; exact h))
    · exact .inl (.inr ⟨w, by rw [upd_ne ne]; exact h⟩)
    · exact .inr h
  · have ne : b ≠ a := by rintro rfl; have := (ok.z b h).1; rw [hm] at this; cases this
    exact upd_ne ne
  · by_cases e : b = a
    · subst e; rw [updM_same]; rfl
    · rw [updM_ne e]; exact h
  · have ne : b ≠ a := by rintro rfl; rw [hH] at h; cases h; exact absurd rfl (mu.2 _ _)
    rw [upd_ne ne]
    exact h
  · have ne : b ≠ a := by rintro rfl; rw [hm, nf] at h; cases h
    exact updM_ne ne
theorem Ok.put {a : Addr} {o o0 : HO} {c c0 : Cel} (ok : Ok K Z m H) (hm : m a = some c0) (hH : H a = some o0) (r : RC K Z m H c o) (nf : isF (some c0) = false := by rfl) : Ok K Z (updM m a c) (upd H a o) :=
  ok.updC (fun h => by have := (ok.z a h).1; rw [hm] at this; cases this) (Ext.put ok hm hH nf) r
def RS (K : PySem.W.Frag) (Z : Addr → Prop) (m : Mu) (H : Hp) (d : St2) (s : L2.St) : Prop := d.length = s.length ∧ ∀ (i : Nat) (x : D), d[i]? = some (some x) → ∃ v, s[i]? = some (some v) ∧ RD K Z m H x v
theorem RS.ext {d : St2} {s : L2.St} (r : RS K Z m H d s) (e : Ext K Z m H m' H') : RS K Z m' H' d s := ⟨r.1, fun i x h => let ⟨v, h1, h2⟩ := r.2 i x h; ⟨v, h1, h2.ext e⟩⟩
theorem RS.set {d : St2} {s : L2.St} {i : Nat} {x : D} {v : V} (r : RS K Z m H d s) (h : RD K Z m H x v) : RS K Z m H (d.set i (some x)) (s.set i (some v)) := by
  refine ⟨by rw [List.length_set, List.length_set]; exact r.1, fun j y q => ?_⟩
  by_cases e : j = i
  · subst e
    rw [List.getElem?_set] at q
    simp only [if_true] at q
    split at q
    · rename_i hl
      cases q
      refine ⟨v, ?_, h⟩
      rw [List.getElem?_set]
      simp only [if_true]
      rw [if_pos (by rw [← r.1]; exact hl)]
    · cases q
  · rw [List.getElem?_set_ne (Ne.symm e)] at q
    obtain ⟨w, h1, h2⟩ := r.2 j y q
    exact ⟨w, by rw [List.getElem?_set_ne (Ne.symm e)]; exact h1, h2⟩
end
abbrev DK := D → Mu → Prop
abbrev DE := St2 → Mu → DK → Prop
abbrev DT := St2 → Mu → (Bool → Mu → Prop) → Prop
abbrev DA := St2 → Mu → (List D → Mu → Prop) → Prop
structure Ends2 where
  nx : St2 → Mu → Prop
  rt : DK
  bk : St2 → Mu → Prop := fun _ _ => False
  ct : St2 → Mu → Prop := fun _ _ => False
  /-- an exception of a class goes up, with fields -/
  xc : St2 → Str → List (Str × PyData) → Mu → Prop := fun _ _ _ _ => False
abbrev DS := Ends2 → St2 → Mu → Prop
def LE (K : PySem.W.Frag) (f : DE) : TE := fun s H Q => ∃ (Z : Addr → Prop) (d : St2) (m : Mu) (R : DK), Ok K Z m H ∧ RS K Z m H d s ∧ f d m R ∧
  ∀ x m' v H', R x m' → Ext K Z m H m' H' → Ok K Z m' H' → RD K Z m' H' x v → Q v H'
def LT (K : PySem.W.Frag) (f : DT) : TT := fun s H Q => ∃ (Z : Addr → Prop) (d : St2) (m : Mu) (R : Bool → Mu → Prop), Ok K Z m H ∧ RS K Z m H d s ∧ f d m R ∧
  ∀ b m' H', R b m' → Ext K Z m H m' H' → Ok K Z m' H' → Q b H'
def LA (K : PySem.W.Frag) (f : DA) : TA := fun s H Q => ∃ (Z : Addr → Prop) (d : St2) (m : Mu) (R : List D → Mu → Prop), Ok K Z m H ∧ RS K Z m H d s ∧ f d m R ∧
  ∀ xs m' vs H', R xs m' → Ext K Z m H m' H' → Ok K Z m' H' → RDs K Z m' H' xs vs → Q vs H'
def LS (K : PySem.W.Frag) (f : DS) : TS := fun E s H => ∃ (Z : Addr → Prop) (d : St2) (m : Mu) (R : Ends2), Ok K Z m H ∧ RS K Z m H d s ∧ f R d m ∧
  (∀ d' m' s' H', R.nx d' m' → Ext K Z m H m' H' → Ok K Z m' H' → RS K Z m' H' d' s' → E.nx s' H') ∧
  (∀ x m' v H', R.rt x m' → Ext K Z m H m' H' → Ok K Z m' H' → RD K Z m' H' x v → E.rt v H') ∧
  (∀ d' m' s' H', R.bk d' m' → Ext K Z m H m' H' → Ok K Z m' H' → RS K Z m' H' d' s' → E.bk s' H') ∧
  (∀ d' m' s' H', R.ct d' m' → Ext K Z m H m' H' → Ok K Z m' H' → RS K Z m' H' d' s' → E.ct s' H')
theorem PE.imp {X : Cx} {e : Expr} {t t' : TE} (h : PE X e t) (q : ∀ s H Q, t' s H Q → t s H Q) : PE X e t' := fun pins s d H Q I w => h pins s d H Q I (q _ _ _ w)
theorem PT.imp {X : Cx} {e : Expr} {t t' : TT} (h : PT X e t) (q : ∀ s H Q, t' s H Q → t s H Q) : PT X e t' := fun pins s d H Q I w => h pins s d H Q I (q _ _ _ w)
theorem PA.imp {X : Cx} {e : List Expr} {t t' : TA} (h : PA X e t) (q : ∀ s H Q, t' s H Q → t s H Q) : PA X e t' := fun pos pins s d H Q I w => h pos pins s d H Q I (q _ _ _ w)
theorem PS.imp {X : Cx} {e : Stmt} {t t' : TS} (h : PS X e t) (q : ∀ E s H, t' E s H → t E s H) : PS X e t' := fun pins s d H E I w => h pins s d H E I (q _ _ _ w)
theorem PSs.imp {X : Cx} {e : List Stmt} {t t' : TS} (h : PSs X e t) (q : ∀ E s H, t' E s H → t E s H) : PSs X e t' := fun pins s d H E I w => h pins s d H E I (q _ _ _ w)
section
variable {X : Cx} {pos : Pos}
@[simp] def dVar (i : Nat) : DE := fun d m Q => ∃ x, d[i]? = some (some x) ∧ Q x m
theorem le_var (i : Nat) {x : Str} (hN : X.N[i]? = some x := by rfl) (hv : Vis X.env.scope x := by first | exact Or.inl rfl | exact Or.inr (Or.inl rfl) | exact Or.inr (Or.inr rfl)) (hd : (x == ("__debug__" : Str)) = false := by decide)
    (hcd : (x == ("__classdict__" : Str)) = false := by decide) : PE X (.Name x pos) (LE X.K (dVar i)) :=
  PE.imp (pe_var hN hv hd hcd) fun s H Q h => by
    obtain ⟨Z, d, m, R, ok, rs, ⟨x, h1, h2⟩, k⟩ := h
    obtain ⟨v, q1, q2⟩ := rs.2 i x h1
    exact ⟨v, q1, k x m v H h2 Ext.refl ok q2⟩
@[simp] def dCon (p : PyData) : DE := fun _ m Q => Q (.dat p) m
theorem le_con {e : Expr} {p : PyData} {v : V} (h : PE X e (tC v)) (r : ∀ Z m H, RP X.K Z m H p v) : PE X e (LE X.K (dCon p)) :=
  PE.imp h fun s H Q ⟨Z, d, m, R, ok, rs, h2, k⟩ => k _ m v H h2 Ext.refl ok (r Z m H)
theorem le_int {i : Int} {j : Nat} : PE X (.Constant (.int i) j pos) (LE X.K (dCon (.int i))) := le_con pe_int fun Z m H => by simp only [RP]
theorem le_bl {b : Bool} {j : Nat} : PE X (.Constant (.bool b) j pos) (LE X.K (dCon (.bool b))) := le_con pe_bl fun Z m H => by simp only [RP]
theorem le_non {j : Nat} : PE X (.Constant .none j pos) (LE X.K (dCon .none)) := le_con pe_non fun Z m H => by simp only [RP]
theorem le_str {x : Str} {j : Nat} : PE X (.Constant (.str x) j pos) (LE X.K (dCon (.str x))) := le_con pe_str fun Z m H => by simp only [RP]
end
end DL
set_option Elab.async false
set_option linter.all false
set_option maxRecDepth 100000
set_option maxHeartbeats 4000000
namespace DL
open PySem PySem.Spec PyProof.Rows L2
section
variable {X : Cx} {pins : List (Addr × Obj)} {σ : L2.St} {H : Hp} {s : Shared} {Z : Addr → Prop} {m : Mu}
mutual
theorem RP.reads0 (I : Inv X pins σ H s) : ∀ (p : PyData) (v : V) (u : Value), RP X.K Z m H p v → RelV v u → p.hasDict = false → ∃ as, Reads s.heap u p as
  | .none, v, u, h, r, _ => by simp only [RP] at h; subst h; cases r; exact ⟨_, .none⟩
  | .bool b, v, u, h, r, _ => by simp only [RP] at h; subst h; cases r; exact ⟨_, .bool b⟩
  | .int i, v, u, h, r, _ => by simp only [RP] at h; subst h; obtain ⟨t, rfl⟩ := r; exact ⟨_, .int i t⟩
  | .str x, v, u, h, r, _ => by simp only [RP] at h; subst h; obtain ⟨t, rfl⟩ := r; exact ⟨_, .str x t⟩
  | .tuple xs, v, u, h, r, nd => by
    simp only [RP] at h
    obtain ⟨a, vs, rfl, h2, h3⟩ := h
    cases r
    obtain ⟨its, rv, ⟨o, e, c, n, d⟩, _⟩ := I.tuple h2
    obtain ⟨as, q⟩ := RPs.reads0 I xs vs its h3 rv nd
    exact ⟨_, .tuple e c d (by simpa using q)⟩
  | .list xs, v, u, h, r, nd => by
    simp only [RP] at h
    obtain ⟨a, vs, rfl, _, h2, h3⟩ := h
    cases r
    obtain ⟨its, rv, ⟨o, n, e, c, _, d⟩, _⟩ := I.list h2
    obtain ⟨as, q⟩ := RPs.reads0 I xs vs its h3 rv nd
    exact ⟨_, .list e c d (by simpa using q)⟩
  | .dict _, v, u, h, r, nd => nomatch nd
theorem RPs.reads0 (I : Inv X pins σ H s) : ∀ (xs : List PyData) (vs : List V) (us : List Value), RPs X.K Z m H xs vs → Vals vs us → PyData.hasDictAll xs = false → ∃ as, ReadsAll s.heap us xs as
  | [], vs, us, h, r, _ => by simp only [RPs] at h; subst h; cases r; exact ⟨_, .nil⟩
  | x :: xs, vs, us, h, r, nd => by
    simp only [PyData.hasDictAll, Bool.or_eq_false_iff] at nd
    simp only [RPs] at h
    obtain ⟨v, w, rfl, h1, h2⟩ := h
    cases r with
    | cons r1 r2 =>
      obtain ⟨as, q1⟩ := RP.reads0 I x v _ h1 r1 nd.1
      obtain ⟨bs, q2⟩ := RPs.reads0 I xs w _ h2 r2 nd.2
      exact ⟨_, .cons q1 q2⟩
end
theorem RP.reads (I : Inv X pins σ H s) (p : PyData) (v : V) (u : Value) (h : RP X.K Z m H p v) (r : RelV v u) (nd : p.hasDict = false := by first | assumption | (refine PyData.hasDict_of_canLay _ ?_; assumption)) : ∃ as, Reads s.heap u p as := RP.reads0 I p v u h r nd
mutual
theorem RP.noDict (K : PySem.W.Frag) : ∀ (p : PyData) (v : V), RP K Z m H p v → p.showable = true → p.hasDict = false
  | .none, _, _, _ => rfl
  | .bool _, _, _, _ => rfl
  | .int _, _, _, _ => rfl
  | .str _, _, _, _ => rfl
  | .tuple xs, v, h, sh => by
    simp only [RP] at h
    obtain ⟨_, vs, _, _, h⟩ := h
    simp only [PyData.hasDict]
    exact RPs.noDict K xs vs h sh
  | .list xs, v, h, sh => by
    simp only [RP] at h
    obtain ⟨_, vs, _, _, _, h⟩ := h
    simp only [PyData.hasDict]
    exact RPs.noDict K xs vs h sh
  | .dict kvs, v, h, sh => by
    simp only [RP] at h
    obtain ⟨a, o, u, vs, _, _, hx, h⟩ := h
    obtain ⟨v0, r0, rfl⟩ := hx.hd
    cases kvs with
    | nil => simp [RPd] at h
    | cons x r =>
      obtain ⟨k, p⟩ := x
      simp only [RPd] at h
      obtain ⟨v, r', h1, _⟩ := h
      cases h1
      simp only [PyData.showable, PyData.showableKv, mkU_show, Bool.false_and] at sh
      cases sh
theorem RPs.noDict (K : PySem.W.Frag) : ∀ (xs : List PyData) (vs : List V), RPs K Z m H xs vs → PyData.showableAll xs = true → PyData.hasDictAll xs = false
  | [], _, _, _ => rfl
  | x :: xs, vs, h, sh => by
    simp only [PyData.showableAll, Bool.and_eq_true] at sh
    simp only [RPs] at h
    obtain ⟨v, w, rfl, h1, h2⟩ := h
    simp only [PyData.hasDictAll, RP.noDict K x v h1 sh.1, RPs.noDict K xs w h2 sh.2, Bool.or_self]
end
end
abbrev D2 := D → D → Mu → DK → Prop
def OpD (X : Cx) (op : Value → Value → Sem Value) (r : D2) : Prop :=
  ∀ (pins : List (Addr × Obj)) (s : Shared) (σ : L2.St) (H : Hp) (Z : Addr → Prop) (m : Mu) (x y : V) (dx dy : D) (v u : Value) (R : DK) (Q : VK), Inv X pins σ H s → Ok X.K Z m H → RelV x v → RelV y u → RD X.K Z m H dx x → RD X.K Z m H dy y → r dx dy m R →
    (∀ d m' v' H', R d m' → Ext X.K Z m H m' H' → Ok X.K Z m' H' → RD X.K Z m' H' d v' → Q v' H') → wpAny (model X.prog X.w) X.A (op v u) (EP X pins σ Q) X.xe s
@[simp] def dBin (r : D2) (f g : DE) : DE := fun d m Q => f d m fun x m1 => g d m1 fun y m2 => r x y m2 Q
section
variable {X : Cx} {a b c : Expr} {f g : DE} {pos : Pos}
theorem le2 {op : Value → Value → Sem Value} {r : D2} (ho : OpD X op r) (ha : PE X a (LE X.K f)) (hb : PE X b (LE X.K g)) {pins : List (Addr × Obj)} {s : Shared} {σ : L2.St} {H : Hp} {Q : VK} (I : Inv X pins σ H s)
    (h : LE X.K (dBin r f g) σ H Q) :
    wpAny (model X.prog X.w) X.A (eval a X.env) (fun v s₁ => wpAny (model X.prog X.w) X.A (eval b X.env) (fun u s₂ => wpAny (model X.prog X.w) X.A (op v u) (EP X pins σ Q) X.xe s₂) X.xe s₁) X.xe s := by
  obtain ⟨Z, d, m, R, ok, rs, hf, k⟩ := h
  refine binT ha hb I (R := fun x y H2 => ∃ m2 dx dy, Ok X.K Z m2 H2 ∧ Ext X.K Z m H m2 H2 ∧ RD X.K Z m2 H2 dx x ∧ RD X.K Z m2 H2 dy y ∧ r dx dy m2 R) ?_ fun v u s2 x y H2 I2 rx ry ⟨m2, dx, dy, ok2, e2, r1, r2, q⟩ => ?_
  · exact ⟨Z, d, m, _, ok, rs, hf, fun x m1 v H1 q e1 ok1 r1 => ⟨Z, d, m1, _, ok1, rs.ext e1, q, fun y m2 v2 H2 q2 e2 ok2 r2 => ⟨m2, x, y, ok2, e1.trans e2, r1.ext e2, r2, q2⟩⟩⟩
  · exact ho pins s2 σ H2 Z m2 x y dx dy v u R Q I2 ok2 rx ry r1 r2 q fun d' m' v' H' h1 h2 h3 h4 => k d' m' v' H' h1 (e2.trans h2) h3 h4
theorem le_bin {op : Operator} {r : D2} (ho : OpD X (binaryOp op) r) (ha : PE X a (LE X.K f)) (hb : PE X b (LE X.K g)) : PE X (.BinOp a op b pos) (LE X.K (dBin r f g)) :=
  fun _ _ _ _ _ I h => wpAny_BinOp (le2 ho ha hb I h)
theorem le_cmp {op : CmpOp} {r : D2} (ho : OpD X (compareOp op) r) (ha : PE X a (LE X.K f)) (hb : PE X b (LE X.K g)) (hm : behindInMarks op b = false := by exact nomark _) : PE X (.Compare a [op] [b] pos) (LE X.K (dBin r f g)) :=
  fun _ _ _ _ _ I h => wpAny_Compare1 (le2 ho ha hb I h) hm
@[simp] def dTst (f : DE) : DT := fun d m Q => f d m fun x m1 => ∃ b, x = .dat (.bool b) ∧ Q b m1
theorem LT.le {K : PySem.W.Frag} {σ : L2.St} {H : Hp} {Q : Bool → Hp → Prop} (h : LT K (dTst f) σ H Q) : LE K f σ H (fun x H' => ∃ k, x = .bl k ∧ Q k H') := by
  obtain ⟨Z, d, m, R, ok, rs, hf, k⟩ := h
  refine ⟨Z, d, m, _, ok, rs, hf, fun x m' v H' ⟨b, e, q⟩ e1 ok1 rd => ⟨b, ?_, k b m' H' q e1 ok1⟩⟩
  subst e
  simpa only [RD, RP] using rd
theorem lt_cmp {op : CmpOp} {r : D2} (ho : OpD X (compareOp op) r) (ha : PE X a (LE X.K f)) (hb : PE X b (LE X.K g)) (hm : behindInMarks op b = false := by exact nomark _) : PT X (.Compare a [op] [b] pos) (LT X.K (dTst (dBin r f g))) := by
  intro pins s σ H Q I h
  refine wpAny_isTrue_Compare1 (thn (le2 ho ha hb I h.le) fun v s1 h1 => thn h1 fun u s2 h2 => thn h2 fun c s3 ⟨z, H3, I3, r3, k, e, q3⟩ => ?_) hm
  subst e
  cases r3
  exact wpAny_truthy_bool ⟨H3, I3, q3⟩
theorem lt_val (h : PE X a (LE X.K f)) (he : ∀ whole, isTrue a X.env whole = (do let v ← whole; standAt a.pos; holding [v] (truthy v)) := by intro _; rfl) : PT X a (LT X.K (dTst f)) :=
  PT.imp (pt_val h he) fun _ _ _ q => q.le
end
section
variable {X : Cx} {a b c : Expr} {rest : List Expr} {f g : DE} {t u : DT} {pos : Pos}
@[simp] def dOrT (t u : DT) : DT := fun d m Q => t d m fun k m1 => if k = true then Q true m1 else u d m1 Q
@[simp] def dNotT (t : DT) : DT := fun d m Q => t d m fun k m1 => Q (!k) m1
theorem PW.imp {e : Expr} {t t' : TT} (h : PW X e t) (q : ∀ s H Q, t' s H Q → t s H Q) : PW X e t' := fun wh pins s d H Q I w => h wh pins s d H Q I (q _ _ _ w)
theorem lw_or1 (ha : PT X a (LT X.K t)) : PW X (.BoolOp .Or [a] pos) (LT X.K t) := pw_or1 ha
theorem lw_or (ha : PT X a (LT X.K t)) (hb : PW X (.BoolOp .Or (b :: rest) pos) (LT X.K u)) : PW X (.BoolOp .Or (a :: b :: rest) pos) (LT X.K (dOrT t u)) :=
  PW.imp (pw_or ha hb) fun s H Q ⟨Z, d, m, R, ok, rs, h, k⟩ => ⟨Z, d, m, _, ok, rs, h, fun b m1 H1 q e1 ok1 => by
    cases b with
    | false => rw [if_neg Bool.false_ne_true] at q ⊢; exact ⟨Z, d, m1, R, ok1, rs.ext e1, q, fun b' m2 H2 q2 e2 ok2 => k b' m2 H2 q2 (e1.trans e2) ok2⟩
    | true => rw [if_pos rfl] at q ⊢; exact k true m1 H1 q e1 ok1⟩
theorem lt_not (ha : PT X a (LT X.K t)) : PT X (.UnaryOp .Not a pos) (LT X.K (dNotT t)) :=
  PT.imp (pt_not ha) fun s H Q ⟨Z, d, m, R, ok, rs, h, k⟩ => ⟨Z, d, m, _, ok, rs, h, fun b m1 H1 q e1 ok1 => k (!b) m1 H1 q e1 ok1⟩
theorem RD.bl {K : PySem.W.Frag} {Z : Addr → Prop} {m : Mu} {H : Hp} {b : Bool} {v : V} (h : RD K Z m H (.dat (.bool b)) v) : v = .bl b := by simpa only [RD, RP] using h
theorem RD.ofBl {K : PySem.W.Frag} {Z : Addr → Prop} {m : Mu} {H : Hp} {b : Bool} : RD K Z m H (.dat (.bool b)) (.bl b) := by simp only [RD, RP]
@[simp] def dIte (t : DT) (f g : DE) : DE := fun d m Q => t d m fun k m1 => if k = true then f d m1 Q else g d m1 Q
theorem le_ite (hc : PT X c (LT X.K t)) (ha : PE X a (LE X.K f)) (hb : PE X b (LE X.K g)) : PE X (.IfExp c a b pos) (LE X.K (dIte t f g)) :=
  PE.imp (pe_ifExp hc ha hb) fun s H Q ⟨Z, d, m, R, ok, rs, h, k⟩ => ⟨Z, d, m, _, ok, rs, h, fun b m1 H1 q e1 ok1 => by
    cases b with
    | true => rw [if_pos rfl] at q ⊢; exact ⟨Z, d, m1, R, ok1, rs.ext e1, q, fun x2 m2 v2 H2 q2 e2 ok2 r2 => k x2 m2 v2 H2 q2 (e1.trans e2) ok2 r2⟩
    | false => rw [if_neg Bool.false_ne_true] at q ⊢; exact ⟨Z, d, m1, R, ok1, rs.ext e1, q, fun x2 m2 v2 H2 q2 e2 ok2 r2 => k x2 m2 v2 H2 q2 (e1.trans e2) ok2 r2⟩⟩
end
section
variable {X : Cx} {e : Expr} {es : List Expr} {f : DE} {g : DA} {pos : Pos}
@[simp] def dNil : DA := fun _ m Q => Q [] m
@[simp] def dCons (f : DE) (g : DA) : DA := fun d m Q => f d m fun x m1 => g d m1 fun xs m2 => Q (x :: xs) m2
theorem la_nil : PA X [] (LA X.K dNil) := PA.imp pa_nil fun s H Q ⟨Z, d, m, R, ok, rs, h, k⟩ => k [] m [] H h Ext.refl ok rfl
theorem la_cons (ha : PE X e (LE X.K f)) (hr : PA X es (LA X.K g)) (hs : starEach (e :: es) X.env = (false, eval e X.env) :: starEach es X.env := by rfl) : PA X (e :: es) (LA X.K (dCons f g)) :=
  PA.imp (pa_cons ha hr hs) fun s H Q ⟨Z, d, m, R, ok, rs, h, k⟩ => ⟨Z, d, m, _, ok, rs, h, fun x m1 v H1 q e1 ok1 r1 => ⟨Z, d, m1, _, ok1, rs.ext e1, q, fun xs m2 vs H2 q2 e2 ok2 r2 =>
    k (x :: xs) m2 (v :: vs) H2 q2 (e1.trans e2) ok2 ⟨v, vs, rfl, r1.ext e2, r2⟩⟩⟩
@[simp] def dTup (g : DA) : DE := fun d m Q => g d m fun xs m1 => ∃ ps, pds xs = some ps ∧ ps.length ≤ sizeLine ∧ Q (.dat (.tuple ps)) m1
theorem le_tup {j : Nat} (h : PA X es (LA X.K g)) : PE X (.Tuple es j pos) (LE X.K (dTup g)) :=
  PE.imp (pe_tup h) fun s H Q ⟨Z, d, m, R, ok, rs, h, k⟩ => ⟨Z, d, m, _, ok, rs, h, fun xs m1 vs H1 ⟨ps, e, hz, q⟩ e1 ok1 r1 => by
    have rp := r1.pds e
    refine ⟨by rw [rp.length]; exact hz, fun p hp => ?_⟩
    have sm : Same H1 (upd H1 p (.tup vs)) := same_new hp
    refine k _ m1 _ _ q (e1.trans (ok1.ext sm)) (ok1.grow sm) ?_
    simp only [RD, RP]
    exact ⟨p, vs, rfl, .inl (.inl upd_same), RPs.ext (ok1.ext sm) _ _ rp⟩⟩
@[simp] def dLst (g : DA) : DE := fun d m Q => g d m fun xs m1 => ∃ ps, pds xs = some ps ∧ ps.length ≤ sizeLine ∧ Q (.dat (.list ps)) m1
theorem pe_lstK {t : TA} (h : PA X es t) : PE X (.List es pos) (fun s H Q => t s H fun xs H1 => xs.length ≤ sizeLine ∧ ∀ p, H1 p = none → X.K.lookup p = none → Q (.ref p) (upd H1 p (.lst xs))) := by
  intro pins s σ H Q I hq
  refine wpAny_List_spliced (thn (h pos pins s σ H _ I hq) fun us s1 ⟨xs, H1, I1, r, z, q⟩ => ⟨by rw [← r.length]; exact z, ?_⟩)
  have hf : H1 s1.heap.objs.size = none := I1.hok.fresh (Nat.le_refl _)
  have hk : X.K.lookup s1.heap.objs.size = none := by
    cases e : X.K.lookup s1.heap.objs.size with
    | none => rfl
    | some o => exact absurd (Heap.lt_size (I1.kIn _ o e)) (Nat.lt_irrefl _)
  refine ⟨.ref s1.heap.objs.size, upd H1 s1.heap.objs.size (.lst xs), I1.laid (t' := s1.toks) (fun b u e => Heap.get?_push_of_some _ e) (Nat.le_refl _) ?_, rfl, q _ hf hk⟩
  exact ⟨z, us, 0, r, Heap.get?_push_size _ rfl⟩
theorem ok_none {K : PySem.W.Frag} {Z : Addr → Prop} {m : Mu} {H : Hp} {p : Addr} (ok : Ok K Z m H) (hp : H p = none) : m p = none ∧ ¬ Z p := by
  refine ⟨?_, fun h => (ok.z p h).2 hp⟩
  cases e : m p with
  | none => rfl
  | some ds =>
    obtain ⟨vs, h1, _⟩ := ok.g p ds e
    rw [hp] at h1
    cases h1
theorem le_lst (h : PA X es (LA X.K g)) : PE X (.List es pos) (LE X.K (dLst g)) :=
  PE.imp (pe_lstK h) fun s H Q ⟨Z, d, m, R, ok, rs, h, k⟩ => ⟨Z, d, m, _, ok, rs, h, fun xs m1 vs H1 ⟨ps, e, hz, q⟩ e1 ok1 r1 => by
    have rp := r1.pds e
    refine ⟨by rw [rp.length]; exact hz, fun p hp hk => ?_⟩
    have sm : Same H1 (upd H1 p (.lst vs)) := same_new hp
    refine k _ m1 _ _ q (e1.trans (ok1.ext sm)) (ok1.grow sm) ?_
    simp only [RD, RP]
    exact ⟨p, vs, rfl, ok_none ok1 hp, .inl (.inl upd_same), RPs.ext (ok1.ext sm) _ _ rp⟩⟩
end
end DL
set_option Elab.async false
set_option linter.all false
set_option maxRecDepth 100000
set_option maxHeartbeats 4000000
namespace DL
open PySem PySem.Spec PyProof.Rows L2
section
variable {X : Cx}
end
end DL
set_option Elab.async false
set_option linter.all false
set_option maxRecDepth 100000
set_option maxHeartbeats 4000000
namespace DL
open PySem PySem.Spec PyProof.Rows L2
@[simp] def aAdd : D2
  | .dat (.int i), .dat (.int j), m, Q => Q (.dat (.int (i + j))) m
  | .dat (.str a), .dat (.str b), m, Q => a.length + b.length ≤ sizeLine ∧ Q (.dat (.str (a ++ b))) m
  | .dat (.tuple a), .dat (.tuple b), m, Q => a.length + b.length ≤ sizeLine ∧ Q (.dat (.tuple (a ++ b))) m
  | .dat (.list a), .dat (.list b), m, Q => a.length + b.length ≤ sizeLine ∧ Q (.dat (.list (a ++ b))) m
  | .cel c, .dat (.list b), m, Q => ∃ a, m c = some (.l a) ∧ a.length + b.length ≤ sizeLine ∧ Q (.dat (.list (a ++ b))) m
  | _, _, _, _ => False
@[simp] def aMod : D2
  | .dat (.int i), .dat (.int j), m, Q => j ≠ 0 ∧ Q (.dat (.int (i.fmod j))) m
  | _, _, _, _ => False
@[simp] def aGt : D2
  | .dat (.int i), .dat (.int j), m, Q => Q (.dat (.bool (decide (j < i)))) m
  | _, _, _, _ => False
@[simp] def aEq : D2
  | .dat (.str a), .dat (.str b), m, Q => Q (.dat (.bool (decide (a = b)))) m
  | .dat p, .dat q, m, Q => p.canLay0 = true ∧ q.canLay0 = true ∧ p.depth ≤ 100 ∧ Q (.dat (.bool (PyData.eqv p q))) m
  | _, _, _, _ => False
@[simp] def aNe : D2
  | .dat (.str a), .dat (.str b), m, Q => Q (.dat (.bool (!decide (a = b)))) m
  | .dat p, .dat q, m, Q => p.canLay0 = true ∧ q.canLay0 = true ∧ p.depth ≤ 100 ∧ Q (.dat (.bool (!PyData.eqv p q))) m
  | _, _, _, _ => False
section
variable {X : Cx}
theorem RD.int {K : PySem.W.Frag} {Z : Addr → Prop} {m : Mu} {H : Hp} {i : Int} {v : V} (h : RD K Z m H (.dat (.int i)) v) : v = .int i := by simpa only [RD, RP] using h
theorem RD.ofInt {K : PySem.W.Frag} {Z : Addr → Prop} {m : Mu} {H : Hp} {i : Int} : RD K Z m H (.dat (.int i)) (.int i) := by simp only [RD, RP]
theorem RD.str {K : PySem.W.Frag} {Z : Addr → Prop} {m : Mu} {H : Hp} {i : Str} {v : V} (h : RD K Z m H (.dat (.str i)) v) : v = .str i := by simpa only [RD, RP] using h
theorem RD.ofStr {K : PySem.W.Frag} {Z : Addr → Prop} {m : Mu} {H : Hp} {i : Str} : RD K Z m H (.dat (.str i)) (.str i) := by simp only [RD, RP]
theorem od_mod : OpD X (binaryOp .Mod) aMod := by
  intro pins s σ H Z m x y dx dy v u R Q I ok rx ry r1 r2 h k
  unfold aMod at h
  split at h
  · cases r1.int; cases r2.int
    exact op_modN pins s σ H _ _ v u Q I rx ry ⟨_, _, rfl, rfl, h.1, k _ m _ H h.2 Ext.refl ok .ofInt⟩
  · exact h.elim
theorem od_gt : OpD X (compareOp .Gt) aGt := by
  intro pins s σ H Z m x y dx dy v u R Q I ok rx ry r1 r2 h k
  unfold aGt at h
  split at h
  · cases r1.int; cases r2.int
    exact op_gt pins s σ H _ _ v u Q I rx ry ⟨_, _, rfl, rfl, k _ m _ H h Ext.refl ok .ofBl⟩
  · exact h.elim
theorem od_eq (hu : X.A.units + 100 < cLine) : OpD X (compareOp .Eq) aEq := by
  intro pins s σ H Z m x y dx dy v u R Q I ok rx ry r1 r2 h k
  unfold aEq at h
  split at h
  · cases r1.str; cases r2.str
    refine op_eq pins s σ H _ _ v u Q I rx ry ⟨rfl, ?_⟩
    have e : ∀ a b : Str, decide (V.str a = V.str b) = decide (a = b) := fun a b => by
      rw [Bool.eq_iff_iff]
      simp
    rw [e]
    exact k _ m _ H h Ext.refl ok .ofBl
  · rename_i p q hne
    obtain ⟨h1, h2, h3, h4⟩ := h
    obtain ⟨as, ra⟩ := RP.reads I p x v r1 rx
    obtain ⟨bs, rb⟩ := RP.reads I q y u r2 ry
    exact SeqAt.compareEq_reads ra rb h1 h2 (by omega) ⟨.bl _, H, I, rfl, k _ m _ H h4 Ext.refl ok .ofBl⟩
  · exact h.elim
theorem od_ne (hu : X.A.units + 100 < cLine) : OpD X (compareOp .NotEq) aNe := by
  intro pins s σ H Z m x y dx dy v u R Q I ok rx ry r1 r2 h k
  unfold aNe at h
  split at h
  · cases r1.str; cases r2.str
    refine op_ne pins s σ H _ _ v u Q I rx ry ⟨rfl, ?_⟩
    have e : ∀ a b : Str, decide (V.str a = V.str b) = decide (a = b) := fun a b => by
      rw [Bool.eq_iff_iff]
      simp
    rw [e]
    exact k _ m _ H h Ext.refl ok .ofBl
  · rename_i p q hne
    obtain ⟨h1, h2, h3, h4⟩ := h
    obtain ⟨as, ra⟩ := RP.reads I p x v r1 rx
    obtain ⟨bs, rb⟩ := RP.reads I q y u r2 ry
    exact SeqAt.compareNe_reads ra rb h1 h2 (by omega) ⟨.bl _, H, I, rfl, k _ m _ H h4 Ext.refl ok .ofBl⟩
  · exact h.elim
theorem cat_tup0 {pins : List (Addr × Obj)} {s : Shared} {σ : L2.St} {H : Hp} {Q : VK} {a b : Addr} {ys : List V} (I : Inv X pins σ H s) (ha : SqT X.K H a []) (hb : SqT X.K H b ys) (q : Q (.ref b) H) :
    wpAny (model X.prog X.w) X.A (binaryOp .Add (.ref a) (.ref b)) (EP X pins σ Q) X.xe s := by
  obtain ⟨its, r1, p1, _⟩ := I.tuple ha
  obtain ⟨its2, r2, p2, _⟩ := I.tuple hb
  cases r1
  obtain ⟨⟨cls, dd, data, sl⟩, ho, hc, n, hd⟩ := id p1
  obtain ⟨⟨cls2, dd2, data2, sl2⟩, ho2, hc2, n2, hd2⟩ := id p2
  simp only at hc hd hc2 hd2
  subst hc hd hc2 hd2
  exact concat_meets ⟨_, ho, rfl⟩ ⟨_, ho2, rfl⟩ noFill_tuple_add seq_tuple_add PySem.F.slot_tuple_add PySem.F.entry_tuple_add (PySem.F.args_tuple_add_2 _ _)
      (tuple_addW0 a b _ _ n n2 dd dd2 sl sl2 (by simp)) ⟨ho, ho2, ⟨.ref b, H, I, rfl, q⟩⟩
theorem op_catS : OpR X (binaryOp .Add) (fun x y H Q => ∃ a b xs ys, x = .ref a ∧ y = .ref b ∧ SqL X.K H a xs ∧ SqL X.K H b ys ∧ xs.length + ys.length ≤ sizeLine ∧ ∀ p, H p = none → Q (.ref p) (upd H p (.lst (xs ++ ys)))) := by
  intro pins s σ H x y v u Q I rx ry h
  obtain ⟨a, b, xs, ys, rfl, rfl, ha, hb, hz, q⟩ := h
  cases rx
  cases ry
  obtain ⟨its, r1, p1, _⟩ := I.list ha
  obtain ⟨its2, r2, p2, _⟩ := I.list hb
  obtain ⟨⟨cls, dd, data, sl⟩, ho, hc, n, hd⟩ := id p1.isList
  obtain ⟨⟨cls2, dd2, data2, sl2⟩, ho2, hc2, n2, hd2⟩ := id p2.isList
  simp only at hc hd hc2 hd2
  subst hc hd hc2 hd2
  have l1 := r1.length
  have l2 := r2.length
  have e : its.toArray ++ its2.toArray = (its ++ its2).toArray := by simp
  refine concat_meets ⟨_, ho, rfl⟩ ⟨_, ho2, rfl⟩ noFill_list_add seq_list_add PySem.F.slot_list_add PySem.F.entry_list_add (PySem.F.args_list_add_2 _ _)
      (list_addW a b its.toArray its2.toArray n n2 dd dd2 sl sl2 (by rw [List.size_toArray, List.size_toArray]; omega)) ⟨ho, ho2, ?_⟩
  rw [e]
  exact ⟨.ref s.heap.objs.size, _, I.laid (t' := s.toks) (o := .lst (xs ++ ys)) (fun b ob q => Heap.get?_push_of_some _ q) (Nat.le_refl _) ⟨by rw [List.length_append]; omega, _, 0, r1.append r2, Heap.get?_push_size _ rfl⟩, rfl, q _ (I.hok.fresh (Nat.le_refl _))⟩
theorem od_add : OpD X (binaryOp .Add) aAdd := by
  intro pins s σ H Z m x y dx dy v u R Q I ok rx ry r1 r2 h k
  unfold aAdd at h
  split at h
  · cases r1.int; cases r2.int
    exact op_add pins s σ H _ _ v u Q I rx ry ⟨_, _, rfl, rfl, k _ m _ H h Ext.refl ok .ofInt⟩
  · cases r1.str; cases r2.str
    exact op_add_str pins s σ H _ _ v u Q I rx ry ⟨_, _, rfl, rfl, h.1, k _ m _ H h.2 Ext.refl ok .ofStr⟩
  · rename_i a b
    simp only [RD, RP] at r1 r2
    obtain ⟨p, vs, rfl, h1, h2⟩ := r1
    obtain ⟨q, ws, rfl, g1, g2⟩ := r2
    have l1 := h2.length
    have l2 := g2.length
    by_cases e1 : a = []
    · subst e1
      simp only [RPs] at h2
      subst h2
      cases rx; cases ry
      refine cat_tup0 I h1 g1 (k _ m _ H h.2 Ext.refl ok ?_)
      simp only [RD, RP]
      exact ⟨q, ws, rfl, g1, by simpa using g2⟩
    · refine op_catT pins s σ H _ _ v u Q I rx ry ⟨p, q, vs, ws, rfl, rfl, h1, g1, ?_, by omega, fun e2 => ?_, fun e2 t ht => ?_⟩
      · rintro rfl
        cases a with
        | nil => exact e1 rfl
        | cons _ _ => simp at l1
      · subst e2
        have e3 : b = [] := by cases b with | nil => rfl | cons _ _ => simp at l2
        subst e3
        refine k _ m _ H h.2 Ext.refl ok ?_
        simp only [RD, RP]
        exact ⟨p, vs, rfl, h1, by simpa using h2⟩
      · have sm : Same H (upd H t (.tup (vs ++ ws))) := same_new ht
        refine k _ m _ _ h.2 (ok.ext sm) (ok.grow sm) ?_
        simp only [RD, RP]
        exact ⟨t, _, rfl, .inl (.inl upd_same), RPs.ext (ok.ext sm) _ _ (h2.append g2)⟩
  · rename_i a b
    simp only [RD, RP] at r1 r2
    obtain ⟨p, vs, rfl, h0, h1, h2⟩ := r1
    obtain ⟨q, ws, rfl, g0, g1, g2⟩ := r2
    have l1 := h2.length
    have l2 := g2.length
    refine op_catS pins s σ H _ _ v u Q I rx ry ⟨p, q, vs, ws, rfl, rfl, h1, g1, by omega, fun t ht => ?_⟩
    have sm : Same H (upd H t (.lst (vs ++ ws))) := same_new ht
    refine k _ m _ _ h.2 (ok.ext sm) (ok.grow sm) ?_
    simp only [RD, RP]
    exact ⟨t, _, rfl, ok_none ok ht, .inl (.inl upd_same), RPs.ext (ok.ext sm) _ _ (h2.append g2)⟩
  · rename_i c b
    obtain ⟨aa, hm, hz, hq⟩ := h
    obtain ⟨rfl, _⟩ := r1
    obtain ⟨vs, g0, g3⟩ := ok.l hm
    simp only [RD, RP] at r2
    obtain ⟨q, ws, rfl, _, g1, g2⟩ := r2
    have l1 := g3.length
    have l2 := g2.length
    refine op_catS pins s σ H _ _ v u Q I rx ry ⟨c, q, vs, ws, rfl, rfl, .inl (.inl g0), g1, by omega, fun t ht => ?_⟩
    have sm : Same H (upd H t (.lst (vs ++ ws))) := same_new ht
    refine k _ m _ _ hq (ok.ext sm) (ok.grow sm) ?_
    simp only [RD, RP]
    exact ⟨t, _, rfl, ok_none ok ht, .inl (.inl upd_same), RPs.ext (ok.ext sm) _ _ (g3.append g2)⟩
  · exact h.elim
end
end DL
set_option Elab.async false
set_option linter.all false
set_option maxRecDepth 100000
set_option maxHeartbeats 4000000
namespace DL
open PySem PySem.Spec PyProof.Rows L2
section
variable {X : Cx} {a b c e : Expr} {es : List Expr} {f g : DE} {ga : DA} {pos p2 p : Pos}
@[simp] def aIx : D2
  | .dat (.tuple xs), .dat (.int i), m, Q => ∃ p, atI xs i = some p ∧ Q (.dat p) m
  | .dat (.list xs), .dat (.int i), m, Q => ∃ p, atI xs i = some p ∧ Q (.dat p) m
  | .cel a, .dat (.int i), m, Q => ∃ xs p, m a = some (.l xs) ∧ atI xs i = some p ∧ Q (.dat p) m
  | .dat (.str z), .dat (.int i), m, Q => ∃ c, z.length ≤ sizeLine ∧ atI z.cps.toList i = some c ∧ Q (.dat (.str ⟨#[c]⟩)) m
  | _, _, _, _ => False
theorem RPs.at {K : PySem.W.Frag} {Z : Addr → Prop} {m : Mu} {H : Hp} {xs : List PyData} {vs : List V} {i : Int} {p : PyData} (h : RPs K Z m H xs vs) (e : atI xs i = some p) : ∃ v, atI vs i = some v ∧ RP K Z m H p v := by
  unfold atI at e ⊢
  rw [h.length]
  cases q : ixN xs.length i with
  | none => rw [q] at e; cases e
  | some j =>
    rw [q] at e
    exact h.get (i := j) e
theorem le_ix (ha : PE X a (LE X.K f)) (hb : PE X b (LE X.K g)) (hs : PlainIx b := by exact fun _ _ => rfl) : PE X (.Subscript a b pos) (LE X.K (dBin aIx f g)) :=
  PE.imp (pe_ix ix_seq ha hb hs) fun s H Q h => by
    obtain ⟨Z, d, m, R, ok, rs, h, k⟩ := h
    refine ⟨Z, d, m, _, ok, rs, h, fun x m1 v H1 q e1 ok1 rx => ⟨Z, d, m1, _, ok1, rs.ext e1, q, fun y m2 w H2 q2 e2 ok2 ry => ?_⟩⟩
    have rx2 := rx.ext e2
    have e12 := e1.trans e2
    unfold aIx at q2
    split at q2
    · obtain ⟨p, ep, q⟩ := q2
      cases ry.int
      simp only [RD, RP] at rx2
      obtain ⟨a, vs, rfl, h1, h2⟩ := rx2
      obtain ⟨z, ez, rz⟩ := h2.at ep
      exact .inr (.inl ⟨a, vs, _, z, rfl, rfl, h1, ez, k _ m2 z H2 q e12 ok2 rz⟩)
    · obtain ⟨p, ep, q⟩ := q2
      cases ry.int
      simp only [RD, RP] at rx2
      obtain ⟨a, vs, rfl, _, h1, h2⟩ := rx2
      obtain ⟨z, ez, rz⟩ := h2.at ep
      exact .inl ⟨a, vs, _, z, rfl, rfl, h1, ez, k _ m2 z H2 q e12 ok2 rz⟩
    · obtain ⟨xs, p, hm, ep, q⟩ := q2
      cases ry.int
      obtain ⟨rfl, _⟩ := rx2
      obtain ⟨vs, h1, h2⟩ := ok2.l hm
      obtain ⟨z, ez, rz⟩ := h2.at ep
      exact .inl ⟨_, vs, _, z, rfl, rfl, .inl (.inl h1), ez, k _ m2 z H2 q e12 ok2 rz⟩
    · obtain ⟨c, hz, ec, q⟩ := q2
      cases ry.int
      cases rx2.str
      exact .inr (.inr ⟨_, _, c, rfl, rfl, hz, ec, k _ m2 _ H2 q e12 ok2 .ofStr⟩)
    · exact q2.elim
abbrev DO := St2 → Mu → (Option Int → Mu → Prop) → Prop
theorem PO.imp {e : Option Expr} {t t' : TO} (h : PO X e t) (q : ∀ s H Q, t' s H Q → t s H Q) : PO X e t' := fun pins s d H Q I w => h pins s d H Q I (q _ _ _ w)
def cutP {α : Type} (xs : List α) (lo hi : Option Int) : List α := (xs.drop (HT.sIx xs.length 0 lo)).take (HT.sIx xs.length xs.length hi - HT.sIx xs.length 0 lo)
theorem RPs.cut {K : PySem.W.Frag} {Z : Addr → Prop} {m : Mu} {H : Hp} {xs : List PyData} {vs : List V} {lo hi : Option Int} (h : RPs K Z m H xs vs) : RPs K Z m H (cutP xs lo hi) (cutV vs lo hi) := by
  unfold cutP cutV
  rw [h.length]
  exact (h.drop _).take _
abbrev DC := List D → Mu → DK → Prop
def CallD (X : Cx) (fn : Value) (r : DC) : Prop :=
  ∀ (pins : List (Addr × Obj)) (s : Shared) (σ : L2.St) (H : Hp) (Z : Addr → Prop) (m : Mu) (xs : List V) (ds : List D) (us : List Value) (R : DK) (Q : VK), Inv X pins σ H s → Ok X.K Z m H → Vals xs us → RDs X.K Z m H ds xs → r ds m R →
    (∀ d m' v' H', R d m' → Ext X.K Z m H m' H' → Ok X.K Z m' H' → RD X.K Z m' H' d v' → Q v' H') → wpAny (model X.prog X.w) X.A (call fn us) (EP X pins σ Q) X.xe s
theorem CallD.cr {fn : Value} {r : DC} (h : CallD X fn r) : CallR X fn (fun vs H Q => ∃ Z m ds R, Ok X.K Z m H ∧ RDs X.K Z m H ds vs ∧ r ds m R ∧ ∀ d m' v' H', R d m' → Ext X.K Z m H m' H' → Ok X.K Z m' H' → RD X.K Z m' H' d v' → Q v' H') := by
  intro pins s σ H xs us Q I r1 ⟨Z, m, ds, R, ok, rd, q, k⟩
  exact h pins s σ H Z m xs ds us R Q I ok r1 rd q k
@[simp] def dCallB (r : DC) (g : DA) : DE := fun d m Q => g d m fun xs m1 => r xs m1 Q
theorem LE.call {r : DC} {H : Hp} {σ : L2.St} {Q : VK} (h : LE X.K (dCallB r ga) σ H Q) :
    LA X.K ga σ H fun vs H1 => ∃ Z m ds R, Ok X.K Z m H1 ∧ RDs X.K Z m H1 ds vs ∧ r ds m R ∧ ∀ d m' v' H', R d m' → Ext X.K Z m H1 m' H' → Ok X.K Z m' H' → RD X.K Z m' H' d v' → Q v' H' := by
  obtain ⟨Z, d, m, R, ok, rs, h, k⟩ := h
  exact ⟨Z, d, m, _, ok, rs, h, fun xs m1 vs H1 q e1 ok1 r1 => ⟨Z, m1, xs, R, ok1, r1, q, fun d' m' v' H' h1 h2 h3 h4 => k d' m' v' H' h1 (e1.trans h2) h3 h4⟩⟩
theorem le_callB {x : Str} {id : String} {r : DC} (hc : CallD X (.builtin id) r) (hg : Gl X x) (hm : X.mg x = none) (hv : bootBuiltins x = some (.builtin id)) (ha : PA X (e :: es) (LA X.K ga)) (hn : x ≠ "__name__" := by decide) (hdb : (x == ("__debug__" : Str)) = false := by decide)
    (he : starEach (e :: es) X.env = (false, eval e X.env) :: starEach es X.env := by rfl) (hpl : (backTo pos (starEach es X.env)).any (·.1) = false := by rfl) : PE X (.Call (.Name x p) (e :: es) [] pos) (LE X.K (dCallB r ga)) :=
  PE.imp (pe_callB hc.cr hg hm hv ha hn hdb he hpl) fun s H Q h => h.call
theorem le_callTy {x : Str} {T : String} {r : DC} (hc : CallD X (.type T) r) (hg : Gl X x) (hm : X.mg x = none) (hv : bootBuiltins x = some (.type T)) (ha : PA X (e :: es) (LA X.K ga)) (hn : x ≠ "__name__" := by decide) (hdb : (x == ("__debug__" : Str)) = false := by decide)
    (he : starEach (e :: es) X.env = (false, eval e X.env) :: starEach es X.env := by rfl) (hpl : (backTo pos (starEach es X.env)).any (·.1) = false := by rfl) : PE X (.Call (.Name x p) (e :: es) [] pos) (LE X.K (dCallB r ga)) :=
  PE.imp (pe_callTy hc.cr hg hm hv ha hn hdb he hpl) fun s H Q h => h.call
theorem RDs.one {K : PySem.W.Frag} {Z : Addr → Prop} {m : Mu} {H : Hp} {x : D} {vs : List V} (h : RDs K Z m H [x] vs) : ∃ v, vs = [v] ∧ RD K Z m H x v := by
  obtain ⟨v, r, h1, h2, h3⟩ := h
  cases (show r = [] from h3)
  exact ⟨v, h1, h2⟩
@[simp] def bLen : DC
  | [.dat (.tuple xs)], m, Q => Q (.dat (.int xs.length)) m
  | [.dat (.list xs)], m, Q => Q (.dat (.int xs.length)) m
  | [.dat (.str z)], m, Q => z.length ≤ sizeLine ∧ Q (.dat (.int z.length)) m
  | [.cel a], m, Q => ∃ xs, m a = some (.l xs) ∧ Q (.dat (.int xs.length)) m
  | _, _, _ => False
theorem cd_len : CallD X (.builtin "len") bLen := by
  intro pins s σ H Z m xs ds us R Q I ok rv rd h k
  unfold bLen at h
  split at h
  · obtain ⟨v, rfl, r1⟩ := rd.one
    simp only [RD, RP] at r1
    obtain ⟨a, vs, rfl, h1, h2⟩ := r1
    refine call_len_seq pins s σ H _ us Q I rv ⟨a, vs, rfl, .inr h1, ?_⟩
    rw [h2.length]
    exact k _ m _ H h Ext.refl ok .ofInt
  · obtain ⟨v, rfl, r1⟩ := rd.one
    simp only [RD, RP] at r1
    obtain ⟨a, vs, rfl, _, h1, h2⟩ := r1
    refine call_len_seq pins s σ H _ us Q I rv ⟨a, vs, rfl, .inl h1, ?_⟩
    rw [h2.length]
    exact k _ m _ H h Ext.refl ok .ofInt
  · obtain ⟨v, rfl, r1⟩ := rd.one
    cases r1.str
    exact call_len_str pins s σ H _ us Q I rv ⟨_, rfl, h.1, k _ m _ H h.2 Ext.refl ok .ofInt⟩
  · obtain ⟨v, rfl, r1⟩ := rd.one
    obtain ⟨rfl, _⟩ := r1
    obtain ⟨ys, hm, q⟩ := h
    obtain ⟨vs, h1, h2⟩ := ok.l hm
    refine call_len_seq pins s σ H _ us Q I rv ⟨_, vs, rfl, .inl (.inl (.inl h1)), ?_⟩
    rw [h2.length]
    exact k _ m _ H q Ext.refl ok .ofInt
  · exact h.elim
@[simp] def bRepr : DC
  | [.dat p], m, Q => p.showable = true ∧ p.shown.length ≤ sizeLine ∧ p.depth ≤ 100 ∧ Q (.dat (.str p.shown)) m
  | _, _, _ => False
theorem cd_repr (hu : X.A.units + 200 < cLine) (hg : X.A.guards = some []) : CallD X (.builtin "repr") bRepr := by
  intro pins s σ H Z m xs ds us R Q I ok rv rd h k
  unfold bRepr at h
  split at h
  · rename_i p
    obtain ⟨v, rfl, r1⟩ := rd.one
    obtain ⟨u, rfl, ru⟩ := vals1 rv
    obtain ⟨h1, h2, h3, h4⟩ := h
    have fin : ∀ (tk tk' : Nat), EP X pins σ Q (.str p.shown tk) { s with toks := tk' } := fun tk tk' => ⟨.str p.shown, H, I.tok _, ⟨_, rfl⟩, k _ m _ H h4 Ext.refl ok .ofStr⟩
    have nd := RP.noDict X.K p v r1 h1
    obtain ⟨as, rd⟩ := RP.reads I p v u r1 ru
    cases rd with
    | none => exact PySem.P.repr_of_none (fin _ _)
    | bool b => exact PySem.P.repr_of_bool (by simpa only [PyData.shown] using fin _ _)
    | int i t => exact PySem.P.repr_of_int (by simpa [PyData.showable] using h1) (by simpa only [PyData.shown] using fin _ _)
    | str x t => exact PySem.P.repr_of_str (by simpa only [PyData.shown] using fin _ _) (by simpa only [PyData.shown] using h2)
    | list q1 q2 q3 q4 =>
      refine repr_of_reads' (.list q1 q2 q3 q4) h1 (PyData.noDict_hsm nd) hg (by omega) (fun _ _ e => e) (fun h' u tk kp => ⟨.str _, H, I.kept kp, ⟨_, rfl⟩, k _ m _ H h4 Ext.refl ok .ofStr⟩) h2
    | tuple q1 q2 q3 q4 =>
      refine repr_of_reads' (.tuple q1 q2 q3 q4) h1 (PyData.noDict_hsm nd) hg (by omega) (fun _ _ e => e) (fun h' u tk kp => ⟨.str _, H, I.kept kp, ⟨_, rfl⟩, k _ m _ H h4 Ext.refl ok .ofStr⟩) h2
    | dict q1 q2 q3 q4 q5 => simp only [PyData.hasDict] at nd; cases nd
  · exact h.elim
end
end DL
set_option Elab.async false
set_option linter.all false
set_option maxRecDepth 100000
set_option maxHeartbeats 4000000
namespace DL
open PySem PySem.Spec PyProof.Rows L2
section
variable {X : Cx} {st : Stmt} {rest body orelse : List Stmt} {t u b : DS} {e c tg iter : Expr} {f : DE} {tc : DT} {pos : Pos}
@[simp] def dNext : DS := fun E d m => E.nx d m
@[simp] def dSeq (t u : DS) : DS := fun E d m => t { E with nx := u E } d m
theorem lss_nil : PSs X [] (LS X.K dNext) := PSs.imp pss_nil fun E s H h => by
  obtain ⟨Z, d, m, R, ok, rs, h, k, _⟩ := h
  exact k d m s H h Ext.refl ok rs
theorem lss_cons (h1 : PS X st (LS X.K t)) (h2 : PSs X rest (LS X.K u)) : PSs X (st :: rest) (LS X.K (dSeq t u)) := PSs.imp (pss_cons h1 h2) fun E s H h => by
  obtain ⟨Z, d, m, R, ok, rs, h, kn, kr, kb, kc⟩ := h
  refine ⟨Z, d, m, _, ok, rs, h, fun d' m' s' H' q e1 ok1 rs1 => ⟨Z, d', m', R, ok1, rs1, q, ?_, ?_, ?_, ?_⟩, kr, kb, kc⟩
  · exact fun d2 m2 s2 H2 q2 e2 ok2 rs2 => kn d2 m2 s2 H2 q2 (e1.trans e2) ok2 rs2
  · exact fun x m2 v H2 q2 e2 ok2 r2 => kr x m2 v H2 q2 (e1.trans e2) ok2 r2
  · exact fun d2 m2 s2 H2 q2 e2 ok2 rs2 => kb d2 m2 s2 H2 q2 (e1.trans e2) ok2 rs2
  · exact fun d2 m2 s2 H2 q2 e2 ok2 rs2 => kc d2 m2 s2 H2 q2 (e1.trans e2) ok2 rs2
@[simp] def dRet (f : DE) : DS := fun E d m => f d m E.rt
theorem ls_ret (he : PE X e (LE X.K f)) : PS X (.Return (some e) pos) (LS X.K (dRet f)) := PS.imp (ps_ret he) fun E s H h => by
  obtain ⟨Z, d, m, R, ok, rs, h, _, kr, _⟩ := h
  exact ⟨Z, d, m, _, ok, rs, h, fun x m1 v H1 q e1 ok1 r1 => kr x m1 v H1 q e1 ok1 r1⟩
@[simp] def dIf (c : DT) (t u : DS) : DS := fun E d m => c d m fun k m1 => if k = true then t E d m1 else u E d m1
theorem ls_if (hc : PT X c (LT X.K tc)) (h1 : PSs X body (LS X.K t)) (h2 : PSs X orelse (LS X.K u)) : PS X (.If c body orelse pos) (LS X.K (dIf tc t u)) := PS.imp (ps_if hc h1 h2) fun E s H h => by
  obtain ⟨Z, d, m, R, ok, rs, h, kn, kr, kb, kc⟩ := h
  refine ⟨Z, d, m, _, ok, rs, h, fun k m1 H1 q e1 ok1 => ?_⟩
  have mk : ∀ {z : DS}, z R d m1 → LS X.K z E s H1 := fun q => ⟨Z, d, m1, R, ok1, rs.ext e1, q,
    fun d2 m2 s2 H2 q2 e2 ok2 rs2 => kn d2 m2 s2 H2 q2 (e1.trans e2) ok2 rs2, fun x m2 v H2 q2 e2 ok2 r2 => kr x m2 v H2 q2 (e1.trans e2) ok2 r2,
    fun d2 m2 s2 H2 q2 e2 ok2 rs2 => kb d2 m2 s2 H2 q2 (e1.trans e2) ok2 rs2, fun d2 m2 s2 H2 q2 e2 ok2 rs2 => kc d2 m2 s2 H2 q2 (e1.trans e2) ok2 rs2⟩
  cases k with
  | true => exact iteT (mk (by simpa using q))
  | false => exact iteF (mk (by simpa using q))
@[simp] def dSet (i : Nat) (f : DE) : DS := fun E d m => f d m fun x m1 => E.nx (d.set i (some x)) m1
theorem ls_set (i : Nat) {x : Str} {pos' : Pos} (hN : X.N.Nodup) (he : PE X e (LE X.K f)) (hi : X.N[i]? = some x := by rfl) (hx : Loc X.env.scope x := by first | exact Or.inl rfl | exact Or.inr rfl)
    (hs : swapsWith e (some (.Name x pos')) pos.line X.env = pure false := by rfl) (hf : X.fn x = true ∨ X.env.scope.names.lookup x = some .local := by first | exact .inl rfl | exact .inr rfl) :
    PS X (.Assign [.Name x pos'] e pos) (LS X.K (dSet i f)) := PS.imp (ps_set hN hi hx he hs hf) fun E s H h => by
  obtain ⟨Z, d, m, R, ok, rs, h, k, _⟩ := h
  exact ⟨Z, d, m, _, ok, rs, h, fun x m1 v H1 q e1 ok1 r1 => k _ m1 _ H1 q e1 ok1 ((rs.ext e1).set r1)⟩
abbrev DG := D → St2 → Mu → (St2 → Mu → Prop) → Prop
def LG (K : PySem.W.Frag) (g : DG) : TG := fun v s H Q => ∃ Z x d m R, Ok K Z m H ∧ RS K Z m H d s ∧ RD K Z m H x v ∧ g x d m R ∧ ∀ d' m' s' H', R d' m' → Ext K Z m H m' H' → Ok K Z m' H' → RS K Z m' H' d' s' → Q s' H'
theorem PG.imp {t t' : TG} (h : PG X e t) (q : ∀ v s H Q, t' v s H Q → t v s H Q) : PG X e t' := fun pins s d H v u Q I r w => h pins s d H v u Q I r (q _ _ _ _ w)
theorem PGs.imp {es : List Expr} {t t' : TGs} (h : PGs X es t) (q : ∀ v s H Q, t' v s H Q → t v s H Q) : PGs X es t' := fun pins s d H v u Q I r w => h pins s d H v u Q I r (q _ _ _ _ w)
@[simp] def gN (i : Nat) : DG := fun x d m Q => Q (d.set i (some x)) m
theorem lg_name (i : Nat) {x : Str} (hN : X.N.Nodup) (hi : X.N[i]? = some x := by rfl) (hx : Loc X.env.scope x := by first | exact Or.inl rfl | exact Or.inr rfl)
    (hf : X.fn x = true ∨ X.env.scope.names.lookup x = some .local := by first | exact .inl rfl | exact .inr rfl) : PG X (.Name x pos) (LG X.K (gN i)) := PG.imp (pg_name hN hi hx hf) fun v s H Q h => by
  obtain ⟨Z, x, d, m, R, ok, rs, rd, h, k⟩ := h
  exact k _ m _ H h Ext.refl ok (rs.set rd)
abbrev DI := St2 → Mu → (List D → Mu → Prop) → Prop
def Yld (K : PySem.W.Frag) (Z : Addr → Prop) (m : Mu) (H : Hp) (x : D) (v : V) (H2 H3 : Hp) : Prop :=
  (H3 = H2 ∧ RD K Z m H x v) ∨ ∃ p ps vs, x = .dat (.tuple ps) ∧ v = .ref p ∧ H2 p = none ∧ H3 = upd H2 p (.tup vs) ∧ RPs K Z m H ps vs
theorem Yld.same {K : PySem.W.Frag} {Z : Addr → Prop} {m : Mu} {H H2 H3 : Hp} {x : D} {v : V} (h : Yld K Z m H x v H2 H3) : Same H2 H3 := by
  rcases h with ⟨rfl, _⟩ | ⟨p, ps, vs, _, _, hp, rfl, _⟩
  · exact fun _ _ q => q
  · exact same_new hp
theorem Yld.rd {K : PySem.W.Frag} {Z Z' : Addr → Prop} {m m' : Mu} {H H2 H3 : Hp} {x : D} {v : V} (tr : ∀ d v, RD K Z m H d v → RD K Z' m' H2 d v) (ok : Ok K Z' m' H2) (h : Yld K Z m H x v H2 H3) : RD K Z' m' H3 x v := by
  rcases h with ⟨rfl, h⟩ | ⟨p, ps, vs, rfl, rfl, hp, rfl, h⟩
  · exact tr _ _ h
  · have h2 := RPs.lift (fun p v q => tr (.dat p) v q) h
    simp only [RD, RP]
    exact ⟨p, vs, rfl, .inl (.inl upd_same), RPs.ext (ok.ext (same_new hp)) _ _ h2⟩
structure ExtY (K : PySem.W.Frag) (Z : Addr → Prop) (m : Mu) (H : Hp) (m' : Mu) (H' : Hp) : Prop where
  t : ∀ a vs, SqT K H a vs → SqT K H' a vs
  l : ∀ a vs, (m a = none ∧ ¬ Z a) → SqL K H a vs → m' a = none ∧ SqL K H' a vs
  fz : ∀ a o u, H a = some (.frz o u) → H' a = some (.frz o u)
theorem Ext.y {K : PySem.W.Frag} {Z : Addr → Prop} {m m' : Mu} {H H' : Hp} (e : Ext K Z m H m' H') : ExtY K Z m H m' H' := ⟨e.t, e.l, e.fz⟩
def Yields (K : PySem.W.Frag) (Z : Addr → Prop) (m : Mu) (H : Hp) (xs : List D) (J : It) : Prop := ∀ m2 H2, ExtY K Z m H m2 H2 →
  (∀ (i : Nat) (x : D), xs[i]? = some x → J.go i H2 ∧ ∀ v H3, J.yld i H2 v H3 → Yld K Z m H x v H2 H3) ∧ J.stop xs.length H2
def LI (K : PySem.W.Frag) (fi : DI) : TI := fun s H R => ∃ (Z : Addr → Prop) (d : St2) (m : Mu) (ZZ : List D → Mu → Prop), Ok K Z m H ∧ RS K Z m H d s ∧ fi d m ZZ ∧
  ∀ xs m' H' J, ZZ xs m' → Ext K Z m H m' H' → Ok K Z m' H' → Yields K Z m' H' xs J → R J H'
theorem PI.imp {t t' : TI} (h : PI X tg e t) (q : ∀ s H R, t' s H R → t s H R) : PI X tg e t' := fun pins s d H R I w => h pins s d H R I (q _ _ _ w)
def intsD (lo : Int) (n : Nat) : List D := (List.range n).map fun i => .dat (.int (lo + (i : Nat)))
@[simp] def dRngI (f : DE) : DI := fun d m Q => f d m fun x m1 => ∃ j : Int, x = .dat (.int j) ∧ -(2 ^ 62) ≤ j ∧ j < 2 ^ 62 ∧ Q (intsD 0 j.toNat) m1
theorem li_range {p : Pos} (hg : Gl X "range") (hm : X.mg "range" = none) (ha : PE X e (LE X.K f)) (hs : starEach [e] X.env = [(false, eval e X.env)] := by rfl) : PI X tg (.Call (.Name "range" p) [e] [] pos) (LI X.K (dRngI f)) :=
  PI.imp (pi_range1 hg hm (pa_cons ha pa_nil (by rw [hs]; rfl)) hs) fun s H R h => by
    obtain ⟨Z, d, m, ZZ, ok, rs, h, k⟩ := h
    refine ⟨Z, d, m, _, ok, rs, h, fun x m1 v H1 ⟨j, e, h1, h2, q⟩ e1 ok1 rd => ?_⟩
    subst e
    cases rd.int
    show ∃ j' : Int, [V.int j] = [V.int j'] ∧ _
    refine ⟨j, rfl, h1, h2, k _ m1 H1 _ q e1 ok1 fun m2 H2 e2 => ⟨fun i x hx => ?_, ?_⟩⟩
    · unfold intsD at hx
      rw [List.getElem?_map] at hx
      cases ei : (List.range j.toNat)[i]? with
      | none => rw [ei] at hx; cases hx
      | some i' =>
        rw [ei] at hx
        cases hx
        have hl := (List.getElem?_eq_some_iff.mp ei).1
        have hi : i' = i := by
          obtain ⟨_, z⟩ := List.getElem?_eq_some_iff.mp ei
          rw [List.getElem_range] at z
          exact z.symm
        subst hi
        rw [List.length_range] at hl
        refine ⟨hl, fun v' H3 y => .inl ⟨y.1, ?_⟩⟩
        rw [y.2]
        exact .ofInt
    · show j.toNat ≤ (intsD 0 j.toNat).length
      unfold intsD
      rw [List.length_map, List.length_range]
      exact Nat.le_refl _
def loopL (g : DG) (b : DS) (E : Ends2) : List D → St2 → Mu → Prop
  | [], d, m => E.nx d m
  | x :: xs, d, m => g x d m fun d' m' => b { E with nx := loopL g b E xs, ct := loopL g b E xs, bk := E.nx } d' m'
@[simp] def dFor (fi : DI) (g : DG) (b : DS) : DS := fun E d m => fi d m fun xs m1 => loopL g b E xs d m1
theorem ls_for {fi : DI} {g : DG} (hp : PassesOwn (model X.prog X.w) X.A X.env X.xe) (hc : X.calm = true) (hi : PI X tg iter (LI X.K fi)) (hg : PG X tg (LG X.K g)) (hb : PSs X body (LS X.K b))
    (hs : ∀ x, foldedSetIterable iter X.env x = pure x := by intro _; rfl) : PS X (.For tg iter body [] pos) (LS X.K (dFor fi g b)) := PS.imp (ps_for hp hc hi hg hb hs) fun E s H h => by
  obtain ⟨Z, d, m, R, ok, rs, h, kn, kr, kb, kc⟩ := h
  refine ⟨Z, d, m, _, ok, rs, h, fun xs m1 H1 J q e1 ok1 yl => ?_⟩
  refine ⟨fun i n s' H' => ∃ d' m', n = xs.length - i ∧ i ≤ xs.length ∧ Ext X.K Z m1 H1 m' H' ∧ Ok X.K Z m' H' ∧ RS X.K Z m' H' d' s' ∧ loopL g b R (xs.drop i) d' m', ⟨xs.length, d, m1, by simp, Nat.zero_le _, Ext.refl, ok1, rs.ext e1, by simpa using q⟩, ?_⟩
  rintro i n s2 H2 ⟨d2, m2, rfl, hi, e2, ok2, rs2, w⟩
  obtain ⟨y1, y2⟩ := yl m2 H2 e2.y
  by_cases hl : i < xs.length
  · rw [List.drop_eq_getElem_cons hl] at w
    obtain ⟨go, yd⟩ := y1 i xs[i] (List.getElem?_eq_getElem hl)
    refine .inr ⟨go, fun s' H' => ∃ d' m', Ext X.K Z m1 H1 m' H' ∧ Ok X.K Z m' H' ∧ RS X.K Z m' H' d' s' ∧ loopL g b R (xs.drop (i + 1)) d' m', fun s' H' ⟨d', m', g1, g2, g3, g4⟩ => ⟨xs.length - (i + 1), by omega, d', m', rfl, hl, g1, g2, g3, g4⟩, fun v H3 y => ?_⟩
    have yy := yd v H3 y
    have e2' := e2.trans (ok2.ext yy.same)
    refine ⟨Z, xs[i], d2, m2, _, ok2.grow yy.same, rs2.ext (ok2.ext yy.same), yy.rd (fun d v h => h.ext e2) ok2, w, fun d3 m3 s3 H3 q3 e3 ok3 rs3 => ?_⟩
    have e23 := e2'.trans e3
    have e13 := e1.trans e23
    exact ⟨Z, d3, m3, _, ok3, rs3, q3, fun d4 m4 s4 H4 q4 e4 ok4 rs4 => ⟨d4, m4, e23.trans e4, ok4, rs4, q4⟩, fun x m4 v H4 q4 e4 ok4 r4 => kr x m4 v H4 q4 (e13.trans e4) ok4 r4,
      fun d4 m4 s4 H4 q4 e4 ok4 rs4 => kn d4 m4 s4 H4 q4 (e13.trans e4) ok4 rs4, fun d4 m4 s4 H4 q4 e4 ok4 rs4 => ⟨d4, m4, e23.trans e4, ok4, rs4, q4⟩⟩
  · have e : i = xs.length := by omega
    subst e
    rw [List.drop_length] at w
    exact .inl ⟨y2, kn d2 m2 s2 H2 w (e1.trans e2) ok2 rs2⟩
end
end DL
set_option Elab.async false
set_option linter.all false
set_option maxRecDepth 100000
set_option maxHeartbeats 4000000
namespace DL
open PySem PySem.Spec PyProof.Rows L2
section
variable {prog : Program} {w : World} {A : Around} {E : Value → Shared → Prop} {s : Shared}
end
section
variable {X : Cx} {a e : Expr} {es : List Expr} {f : DE} {ga : DA} {pos p p1 p2 p3 p4 : Pos}
@[simp] def tyName : PyData → String
  | .none => "NoneType"
  | .bool _ => "bool"
  | .int _ => "int"
  | .str _ => "str"
  | .list _ => "list"
  | .tuple _ => "tuple"
  | .dict _ => "dict"
@[simp] def isK (q : PyData) (c : String) : Bool := tyName q == c || (tyName q == "bool" && c == "int")
theorem xk_inst {pins : List (Addr × Obj)} {σ : L2.St} {H : Hp} {s : Shared} {a C : Addr} {o : Obj} {u : HO} {fs : List (Str × V)} {dx : Option Addr} {ws : Array Value} {sl : Array (Option Value)} (I : Inv X pins σ H s) (h : H a = some (.frz o u))
    (h3 : o = ⟨.ref C, dx, .fields ws, sl⟩) (h5 : (dx = none ∧ fs = []) ∨ ∃ d od, dx = some d ∧ H d = some (.frz od (.xd fs))) : ∃ od, PySem.W.InstAt s.heap a o C od := by
  have g := (show ObjOk X.prog X.w H s.heap a (.frz o u) from I.hok a _ h).1
  subst h3
  rcases h5 with ⟨rfl, _⟩ | ⟨d, od, rfl, hd⟩
  · exact ⟨none, g, rfl, rfl, trivial⟩
  · exact ⟨some od, g, rfl, rfl, (show ObjOk X.prog X.w H s.heap d (.frz od (.xd fs)) from I.hok d _ hd).1⟩
theorem boot_isi : bootBuiltins "isinstance" = some (.builtin "isinstance") := by decide +kernel
def LSp (K : PySem.W.Frag) (n : Nat) (sp : DC) : Sp := fun vs H Q _ => ∃ Z ds m R, Ok K Z m H ∧ RDs K Z m H ds vs ∧ ds.length = n ∧ sp ds m R ∧ ∀ d m' v' H', R d m' → Ext K Z m H m' H' → Ok K Z m' H' → RD K Z m' H' d v' → Q v' H'
theorem LSp.len {K : PySem.W.Frag} {n : Nat} {sp : DC} {vs : List V} {H : Hp} {Q : VK} {E : XK} (h : LSp K n sp vs H Q E) : vs.length = n := by
  obtain ⟨Z, ds, m, R, _, rd, hl, _⟩ := h
  rw [rd.length]
  exact hl
@[simp] def dCall (n : Nat) (sp : DC) (g : DA) : DE := fun d m Q => g d m fun xs m1 => xs.length = n ∧ sp xs m1 Q
theorem le_call {k n : Nat} {fa : Addr} {fd : FuncData} {ps : List Str} {sp : DC} {x : Str} (F : FnOk X.prog X.w X.K X.mg X.base CX0 k fa fd ps (LSp X.K n sp)) (hr : Room k X.A) (hm : X.mg x = some (.ref fa)) (hk : PySem.W.keepIn X.K (.ref fa) = true)
    (hb : Binds X.K fd ps []) (hx : X.xe = fun _ _ => False) (ha : PA X (e :: es) (LA X.K ga)) (hg : Gl X x := by rfl) (hdb : (x == ("__debug__" : Str)) = false := by decide)
    (he : starEach (e :: es) X.env = (false, eval e X.env) :: starEach es X.env := by rfl) (hpl : (backTo pos (starEach es X.env)).any (·.1) = false := by rfl) : PE X (.Call (.Name x p) (e :: es) [] pos) (LE X.K (dCall n sp ga)) :=
  PE.imp (pe_call F hr hg hm hk hb .nil (pass0 (X := X)) ha hdb he hpl) fun s H Q h => by
    obtain ⟨Z, d, m, R, ok, rs, h, k⟩ := h
    refine ⟨Z, d, m, _, ok, rs, h, fun xs m1 vs H1 ⟨hl, q⟩ e1 ok1 rd => ⟨Z, xs, m1, R, ok1, by simpa using rd, hl, q, fun d' m' v' H' h1 h2 h3 h4 => k d' m' v' H' h1 (e1.trans h2) h3 h4⟩⟩
@[simp] def start2 (N : List Str) (ds : List D) : St2 := ds.map some ++ List.replicate (N.length - ds.length) none
theorem RDs.get {K : PySem.W.Frag} {Z : Addr → Prop} {m : Mu} {H : Hp} : ∀ {xs : List D} {vs : List V} {i : Nat} {x : D}, RDs K Z m H xs vs → xs[i]? = some x → ∃ v, vs[i]? = some v ∧ RD K Z m H x v
  | [], _, _, _, _, e => by simp at e
  | _ :: _, _, 0, x, ⟨v, r, h1, h2, _⟩, e => by
    simp at e
    subst h1 e
    exact ⟨v, rfl, h2⟩
  | _ :: xs, _, i + 1, x, ⟨v, r, h1, _, h3⟩, e => by
    obtain ⟨u, q1, q2⟩ := RDs.get (i := i) (x := x) h3 (by simpa using e)
    subst h1
    exact ⟨u, by simpa using q1, q2⟩
theorem rs_start {K : PySem.W.Frag} {Z : Addr → Prop} {m : Mu} {H : Hp} {N : List Str} {ds : List D} {vs : List V} (h : RDs K Z m H ds vs) : RS K Z m H (start2 N ds) (start N vs) := by
  have hl := h.length
  refine ⟨?_, fun i x hx => ?_⟩
  · unfold start2 L2.start
    rw [List.length_append, List.length_append, List.length_map, List.length_map, List.length_replicate, List.length_replicate, hl]
  · unfold start2 at hx
    by_cases hi : i < ds.length
    · rw [List.getElem?_append_left (by simpa using hi), List.getElem?_map] at hx
      cases e : ds[i]? with
      | none => rw [e] at hx; cases hx
      | some y =>
        rw [e] at hx
        cases hx
        obtain ⟨v, q1, q2⟩ := h.get e
        refine ⟨v, ?_, q2⟩
        unfold L2.start
        rw [List.getElem?_append_left (by rw [List.length_map, hl]; exact hi), List.getElem?_map, q1]
        rfl
    · rw [List.getElem?_append_right (by simpa using hi), List.getElem?_replicate] at hx
      split at hx <;> cases hx
end
section
variable {P : Program} {w : World} {K : PySem.W.Frag} {mg : Str → Option Value} {base : Heap}
theorem fn_body {x qual : Str} {st : Stmt} {fa : Addr} {fd : FuncData} {N ps : List Str} {k : Nat} {sp : DC} {body : DS} (F : Fun K x qual st fa fd) (S : FnScope N ps (defScope st))
    (hb : ∀ (cdv : Value) (A : Around) (outer : List Env) (s : Shared) (H : Hp) (E : XK), Room k (A.deeper (envOfC qual (defScope st) s.heap.objs.size fa cdv)) →
      PSs (cxOf CX0 P w K mg base N qual (defScope st) fa cdv A outer s H E).nox (defBody st) (LS K body))
    (hv : ∀ ds m R, ds.length = ps.length → sp ds m R → body { nx := fun _ m => R (.dat .none) m, rt := R } (start2 N ds) m) : FnOk P w K mg base CX0 (k + 1) fa fd ps (LSp K ps.length sp) := by
  refine F.ok S (fun vs H Q E h => h.len) (fun cdv A outer s H vs Q E hr h => ?_)
  obtain ⟨Z, ds, m, R, ok, rd, hl, h, kk⟩ := h
  refine ⟨_, hb cdv A outer s H E hr, Z, start2 N ds, m, _, ok, rs_start rd, hv ds m R hl h, ?_, ?_, ?_, ?_⟩
  · intro d' m' s' H' q e1 ok1 _
    exact kk _ m' _ H' q e1 ok1 (by simp only [RD, RP])
  · exact fun x m' v H' q e1 ok1 r1 => kk x m' v H' q e1 ok1 r1
  · exact fun _ _ _ _ q _ _ _ => q.elim
  · exact fun _ _ _ _ q _ _ _ => q.elim
end
end DL
set_option Elab.async false
set_option linter.all false
set_option maxRecDepth 100000
set_option maxHeartbeats 4000000
namespace L2
open PySem
theorem Room.u100 {k : Nat} {A : Around} (r : Room k A) : A.units + 100 < cLine := by have := r.un; omega
theorem Room.u200 {k : Nat} {A : Around} (r : Room k A) : A.units + 200 < cLine := by have := r.un; omega
end L2
namespace DL
open PySem PySem.Spec PyProof.Rows L2
theorem boot_len_ : bootBuiltins "len" = some (.builtin "len") := by decide +kernel
theorem boot_repr_ : bootBuiltins "repr" = some (.builtin "repr") := by decide +kernel
theorem boot_tuple_ : bootBuiltins "tuple" = some (.type "tuple") := by decide +kernel
end DL
set_option Elab.async false
set_option linter.all false
set_option maxRecDepth 100000
set_option maxHeartbeats 4000000
namespace DL
open PySem PySem.Spec PyProof.Rows L2
theorem rps_ints {K : PySem.W.Frag} {Z : Addr → Prop} {m : Mu} {H : Hp} : ∀ ns : List Int, RPs K Z m H (ns.map PyData.int) (ns.map V.int)
  | [] => by simp [RPs]
  | n :: ns => by
    simp only [List.map_cons, RPs]
    exact ⟨_, _, rfl, by simp only [RP], rps_ints ns⟩
theorem lsp_law {K : PySem.W.Frag} {sp : DC} {H : Hp} {a : Addr} {ns : List Int} {E : XK} (hS : SqL K H a (ns.map V.int)) (h : sp [.dat (.list (ns.map .int))] (fun _ => none) (fun d _ => d = .dat (.bool true))) : LSp K 1 sp [.ref a] H (fun v _ => v = .bl true) E := by
  have ok : Ok K (fun _ => False) (fun _ => none) H := ⟨fun b ds e => (by cases e), fun _ z => False.elim z⟩
  refine ⟨fun _ => False, [.dat (.list (ns.map .int))], fun _ => none, fun d _ => d = .dat (.bool true), ok, ⟨.ref a, [], rfl, ?_, rfl⟩, rfl, h, ?_⟩
  · simp only [RD, RP]
    exact ⟨a, _, rfl, by first | exact ⟨rfl, fun z => z⟩ | simp, hS, rps_ints ns⟩
  · rintro d m' v' H' rfl _ _ r
    simpa only [RD, RP] using r
end DL
set_option Elab.async false
set_option linter.all false
set_option maxRecDepth 100000
set_option maxHeartbeats 4000000
namespace DL
open PySem PySem.Spec PyProof.Rows L2
theorem closure_go (env : Env) : ∀ (names : List (Str × NameKind)) (cs : List (Str × Addr)), (∀ x, (x, NameKind.free) ∈ names → ∃ c, env.cells.lookup x = some c) → (∀ p ∈ cs, env.cells.lookup p.1 = some p.2) →
    ∃ cl : List (Str × Addr), (forIn names cs (fun (x : Str × NameKind) (r : List (Str × Addr)) => (if (x.2 == .free) = true then (do let c ← cellOf env x.1; pure (ForInStep.yield ((x.1, c) :: r))) else pure (ForInStep.yield r) : Sem (ForInStep (List (Str × Addr)))))) = pure cl ∧
      (∀ p ∈ cl, env.cells.lookup p.1 = some p.2) ∧ (∀ p ∈ cs, p ∈ cl) ∧ ∀ x, (x, NameKind.free) ∈ names → ∃ c, (x, c) ∈ cl
  | [], cs, _, h => ⟨cs, rfl, h, fun _ z => z, fun x z => nomatch z⟩
  | (n, k) :: r, cs, hf, h => by
    by_cases hk : k = .free
    · subst hk
      obtain ⟨c, hc⟩ := hf n List.mem_cons_self
      obtain ⟨cl, e, h1, h2, h3⟩ := closure_go env r ((n, c) :: cs) (fun x hx => hf x (List.mem_cons_of_mem _ hx)) (fun p hp => by
        rcases List.mem_cons.mp hp with rfl | hp
        · exact hc
        · exact h p hp)
      refine ⟨cl, ?_, h1, fun p hp => h2 p (List.mem_cons_of_mem _ hp), fun x hx => ?_⟩
      · rw [List.forIn_cons]
        have e2 : cellOf env n = pure c := by unfold cellOf; rw [hc]
        simp only [beq_self_eq_true, if_true, e2, pure_bind]
        exact e
      · rcases List.mem_cons.mp hx with z | hx
        · cases z
          exact ⟨c, h2 _ List.mem_cons_self⟩
        · exact h3 x hx
    · obtain ⟨cl, e, h1, h2, h3⟩ := closure_go env r cs (fun x hx => hf x (List.mem_cons_of_mem _ hx)) h
      refine ⟨cl, ?_, h1, h2, fun x hx => ?_⟩
      · rw [List.forIn_cons]
        have e2 : (k == NameKind.free) = false := by simpa using hk
        simp only [e2, Bool.false_eq_true, if_false, pure_bind]
        exact e
      · rcases List.mem_cons.mp hx with z | hx
        · cases z
          exact absurd rfl hk
        · exact h3 x hx
theorem closure_of {scope : Scope} {env : Env} (hf : ∀ x, (x, NameKind.free) ∈ scope.names → ∃ c, env.cells.lookup x = some c) :
    ∃ cl : List (Str × Addr), closureFor scope env = pure cl ∧ (∀ p ∈ cl, env.cells.lookup p.1 = some p.2) ∧ ∀ x, (x, NameKind.free) ∈ scope.names → ∃ c, (x, c) ∈ cl := by
  obtain ⟨cl, e, h1, _, h3⟩ := closure_go env scope.names [] hf (fun _ z => nomatch z)
  refine ⟨cl, ?_, h1, h3⟩
  unfold closureFor
  first
    | exact e
    | (show (do let cs ← forIn scope.names ([] : List (Str × Addr)) _; pure cs : Sem _) = _; rw [e]; rfl)
    | (simp only []; rw [e]; rfl)
section
variable {prog : Program} {w : World} {A : Around} {R : Result → Shared → Prop} {s : Shared}
theorem comp_loop {elt target iter : Expr} {ifs : List Expr} {scope : Scope} {pos : Pos} {it acc : Value} {env : Env} (I : Nat → Shared → Prop)
    (turn : ∀ n s, I n s → wpAny (model prog w) A (pyNext it) (fun r s₁ => match r with
      | none => R (.ok .next) s₁
      | some v => wpAny (model prog w) A (letOwnedTupleGo target it v) (fun _ s₀ => wpAny (model prog w) A (assign target env v) (fun _ s₂ =>
          wpAny (model prog w) A (forIn ifs true fun c r => if r = true then do let ok ← isTrue c env (eval c env); pure (ForInStep.yield ok) else pure (ForInStep.yield r)) (fun ok s₃ =>
            if ok = true then wpAny (model prog w) A (eval elt env) (fun x s₄ =>
              wpAny (model prog w) A (call (.builtin "list.append") [acc, x]) (fun _ s₅ => ∃ m, m < n ∧ I m s₅) (fun _ _ => False) s₄) (fun _ _ => False) s₃
            else ∃ m, m < n ∧ I m s₃) (fun _ _ => False) s₂) (fun _ _ => False) s₀) (fun _ _ => False) s₁) (fun _ _ => False) s)
    (n : Nat) (h : I n s) :
    codeAny (model prog w) A (.compLoop (.ListComp elt [⟨target, iter, ifs, 0⟩] scope pos) 0 it acc env) R s := by
  have ff : ∀ {E : Value → Shared → Prop} (x : Value) (s : Shared), False → E x s := fun _ _ z => z.elim
  refine codeAny_loop rfl I (fun n s hI => ?_) n h
  show wpAny _ A ((compTurn (.ListComp elt [⟨target, iter, ifs, 0⟩] scope pos) 0 it acc env).onRaise (fun x => do noteFrame x env; theTreesLotGoes x)) _ _ s
  refine wpAny_noted ?_
  rw [compTurn_list]
  refine wpAny_bind (wpAny_standAt (wpAny_bind (wpAny_mono (turn n s hI) (fun r s₁ h₁ => ?_) ff)))
  cases r with
  | none => exact wpAny_pure h₁
  | some v =>
    refine wpAny_bind (wpAny_mono h₁ (fun _ s₀ h₀ => ?_) ff)
    refine wpAny_bind (wpAny_mono h₀ (fun _ s₂ h₂ => wpAny_bind (wpAny_mono h₂ (fun ok s₃ h₃ => ?_) ff)) ff)
    cases ok with
    | true =>
      simp only [if_true] at h₃ ⊢
      refine wpAny_bind (wpAny_bind (wpAny_mono h₃ (fun x s₄ h₄ => wpAny_bind (wpAny_mono h₄ (fun _ s₅ h₅ => wpAny_pure (wpAny_pure ⟨rfl, h₅⟩)) ff)) ff))
    | false =>
      simp only [Bool.false_eq_true, if_false] at h₃ ⊢
      exact wpAny_pure ⟨rfl, h₃⟩
end
end DL
set_option Elab.async false
set_option linter.all false
set_option maxRecDepth 100000
set_option maxHeartbeats 4000000
namespace DL
open PySem PySem.Spec PyProof.Rows L2
def cyOf (X : Cx) (scope : Scope) (cl : List (Str × Addr)) (C : Addr) (NC : List Str) (s2 : Shared) (H2 : Hp) (pins : List (Addr × Obj)) (fp : List Addr) : Cx where
  prog := X.prog
  w := X.w
  K := X.K
  mg := X.mg
  base := X.base
  A := X.A
  N := NC
  s₀ := s2
  H₀ := H2
  env := compEnvC scope cl C X.env
  outer := X.stack
  stack := X.stack
  ex := fp
  fn := fun _ => false
  calm := X.calm
  pn := X.pn ++ pins
  xe := fun _ _ => False
theorem mem_of_lookup' {cl : List (Str × Addr)} {x : Str} {c : Addr} (h : cl.lookup x = some c) : (x, c) ∈ cl := PySem.mem_of_lookup h
theorem lookup_of_mem' {cl : List (Str × Addr)} {x : Str} : ∀ {c : Addr}, (x, c) ∈ cl → ∃ c', cl.lookup x = some c' := by
  induction cl with
  | nil => intro c h; cases h
  | cons p r ih =>
    intro c h
    rw [List.lookup_cons]
    cases hx : x == p.1 with
    | true => exact ⟨_, rfl⟩
    | false =>
      rcases List.mem_cons.mp h with e | h
      · subst e
        simp at hx
      · exact ih h
theorem relabel_free {env : Env} : ∀ {names : List (Str × NameKind)} {x : Str}, (∀ y ∈ names, y.2 ≠ .cell) →
    ((names.map fun (n, k) => if (k == NameKind.free && env.scope.kind == .function && env.kindOf n == some .cell) then (n, NameKind.cell) else (n, k)).lookup x = some .cell ∨
     (names.map fun (n, k) => if (k == NameKind.free && env.scope.kind == .function && env.kindOf n == some .cell) then (n, NameKind.cell) else (n, k)).lookup x = some .free) → (x, NameKind.free) ∈ names
  | [], x, _, h => by simp at h
  | (n, k) :: r, x, hc, h => by
    have ih := @relabel_free env r x (fun y hy => hc y (List.mem_cons_of_mem _ hy))
    by_cases hk : (k == NameKind.free && env.scope.kind == .function && env.kindOf n == some .cell) = true
    · have kf : k = .free := by
        rw [Bool.and_eq_true, Bool.and_eq_true] at hk
        exact eq_of_beq hk.1.1
      subst kf
      simp only [List.map_cons, hk, if_true, List.lookup_cons] at h
      cases hx : x == n with
      | true =>
        have : x = n := eq_of_beq hx
        subst this
        exact List.mem_cons_self
      | false =>
        simp only [hx] at h
        exact List.mem_cons_of_mem _ (ih h)
    · have hk' : (k == NameKind.free && env.scope.kind == .function && env.kindOf n == some .cell) = false := by simpa using hk
      simp only [List.map_cons, hk', Bool.false_eq_true, if_false, List.lookup_cons] at h
      cases hx : x == n with
      | true =>
        have : x = n := eq_of_beq hx
        subst this
        simp only [hx] at h
        have hne := hc (x, k) List.mem_cons_self
        rcases h with h | h
        · exact absurd (Option.some.inj h) hne
        · have : k = .free := Option.some.inj h
          subst this
          exact List.mem_cons_self
      | false =>
        simp only [hx] at h
        exact List.mem_cons_of_mem _ (ih h)
section
variable {X : Cx} {pins : List (Addr × Obj)} {σ : L2.St} {H2 : Hp} {s2 : Shared} {scope : Scope} {cl : List (Str × Addr)} {NC : List Str} {fp : List Addr} {C : Addr}
theorem cy_ok (I2 : Inv X pins σ H2 s2) (hf : ∀ b ∈ fp, FpOk X pins H2 b) (hob : ∀ b ∈ fp, ∃ o, s2.heap.get? b = some o ∧ ∀ v, o.data ≠ .cell v) (hkind : scope.kind = .function) (hcell : ∀ y ∈ scope.names, y.2 ≠ .cell)
    (hcl1 : ∀ p ∈ cl, X.env.cells.lookup p.1 = some p.2) (hcl2 : ∀ x, (x, NameKind.free) ∈ scope.names → ∃ c, (x, c) ∈ cl) (hC : s2.heap.objs.size ≤ C) : (cyOf X scope cl C NC s2 H2 pins fp).Ok := by
  have lk : ∀ x c, cl.lookup x = some c → X.env.cells.lookup x = some c := fun x c h => hcl1 (x, c) (mem_of_lookup' h)
  refine ⟨I2.ok.mod, hkind, I2.ok.glob, I2.ok.blt, hC, fun x y c h1 h2 => I2.ok.inj x y c (lk x c h1) (lk y c h2), fun x hx => ?_, fun x c h => absurd (show false = true from h) Bool.false_ne_true, I2.ok.hd, I2.ok.frames, .inl rfl, fun b hb => ⟨?_, fun x c h => ?_⟩, fun b o e => I2.bs b o e,
    Nat.le_trans I2.ok.bsz I2.sz, fun b o e hb => ?_, fun b hb hs => ?_, I2.stack, I2.stkFree⟩
  · obtain ⟨c, hc⟩ := hcl2 x (relabel_free (env := X.env) hcell hx)
    exact lookup_of_mem' hc
  · obtain ⟨o, ho, _⟩ := hob b hb
    exact Nat.ne_of_lt (Nat.lt_of_lt_of_le (Heap.lt_size ho) hC)
  · exact (hf b hb).2.2.2.2.1 x c (lk x c h)
  · rcases (hf b hb).2.2.2.1 with z | z
    · exact I2.ok.noex b o e z
    · exact absurd (Nat.lt_of_lt_of_le (Heap.lt_size e) (Nat.le_trans I2.ok.bsz z)) (Nat.lt_irrefl _)
  · rcases List.mem_cons.mp (I2.stkSub b hs) with z | z
    · exact (hf b hb).2.1 z
    · exact (hf b hb).2.2.1 z
theorem cy_startG {o0 : HO} {σ' : L2.St} {h₁ : Heap} {tk : Nat} {mm : Str → Option Value} (I2 : Inv X pins σ H2 s2) (hf : ∀ b ∈ fp, FpOk X pins H2 b) (hob : ∀ b ∈ fp, ∃ o, s2.heap.get? b = some o ∧ ∀ v, o.data ≠ .cell v) (hkind : scope.kind = .function) (hcell : ∀ y ∈ scope.names, y.2 ≠ .cell)
    (hcl1 : ∀ p ∈ cl, X.env.cells.lookup p.1 = some p.2) (hcl2 : ∀ x, (x, NameKind.free) ∈ scope.names → ∃ c, (x, c) ∈ cl)
    (hlen : σ'.length = NC.length) (hσ : ∀ (i : Nat) (x : Str) (v : V), NC[i]? = some x → σ'[i]? = some (some v) → Vis (relabel scope X.env) x → ((relabel scope X.env).names.lookup x = some .cell ∨ (relabel scope X.env).names.lookup x = some .free) ∧ (X.env.kindOf x = some .cell ∨ X.env.kindOf x = some .free) ∧ ∃ j : Nat, X.N[j]? = some x ∧ σ[j]? = some (some v))
    (hC : C = s2.heap.objs.size + 1) (hns : h₁.Ns C mm) (hk : ∀ b u, s2.heap.get? b = some u → h₁.get? b = some u)
    (hO : ObjOk X.prog X.w (upd H2 s2.heap.objs.size o0) h₁ s2.heap.objs.size o0) :
    Inv (cyOf X scope cl C NC s2 H2 pins fp) [] σ' (upd H2 s2.heap.objs.size o0) { s2 with heap := h₁, toks := tk } := by
  have lk : ∀ x c, cl.lookup x = some c → X.env.cells.lookup x = some c := fun x c h => hcl1 (x, c) (mem_of_lookup' h)
  have hn : H2 s2.heap.objs.size = none := I2.hok.fresh (Nat.le_refl _)
  have le1 : s2.heap.objs.size ≤ C := by rw [hC]; exact Nat.le_succ _
  have ne1 : C ≠ s2.heap.objs.size := by rw [hC]; exact Nat.succ_ne_self _
  have hCn : H2 C = none := I2.hok.fresh le1
  have neD : ∀ b o, s2.heap.get? b = some o → b ≠ s2.heap.objs.size := fun b o e => Nat.ne_of_lt (Heap.lt_size e)
  refine ⟨cy_ok I2 hf hob hkind hcell hcl1 hcl2 le1, rfl, I2.bare, Un.laid hk (Nat.le_refl _) hn, ⟨mm, hns, fun i x v h1 h2 h3 => ?_⟩, fun x c h => ?_, ?_, fun x c h => ?_, fun p hp => ?_, ?_, hlen⟩
  · obtain ⟨hy, hx, j, hj, hv⟩ := hσ i x v h1 h2 h3
    obtain ⟨m, hnX, hl⟩ := I2.loc
    have vis : Vis X.env.scope x := by rcases hx with z | z; exact .inr (.inl z); exact .inr (.inr z)
    obtain ⟨u, r, l⟩ := hl j x v hj hv vis
    refine ⟨u, r, .inr ⟨hy, ?_⟩⟩
    obtain ⟨c', hc'⟩ := hcl2 x (relabel_free (env := X.env) hcell hy)
    obtain ⟨c, hc⟩ := lookup_of_mem' hc'
    refine ⟨c, hc, ?_⟩
    rcases l with ⟨z, _⟩ | ⟨_, c2, e2, o, ho, hd⟩
    · rcases hx with q | q
      · rw [z] at q; cases q
      · rw [z] at q; cases q
    · have := lk x c hc
      rw [e2] at this
      cases this
      exact ⟨o, hk _ o ho, hd⟩
  · obtain ⟨v, o, ho, hd⟩ := I2.cell x c (lk x c h)
    exact ⟨v, o, hk _ o ho, hd⟩
  · show upd H2 s2.heap.objs.size o0 C = none
    rw [upd_ne ne1]
    exact hCn
  · obtain ⟨v, o, ho, hd⟩ := I2.cell x c (lk x c h)
    rw [upd_ne (neD c o ho)]
    exact I2.freeC x c (lk x c h)
  · have hp' : p ∈ X.pn ++ pins := by
      rcases List.mem_append.mp hp with z | z
      · exact z
      · cases z
    obtain ⟨e, n, ne, nf, d⟩ := I2.pin p hp'
    refine ⟨hk _ _ e, by rw [upd_ne (neD _ _ e)]; exact n, ?_, fun z => ?_, d⟩
    · show p.1 ≠ C
      exact Nat.ne_of_lt (Nat.lt_of_lt_of_le (Heap.lt_size e) le1)
    · rcases List.mem_cons.mp (I2.stkSub p.1 z) with q | q
      · exact ne q
      · exact nf q
  · exact I2.hok.laid hk (Nat.le_refl _) hO
theorem cy_start {σ' : L2.St} {h₁ : Heap} {tk : Nat} {mm : Str → Option Value} (I2 : Inv X pins σ H2 s2) (hf : ∀ b ∈ fp, FpOk X pins H2 b) (hob : ∀ b ∈ fp, ∃ o, s2.heap.get? b = some o ∧ ∀ v, o.data ≠ .cell v) (hkind : scope.kind = .function) (hcell : ∀ y ∈ scope.names, y.2 ≠ .cell)
    (hcl1 : ∀ p ∈ cl, X.env.cells.lookup p.1 = some p.2) (hcl2 : ∀ x, (x, NameKind.free) ∈ scope.names → ∃ c, (x, c) ∈ cl)
    (hlen : σ'.length = NC.length) (hσ : ∀ (i : Nat) (x : Str) (v : V), NC[i]? = some x → σ'[i]? = some (some v) → Vis (relabel scope X.env) x → ((relabel scope X.env).names.lookup x = some .cell ∨ (relabel scope X.env).names.lookup x = some .free) ∧ (X.env.kindOf x = some .cell ∨ X.env.kindOf x = some .free) ∧ ∃ j : Nat, X.N[j]? = some x ∧ σ[j]? = some (some v))
    (hC : C = s2.heap.objs.size + 1) (hns : h₁.Ns C mm) (hk : ∀ b u, s2.heap.get? b = some u → h₁.get? b = some u)
    (hD : h₁.get? s2.heap.objs.size = some { cls := .type "list", data := .seq ([] : List Value).toArray }) :
    Inv (cyOf X scope cl C NC s2 H2 pins fp) [] σ' (upd H2 s2.heap.objs.size (.lst [])) { s2 with heap := h₁, toks := tk } :=
  cy_startG I2 hf hob hkind hcell hcl1 hcl2 hlen hσ hC hns hk ⟨Nat.zero_le _, [], 0, .nil, hD⟩
theorem cy_end {py : List (Addr × Obj)} {σ'' : L2.St} {H' : Hp} {s' : Shared} {h' : Heap} (I2 : Inv X pins σ H2 s2) (hf : ∀ b ∈ fp, FpOk X pins H2 b) (Iy : Inv (cyOf X scope cl C NC s2 H2 pins fp) py σ'' H' s') (hC : s2.heap.objs.size ≤ C) (hs : Heap.SameBut C s'.heap h') :
    Inv X pins σ H' { s' with heap := h' } := by
  have u : Un (frs X.stack) fp H2 H' s2.heap s'.heap := Iy.base
  have neC : ∀ b o, s2.heap.get? b = some o → b ≠ C := fun b o e => Nat.ne_of_lt (Nat.lt_of_lt_of_le (Heap.lt_size e) hC)
  have fC : H' C = none := Iy.free
  refine I2.call' (s' := { s' with heap := h' }) (ch := fp) Iy.os ⟨fun b o e n hb hx => (hs.2 b (neC b o e)).trans (u.keep b o e n hb hx), fun b o e n hb hx => ?_, u.free, fun b o e hx => ?_, u.tups, u.frzs, u.tbls⟩ (fun b o e => ?_) Iy.bare fun b hb => ?_
  · obtain ⟨sl, q⟩ := u.slot b o e n hb hx
    exact ⟨sl, (hs.2 b (neC b o e)).trans q⟩
  · obtain ⟨o', q⟩ := u.there b o e hx
    exact ⟨o', (hs.2 b (neC b o e)).trans q⟩
  · refine (Iy.hok b o e).stay (fun c v hc q => (hs.2 c ?_).trans q) (fun _ q => q) (fun _ _ q => q) fun _ _ _ q => q
    rintro rfl
    rcases hc with rfl | hc
    · rw [fC] at e; cases e
    · rw [fC] at hc; cases hc
  · obtain ⟨_, f1, _, f3, f4, f5⟩ := hf b hb
    exact ⟨f3, f1, f4, f5⟩
end
end DL
set_option Elab.async false
set_option linter.all false
set_option maxRecDepth 100000
set_option maxHeartbeats 4000000
namespace DL
open PySem PySem.Spec PyProof.Rows L2
section
variable {K : PySem.W.Frag} {Z Y : Addr → Prop} {m m' : Mu} {H H' : Hp}
mutual
/-- data elsewhere -/
theorem RP.tr0 (ht : ∀ a vs, SqT K H a vs → SqT K H' a vs) (hl : ∀ a vs, (m a = none ∧ ¬ Z a) → SqL K H a vs → (m' a = none ∧ ¬ Y a) ∧ SqL K H' a vs) (hf : ∀ a o u, H a = some (.frz o u) → H' a = some (.frz o u)) : ∀ (p : PyData) (v : V), RP K Z m H p v → RP K Y m' H' p v
  | .none, v, h => by simpa only [RP] using h
  | .bool _, v, h => by simpa only [RP] using h
  | .int _, v, h => by simpa only [RP] using h
  | .str _, v, h => by simpa only [RP] using h
  | .tuple xs, v, h => by
    simp only [RP] at h ⊢
    obtain ⟨a, vs, h1, h2, h3⟩ := h
    exact ⟨a, vs, h1, ht a vs h2, RPs.tr0 ht hl hf xs vs h3⟩
  | .list xs, v, h => by
    simp only [RP] at h ⊢
    obtain ⟨a, vs, h1, h2, h3, h4⟩ := h
    obtain ⟨q1, q2⟩ := hl a vs h2 h3
    exact ⟨a, vs, h1, q1, q2, RPs.tr0 ht hl hf xs vs h4⟩
  | .dict kvs, v, h => by
    simp only [RP] at h ⊢
    obtain ⟨a, o, u, vs, h1, h2, h3, h4⟩ := h
    exact ⟨a, o, u, vs, h1, hf a o u h2, h3.tr hf, RPd.tr0 ht hl hf kvs _ h4⟩
theorem RPd.tr0 (ht : ∀ a vs, SqT K H a vs → SqT K H' a vs) (hl : ∀ a vs, (m a = none ∧ ¬ Z a) → SqL K H a vs → (m' a = none ∧ ¬ Y a) ∧ SqL K H' a vs) (hf : ∀ a o u, H a = some (.frz o u) → H' a = some (.frz o u)) : ∀ (xs : List (PyData × PyData)) (vs : List (PyData × V)), RPd K Z m H xs vs → RPd K Y m' H' xs vs
  | [], vs, h => by simpa only [RPd] using h
  | (k, p) :: xs, vs, h => by
    simp only [RPd] at h ⊢
    obtain ⟨v, r, h1, h2, h3⟩ := h
    exact ⟨v, r, h1, RP.tr0 ht hl hf p v h2, RPd.tr0 ht hl hf xs r h3⟩
theorem RPs.tr0 (ht : ∀ a vs, SqT K H a vs → SqT K H' a vs) (hl : ∀ a vs, (m a = none ∧ ¬ Z a) → SqL K H a vs → (m' a = none ∧ ¬ Y a) ∧ SqL K H' a vs) (hf : ∀ a o u, H a = some (.frz o u) → H' a = some (.frz o u)) : ∀ (xs : List PyData) (vs : List V), RPs K Z m H xs vs → RPs K Y m' H' xs vs
  | [], vs, h => by simpa only [RPs] using h
  | x :: xs, vs, h => by
    simp only [RPs] at h ⊢
    obtain ⟨v, r, h1, h2, h3⟩ := h
    exact ⟨v, r, h1, RP.tr0 ht hl hf x v h2, RPs.tr0 ht hl hf xs r h3⟩
end
theorem RP.tr (ht : ∀ a vs, SqT K H a vs → SqT K H' a vs) (hl : ∀ a vs, (m a = none ∧ ¬ Z a) → SqL K H a vs → (m' a = none ∧ ¬ Y a) ∧ SqL K H' a vs) (p : PyData) (v : V) (h : RP K Z m H p v) (hf : ∀ a o u, H a = some (.frz o u) → H' a = some (.frz o u) := by first | exact fun _ _ _ q => q | exact Ext.fz ‹_› | (intro a o u q; first | (rw [upd_ne (by rintro rfl; simp_all)]; exact q) | (unfold upd; split <;> simp_all))) : RP K Y m' H' p v := RP.tr0 ht hl hf p v h
theorem RPs.tr (ht : ∀ a vs, SqT K H a vs → SqT K H' a vs) (hl : ∀ a vs, (m a = none ∧ ¬ Z a) → SqL K H a vs → (m' a = none ∧ ¬ Y a) ∧ SqL K H' a vs) (p : List PyData) (v : List V) (h : RPs K Z m H p v) (hf : ∀ a o u, H a = some (.frz o u) → H' a = some (.frz o u) := by first | exact fun _ _ _ q => q | exact Ext.fz ‹_› | (intro a o u q; first | (rw [upd_ne (by rintro rfl; simp_all)]; exact q) | (unfold upd; split <;> simp_all))) : RPs K Y m' H' p v := RPs.tr0 ht hl hf p v h
def rsv (Z : Addr → Prop) (D : Addr) : Addr → Prop := fun a => Z a ∨ a = D
variable {D : Addr} {ys zs : List V}
theorem tr_new_l (hD : H D = none) (hk : K.lookup D = none) : ∀ a vs, (m a = none ∧ ¬ Z a) → SqL K H a vs → (m a = none ∧ ¬ rsv Z D a) ∧ SqL K (upd H D (.lst ys)) a vs := fun a vs h1 h2 =>
  ⟨⟨h1.1, fun z => z.elim h1.2 (SqL.ne hD hk h2)⟩, (same_new hD).seq h2⟩
theorem tr_put_t (hD : H D = some (.lst ys)) : ∀ a vs, SqT K H a vs → SqT K (upd H D (.lst zs)) a vs := fun b xs h => by
  rcases h with (h | ⟨o, h⟩) | h
  · have ne : b ≠ D := by rintro rfl; rw [hD] at h; cases h
    exact .inl (.inl (by rw [upd_ne ne]; exact h))
  · have ne : b ≠ D := by rintro rfl; rw [hD] at h; cases h
    exact .inl (.inr ⟨o, by rw [upd_ne ne]; exact h⟩)
  · exact .inr h
theorem sql_put {a : Addr} {vs : List V} (ne : a ≠ D) (h : SqL K H a vs) : SqL K (upd H D (.lst zs)) a vs := by
  rcases h with (h | ⟨o, h⟩) | h
  · exact .inl (.inl (by rw [upd_ne ne]; exact h))
  · exact .inl (.inr ⟨o, by rw [upd_ne ne]; exact h⟩)
  · exact .inr h
theorem tr_put_l : ∀ a vs, (m a = none ∧ ¬ rsv Z D a) → SqL K H a vs → (m a = none ∧ ¬ rsv Z D a) ∧ SqL K (upd H D (.lst zs)) a vs := fun a vs h1 h2 =>
  ⟨h1, sql_put (fun e => h1.2 (.inr e)) h2⟩
end
section
variable {K : PySem.W.Frag} {Z : Addr → Prop} {m m1 m' : Mu} {H H1 H' : Hp} {D : Addr} {ys zs : List V}
theorem rd_new {x : DL.D} {v : V} (hD : H D = none) (hk : K.lookup D = none) (h : RD K Z m H x v) : RD K (rsv Z D) m (upd H D (.lst ys)) x v := by
  cases x with
  | dat p => exact RP.tr (fun a vs q => SqT.same (same_new hD) q) (tr_new_l hD hk) p v h
  | cel a => exact h
theorem rd_put {x : DL.D} {v : V} (hD : H D = some (.lst ys)) (h : RD K (rsv Z D) m H x v) : RD K (rsv Z D) m (upd H D (.lst zs)) x v := by
  cases x with
  | dat p => exact RP.tr (tr_put_t hD) tr_put_l p v h
  | cel a => exact h
theorem ok_new (ok : Ok K Z m H) (hD : H D = none) (hk : K.lookup D = none) : Ok K (rsv Z D) m (upd H D (.lst ys)) := by
  refine ⟨fun a c h => ?_, fun a h => ?_⟩
  · obtain ⟨o, h1, h2⟩ := ok.g a c h
    have ne : a ≠ D := by rintro rfl; rw [hD] at h1; cases h1
    exact ⟨o, by rw [upd_ne ne]; exact h1, h2.lift fun p v q => RP.tr (fun a vs q => SqT.same (same_new hD) q) (tr_new_l hD hk) p v q⟩
  · rcases h with h | h
    · have ne : a ≠ D := by rintro rfl; exact (ok.z a h).2 hD
      exact ⟨(ok.z a h).1, by rw [upd_ne ne]; exact (ok.z a h).2⟩
    · subst h
      exact ⟨(ok_none ok hD).1, by rw [upd_same]; intro z; cases z⟩
theorem ok_put2 (ok : Ok K (rsv Z D) m H) (hD : H D = some (.lst ys)) : Ok K (rsv Z D) m (upd H D (.lst zs)) := by
  refine ⟨fun a c h => ?_, fun a h => ?_⟩
  · obtain ⟨o, h1, h2⟩ := ok.g a c h
    have ne : a ≠ D := by
      rintro rfl
      have := (ok.z a (.inr rfl)).1
      rw [h] at this
      cases this
    exact ⟨o, by rw [upd_ne ne]; exact h1, h2.lift fun p v q => RP.tr (tr_put_t hD) tr_put_l p v q⟩
  · by_cases e : a = D
    · subst e
      exact ⟨(ok.z a h).1, by rw [upd_same]; intro z; cases z⟩
    · exact ⟨(ok.z a h).1, by rw [upd_ne e]; exact (ok.z a h).2⟩
theorem ok_out (ok : Ok K (rsv Z D) m H) : Ok K Z m H := by
  refine ⟨fun a c h => ?_, fun a h => ok.z a (.inl h)⟩
  obtain ⟨o, h1, h2⟩ := ok.g a c h
  exact ⟨o, h1, h2.lift fun p v q => RP.tr (fun _ _ q => q) (fun a vs q1 q2 => ⟨⟨q1.1, fun z => q1.2 (.inl z)⟩, q2⟩) p v q⟩
theorem ext_inner (e : Ext K Z m1 H1 m H) (hD : H1 D = none) (hk : K.lookup D = none) (e2 : Ext K (rsv Z D) m H m' H') : Ext K Z m1 H1 m' H' :=
  ⟨fun a vs h => e2.t a vs (e.t a vs h), fun a vs h1 h2 => let ⟨q1, q2⟩ := e.l a vs h1 h2; e2.l a vs ⟨q1, fun z => z.elim h1.2 (SqL.ne hD hk h2)⟩ q2, fun a h => (e2.z a (.inl h)).trans (e.z a h), fun a h => e2.c a (e.c a h), fun a o u h => e2.fz a o u (e.fz a o u h), fun a h => by
    have q := e.fm a h
    rw [e2.fm a (by rw [q]; exact h), q], fun a vs h1 h2 => e2.ll a vs ⟨(e.l a vs h1 (.inl (.inl h2))).1, fun z => z.elim h1.2 fun q => by rw [q, hD] at h2; cases h2⟩ (e.ll a vs h1 h2)⟩
theorem ext_put2 (e : Ext K Z m1 H1 m H) (ok1 : Ok K Z m1 H1) (hD : H1 D = none) (hk : K.lookup D = none) (hH : H D = some (.lst ys)) : Ext K Z m1 H1 m (upd H D (.lst zs)) :=
  ⟨fun a vs h => tr_put_t hH a vs (e.t a vs h), fun a vs h1 h2 => let ⟨q1, q2⟩ := e.l a vs h1 h2; ⟨q1, sql_put (SqL.ne hD hk h2) q2⟩, fun a h => by
    have ne : a ≠ D := by rintro rfl; exact (ok1.z a h).2 hD
    rw [upd_ne ne]
    exact e.z a h, e.c, fun a o u h => by
    have q := e.fz a o u h
    rw [upd_ne (by rintro rfl; rw [hH] at q; cases q)]
    exact q, e.fm, fun a vs h1 h2 => by rw [upd_ne (by rintro rfl; rw [hD] at h2; cases h2)]; exact e.ll a vs h1 h2⟩
end
def loopC (g : DG) (t : DT) (f : DE) : List D → List PyData → St2 → Mu → (List PyData → Mu → Prop) → Prop
  | [], acc, _, m, Q => Q acc m
  | x :: xs, acc, d, m, Q => g x d m fun d1 m1 => t d1 m1 fun b m2 => if b = true then f d1 m2 fun y m3 => ∃ p, y = .dat p ∧ acc.length < sizeLine ∧ loopC g t f xs (acc ++ [p]) d1 m3 Q else loopC g t f xs acc d1 m2 Q
def srcOf {α : Type} (src : List (Option Nat)) (d : List (Option α)) : List (Option α) := src.map fun o => o.bind fun j => (d[j]?).join
@[simp] def dLC (src : List (Option Nat)) (fi : DI) (g : DG) (t : DT) (f : DE) : DE := fun d m Q => fi d m fun xs m1 => loopC g t f xs [] (srcOf src d) m1 fun ps m2 => Q (.dat (.list ps)) m2
def PF (Y : Cx) (ifs : List Expr) (t : TT) : Prop := ∀ (pins : List (Addr × Obj)) (s : Shared) (σ : L2.St) (H : Hp) (Q : Bool → Hp → Prop), Inv Y pins σ H s → t σ H Q →
  wpAny (model Y.prog Y.w) Y.A (forIn ifs true fun c r => if r = true then do let ok ← isTrue c Y.env (eval c Y.env); pure (ForInStep.yield ok) else pure (ForInStep.yield r)) (TP Y pins σ Q) Y.xe s
@[simp] def dTrue : DT := fun _ m Q => Q true m
theorem pf_nil {Y : Cx} : PF Y [] (LT Y.K dTrue) := fun pins s σ H Q I h => by
  obtain ⟨Z, d, m, R, ok, rs, h, k⟩ := h
  exact wpAny_tests_nil ⟨H, I, k true m H h Ext.refl ok⟩
theorem rs_src {K : PySem.W.Frag} {Z : Addr → Prop} {m : Mu} {H : Hp} {d : St2} {σ : L2.St} (src : List (Option Nat)) (rs : RS K Z m H d σ) : RS K Z m H (srcOf src d) (srcOf src σ) := by
  refine ⟨by unfold srcOf; rw [List.length_map, List.length_map], fun i x h => ?_⟩
  unfold srcOf at h ⊢
  rw [List.getElem?_map] at h ⊢
  cases e : src[i]? with
  | none => rw [e] at h; cases h
  | some o =>
    rw [e] at h
    cases o with
    | none => cases h
    | some j =>
      have h' : (d[j]?).join = some x := Option.some.inj h
      cases ej : d[j]? with
      | none => rw [ej] at h'; cases h'
      | some w =>
        rw [ej] at h'
        have h2 : w = some x := h'
        subst h2
        obtain ⟨v, q1, q2⟩ := rs.2 j x ej
        exact ⟨v, by rw [Option.map_some, Option.bind_some, q1]; rfl, q2⟩
theorem srcOf_get {α : Type} {src : List (Option Nat)} {d : List (Option α)} {i : Nat} {v : α} (h : (srcOf src d)[i]? = some (some v)) : ∃ j : Nat, src[i]? = some (some j) ∧ d[j]? = some (some v) := by
  unfold srcOf at h
  rw [List.getElem?_map] at h
  cases e : src[i]? with
  | none => rw [e] at h; cases h
  | some o =>
    rw [e] at h
    cases o with
    | none => cases h
    | some j =>
      have h' : (d[j]?).join = some v := Option.some.inj h
      cases ej : d[j]? with
      | none => rw [ej] at h'; cases h'
      | some w =>
        rw [ej] at h'
        have h2 : w = some v := h'
        subst h2
        exact ⟨j, rfl, ej⟩
end DL
set_option Elab.async false
set_option linter.all false
set_option maxRecDepth 100000
set_option maxHeartbeats 4000000
namespace DL
open PySem PySem.Spec PyProof.Rows L2
theorem rd_cross {K : PySem.W.Frag} {Z : Addr → Prop} {m1 m' : Mu} {H1 H' : Hp} {D : Addr} {x : DL.D} {v : V} (hD : H1 D = none) (hk : K.lookup D = none) (e : Ext K Z m1 H1 m' H') (h : RD K Z m1 H1 x v) : RD K (rsv Z D) m' H' x v := by
  cases x with
  | dat p => exact RP.tr e.t (fun a vs h1 h2 => let ⟨q1, q2⟩ := e.l a vs h1 h2; ⟨⟨q1, fun z => z.elim h1.2 (SqL.ne hD hk h2)⟩, q2⟩) p v h
  | cel a => exact ⟨h.1, e.c a h.2⟩
section
variable {X : Cx} {tg iter elt : Expr} {ifs : List Expr} {scope : Scope} {NC : List Str} {fi : DI} {g : DG} {t : DT} {f : DE} {pos : Pos}
def srcChk (X : Cx) (scope : Scope) (NC : List Str) (src : List (Option Nat)) : Prop := NC.length = src.length ∧ ∀ (i : Nat) (x : Str) (j : Nat), NC[i]? = some x → src[i]? = some (some j) → X.N[j]? = some x ∧ (x, NameKind.free) ∈ scope.names ∧
  ((relabel scope X.env).names.lookup x = some .cell ∨ (relabel scope X.env).names.lookup x = some .free)
structure Off (X : Cx) (pins : List (Addr × Obj)) (H : Hp) (C : Addr) : Prop where
  h : H C = none
  l : C ≠ X.env.locals
  s : X.s₀.heap.objs.size ≤ C
  c : ∀ x c, X.env.cells.lookup x = some c → c ≠ C
  p : ∀ p ∈ X.pn ++ pins, p.1 ≠ C
theorem Off.inv {pins : List (Addr × Obj)} {σ : L2.St} {H : Hp} {s : Shared} {C : Addr} {h' : Heap} (o : Off X pins H C) (I : Inv X pins σ H s) (hs : Heap.SameBut C s.heap h') : Inv X pins σ H { s with heap := h' } :=
  I.turned (t' := s.toks) (it := C) (fun b ob hb e => (hs.2 b hb).trans e) o.h o.l (.inr o.s) o.c o.p
def YieldsE (K : PySem.W.Frag) (Z : Addr → Prop) (m : Mu) (H : Hp) (xs : List D) (J : It) : Prop := ∀ m2 H2, Ext K Z m H m2 H2 →
  (∀ (i : Nat) (x : D), xs[i]? = some x → J.go i H2 ∧ ∀ v H3, J.yld i H2 v H3 → Yld K Z m H x v H2 H3) ∧ J.stop xs.length H2
theorem lc_coreL {wi : TI} (src : List (Option Nat)) (hc : X.calm = true) (hi : PI X tg iter wi)
    (hg : ∀ cl C s2 H2 pins fp, PG (cyOf X scope cl C NC s2 H2 pins fp) tg (LG X.K g)) (ht : ∀ cl C s2 H2 pins fp, PF (cyOf X scope cl C NC s2 H2 pins fp) ifs (LT X.K t)) (he : ∀ cl C s2 H2 pins fp, PE (cyOf X scope cl C NC s2 H2 pins fp) elt (LE X.K f))
    (hkind : scope.kind = .function) (hcell : ∀ y ∈ scope.names, y.2 ≠ .cell) (hnames : ∀ y ∈ scope.names, y.2 = .local → scope.names.lookup y.1 = some .local)
    (hfree : ∀ x, (x, NameKind.free) ∈ scope.names → X.env.kindOf x = some .cell ∨ X.env.kindOf x = some .free) (hsrc : srcChk X scope NC src)
    (hs : ∀ x, foldedSetIterable iter X.env x = pure x) {use : Option (Value → Sem Unit)} {QQ : Value → Shared → Prop} {pos' : Pos} {pins : List (Addr × Obj)} {s : Shared} {σ : L2.St} {H : Hp} {Z : Addr → Prop} {d : St2} {m : Mu} {RL : List PyData → Mu → Prop}
    (I : Inv X pins σ H s) (ok : Ok X.K Z m H) (rs : RS X.K Z m H d σ) (h : wi σ H fun J H1 => ∃ xs m1, Ext X.K Z m H m1 H1 ∧ Ok X.K Z m1 H1 ∧ YieldsE X.K Z m1 H1 xs J ∧ loopC g t f xs [] (srcOf src d) m1 RL)
    (fin : ∀ (s5 : Shared) (C D : Addr) (H' : Hp) (m' : Mu) (ps : List PyData), RL ps m' → Ext X.K Z m H m' H' → Ok X.K Z m' H' → RD X.K Z m' H' (.dat (.list ps)) (.ref D) → (∃ mm, s5.heap.Ns C mm) → Inv X pins σ H' s5 → Off X pins H' C → (m' D = none ∧ Ext X.K Z m H (updM m' D (.l ps)) H' ∧ Ok X.K Z (updM m' D (.l ps)) H') →
      compPost (model X.prog X.w) X.A X.xe use QQ (.ref D) C (.ok .next) s5) :
    wpAny (model X.prog X.w) X.A (comprehension (.ListComp elt [⟨tg, iter, ifs, 0⟩] scope pos) scope X.env pos' (newList []) false (eval iter X.env) use) QQ X.xe s := by
  obtain ⟨cl, hclos, hcl1, hcl2⟩ := closure_of (scope := scope) (env := X.env) fun x hx => I.ok.has x (hfree x hx)
  refine wpAny_comprehension_free (use := use) rfl hs hclos hkind hnames ?_
  refine thn (hi pins s σ H _ I h) fun xv s₁ h₁ => thn h₁ fun itv s₂ h₂ => ?_
  obtain ⟨it, fp, tn, J, H2, eit, I2, T, st2, f2, xs, m1, e1, ok1, yl, lp⟩ := h₂
  subst eit
  refine wpAny_newObj_type (wpAny_newFunctionEnv hcell (by intro y hy; simp at hy) (fun h₁ hns₁ hsb₁ => ?_) hkind)
  dsimp only at hns₁ hsb₁ ⊢
  generalize hH2 : s₂.heap.push { cls := .type "list", dict := none, data := .seq ([] : List Value).toArray } = HP at hns₁ hsb₁ ⊢
  have hC : HP.objs.size = s₂.heap.objs.size + 1 := by rw [← hH2, Heap.size_push]
  have leC : s₂.heap.objs.size ≤ HP.objs.size := by rw [hC]; exact Nat.le_succ _
  have old : ∀ b o, s₂.heap.get? b = some o → h₁.get? b = some o := fun b o e => hsb₁.extBut b o (Nat.ne_of_lt (Nat.lt_of_lt_of_le (Heap.lt_size e) leC)) (Heap.get?_push_of_some _ (hH2 ▸ Heap.get?_push_of_some _ e))
  have hacc : h₁.get? s₂.heap.objs.size = some { cls := .type "list", data := .seq ([] : List Value).toArray } := hsb₁.extBut _ _ (by rw [hC]; exact Nat.ne_of_lt (Nat.lt_succ_self _)) (Heap.get?_push_of_some _ (hH2 ▸ Heap.get?_push_size _ rfl))
  have hD : H2 s₂.heap.objs.size = none := I2.hok.fresh (Nat.le_refl _)
  have hkD : X.K.lookup s₂.heap.objs.size = none := by
    cases e : X.K.lookup s₂.heap.objs.size with
    | none => rfl
    | some o => exact absurd (Heap.lt_size (I2.kIn _ o e)) (Nat.lt_irrefl _)
  have obf : ∀ b ∈ fp, ∃ o, s₂.heap.get? b = some o ∧ ∀ v, o.data ≠ .cell v := T.obj 0 _ st2
  have hσ : ∀ (i : Nat) (x : Str) (v : V), NC[i]? = some x → (srcOf src σ)[i]? = some (some v) → Vis (relabel scope X.env) x → ((relabel scope X.env).names.lookup x = some .cell ∨ (relabel scope X.env).names.lookup x = some .free) ∧ (X.env.kindOf x = some .cell ∨ X.env.kindOf x = some .free) ∧ ∃ j : Nat, X.N[j]? = some x ∧ σ[j]? = some (some v) := fun i x v h1 h2 _ => by
    obtain ⟨j, q1, q2⟩ := srcOf_get h2
    obtain ⟨a1, a2, a3⟩ := hsrc.2 i x j h1 q1
    exact ⟨a3, hfree x a2, j, a1, q2⟩
  have I4 := fun tk => cy_start (cl := cl) (NC := NC) (σ' := srcOf src σ) (tk := tk) I2 f2 obf hkind hcell hcl1 hcl2 (by unfold srcOf; rw [List.length_map]; exact hsrc.1.symm) hσ hC hns₁ old hacc
  have st4 : tn 0 h₁ := T.keep 0 _ _ st2 fun b _ o e => old b o e
  -- the loop
  have loop : ∀ s₃ : Shared, s₃ = { s₂ with heap := h₁, toks := s₂.toks + ([] : List (Str × Value)).length } →
      codeAny (model X.prog X.w) X.A (.compLoop (.ListComp elt [⟨tg, iter, ifs, 0⟩] scope pos) 0 (.ref it) (.ref s₂.heap.objs.size) (compEnvC scope cl HP.objs.size X.env))
        (compPost (model X.prog X.w) X.A X.xe use QQ (.ref s₂.heap.objs.size) HP.objs.size) s₃ := by
    rintro s₃ rfl
    refine comp_loop (fun n s' => ∃ (i : Nat) (ys : List V) (acc : List PyData) (d' : St2) (m' : Mu) (σ' : L2.St) (H' : Hp), n = xs.length - i ∧ i ≤ xs.length ∧ Inv (cyOf X scope cl HP.objs.size NC s₂ H2 pins fp) [] σ' H' s' ∧ tn i s'.heap ∧ (∀ b ∈ fp, H' b = none) ∧
      H' s₂.heap.objs.size = some (.lst ys) ∧ RPs X.K (rsv Z s₂.heap.objs.size) m' H' acc ys ∧ Ext X.K Z m1 H2 m' H' ∧ Ok X.K (rsv Z s₂.heap.objs.size) m' H' ∧ RS X.K (rsv Z s₂.heap.objs.size) m' H' d' σ' ∧
      loopC g t f (xs.drop i) acc d' m' RL) ?_ xs.length ?_
    rotate_left
    · have rs1 : RS X.K Z m1 H2 (srcOf src d) (srcOf src σ) := rs_src src (rs.ext e1)
      refine ⟨0, [], [], srcOf src d, m1, srcOf src σ, _, by simp, Nat.zero_le _, I4 _, st4, fun b hb => ?_, upd_same, by simp [RPs], ok1.ext (same_new hD), ok_new ok1 hD hkD, ⟨rs1.1, fun i x hx => ?_⟩, by simpa using lp⟩
      · obtain ⟨o, ho, _⟩ := obf b hb
        rw [upd_ne (Nat.ne_of_lt (Heap.lt_size ho))]
        exact (f2 b hb).1
      · obtain ⟨v, q1, q2⟩ := rs1.2 i x hx
        exact ⟨v, q1, rd_new hD hkD q2⟩
    rintro n s4 ⟨i, ys, acc, d', m', σ', H', rfl, hi', I5, st5, fr5, hDy, racc, eX, ok5, rs5, lp5⟩
    have stat : ∀ b ∈ fp, FpOk (cyOf X scope cl HP.objs.size NC s₂ H2 pins fp) [] H' b := fun b hb => by
      obtain ⟨g0, g1, g2, g3, g4, g5⟩ := f2 b hb
      obtain ⟨o, ho, _⟩ := obf b hb
      refine ⟨fr5 b hb, Nat.ne_of_lt (Nat.lt_of_lt_of_le (Heap.lt_size ho) leC), fun z => ?_, .inl hb, fun x c e => g4 x c (hcl1 (x, c) (mem_of_lookup' e)), fun p hp => ?_⟩
      · rcases List.mem_cons.mp (I2.stkSub b z) with q | q
        · exact g1 q
        · exact g2 q
      · rcases List.mem_append.mp hp with q | q
        · exact g5 p q
        · cases q
    obtain ⟨y1, y2⟩ := yl m' H' eX
    by_cases hlt : i < xs.length
    · rw [List.drop_eq_getElem_cons hlt] at lp5
      obtain ⟨go, yd⟩ := y1 i xs[i] (List.getElem?_eq_getElem hlt)
      refine thn (T.item (cyOf X scope cl HP.objs.size NC s₂ H2 pins fp) rfl rfl rfl hc i [] s4 σ' H' (fun _ _ => False) I5 stat st5 go) fun r s5 hq0 => ?_
      obtain ⟨u, hr, h5⟩ := hq0
      subst hr
      refine thn h5 fun _ s6 hq0 => ?_
      obtain ⟨x, H6, I6, r6, yy, st6, fr6⟩ := hq0
      have yy' := yd x H6 yy
      have e56 : Ext X.K (rsv Z s₂.heap.objs.size) m' H' m' H6 := ok5.ext yy'.same
      have rv := yy'.rd (fun d v h => rd_cross hD hkD eX h) ok5
      have hDy := yy'.same _ _ hDy
      have racc := RPs.ext e56 _ _ racc
      have eX := ext_inner eX hD hkD e56
      have rs5 := rs5.ext e56
      have ok5 := ok5.grow yy'.same
      have stat : ∀ b ∈ fp, FpOk (cyOf X scope cl HP.objs.size NC s₂ H2 pins fp) [] H6 b := fun b hb => ⟨fr6 b hb, (stat b hb).2⟩
      have I6' := I6.pinned stat (T.obj _ _ st6)
      -- what stands when a turn is over
      have over : ∀ {s7 : Shared} {σ7 : L2.St} {H7 : Hp} {ys7 : List V} {acc7 : List PyData} {d7 : St2} {m7 : Mu}, Inv (cyOf X scope cl HP.objs.size NC s₂ H2 pins fp) ([] ++ pinsAt fp s6.heap) σ7 H7 s7 → H7 s₂.heap.objs.size = some (.lst ys7) → RPs X.K (rsv Z s₂.heap.objs.size) m7 H7 acc7 ys7 →
          Ext X.K Z m1 H2 m7 H7 → Ok X.K (rsv Z s₂.heap.objs.size) m7 H7 → RS X.K (rsv Z s₂.heap.objs.size) m7 H7 d7 σ7 → (loopC g t f (xs.drop (i + 1)) acc7 d7 m7 RL) →
          ∃ n, n < xs.length - i ∧ ∃ (i : Nat) (ys : List V) (acc : List PyData) (d' : St2) (m' : Mu) (σ' : L2.St) (H' : Hp), n = xs.length - i ∧ i ≤ xs.length ∧ Inv (cyOf X scope cl HP.objs.size NC s₂ H2 pins fp) [] σ' H' s7 ∧ tn i s7.heap ∧ (∀ b ∈ fp, H' b = none) ∧
            H' s₂.heap.objs.size = some (.lst ys) ∧ RPs X.K (rsv Z s₂.heap.objs.size) m' H' acc ys ∧ Ext X.K Z m1 H2 m' H' ∧ Ok X.K (rsv Z s₂.heap.objs.size) m' H' ∧ RS X.K (rsv Z s₂.heap.objs.size) m' H' d' σ' ∧
            loopC g t f (xs.drop i) acc d' m' RL := by
        intro s7 σ7 H7 ys7 acc7 d7 m7 I7 a1 a2 a3 a4 a5 a6
        refine ⟨xs.length - (i + 1), by omega, i + 1, ys7, acc7, d7, m7, σ7, H7, rfl, hlt, I7.unpinned, T.keep _ _ _ st6 fun b hb o e => (I7.pin (b, o) (List.mem_append_right _ (List.mem_append_right _ (mem_pinsAt hb e)))).1, fun b hb => ?_, a1, a2, a3, a4, a5, a6⟩
        obtain ⟨o, e, dd⟩ := T.obj _ _ st6 b hb
        exact (I7.pin (b, o) (List.mem_append_right _ (List.mem_append_right _ (mem_pinsAt hb e)))).2.1
      refine thn (hg cl _ s₂ H2 pins fp _ s6 σ' _ x u (fun σ7 H7 => ∃ d7 m7, Ext X.K (rsv Z s₂.heap.objs.size) m' H6 m7 H7 ∧ Ok X.K (rsv Z s₂.heap.objs.size) m7 H7 ∧ RS X.K (rsv Z s₂.heap.objs.size) m7 H7 d7 σ7 ∧
        t d7 m7 fun b m2 => if b = true then f d7 m2 fun y m3 => ∃ p, y = .dat p ∧ acc.length < sizeLine ∧ loopC g t f (xs.drop (i + 1)) (acc ++ [p]) d7 m3 RL else loopC g t f (xs.drop (i + 1)) acc d7 m2 RL) I6' r6
        ⟨_, xs[i], d', m', _, ok5, rs5, rv, lp5, fun d7 m7 σ7 H7 q7 e7 ok7 rs7 => ⟨d7, m7, e7, ok7, rs7, q7⟩⟩) fun _ s7 hq0 => ?_
      obtain ⟨σ7, H7, I7, d7, m7, e7, ok7, rs7, q7⟩ := hq0
      refine thn (ht cl _ s₂ H2 pins fp _ s7 σ7 H7 (fun b H8 => ∃ m8, Ext X.K (rsv Z s₂.heap.objs.size) m7 H7 m8 H8 ∧ Ok X.K (rsv Z s₂.heap.objs.size) m8 H8 ∧
        if b = true then f d7 m8 fun y m3 => ∃ p, y = .dat p ∧ acc.length < sizeLine ∧ loopC g t f (xs.drop (i + 1)) (acc ++ [p]) d7 m3 RL else loopC g t f (xs.drop (i + 1)) acc d7 m8 RL) I7
        ⟨_, d7, m7, _, ok7, rs7, q7, fun b m8 H8 q8 e8 ok8 => ⟨m8, e8, ok8, q8⟩⟩) fun b s8 hq0 => ?_
      obtain ⟨H8, I8, m8, e8, ok8, q8⟩ := hq0
      have e68 := e7.trans e8
      have hD8 : H8 s₂.heap.objs.size = some (.lst ys) := (e68.z _ (.inr rfl)).trans hDy
      cases b with
      | false =>
        rw [if_neg Bool.false_ne_true] at q8
        exact over I8 hD8 (RPs.ext e68 _ _ racc) (ext_inner eX hD hkD e68) ok8 (rs7.ext e8) q8
      | true =>
        rw [if_pos rfl] at q8
        refine thn (he cl _ s₂ H2 pins fp _ s8 σ7 H8 (fun v H9 => ∃ p m9, RP X.K (rsv Z s₂.heap.objs.size) m9 H9 p v ∧ Ext X.K (rsv Z s₂.heap.objs.size) m8 H8 m9 H9 ∧ Ok X.K (rsv Z s₂.heap.objs.size) m9 H9 ∧ acc.length < sizeLine ∧ loopC g t f (xs.drop (i + 1)) (acc ++ [p]) d7 m9 RL) I8
          ⟨_, d7, m8, _, ok8, rs7.ext e8, q8, fun y m9 v H9 hq1 e9 ok9 r9 => by
            obtain ⟨p, ey, hz, q9⟩ := hq1
            subst ey
            exact ⟨p, m9, r9, e9, ok9, hz, q9⟩⟩) fun yv s9 hq0 => ?_
        obtain ⟨y, H9, I9, ry, p, m9, rp9, e9, ok9, hz, q9⟩ := hq0
        have e69 := e68.trans e9
        have hD9 : H9 s₂.heap.objs.size = some (.lst ys) := (e69.z _ (.inr rfl)).trans hDy
        have racc9 := RPs.ext e69 _ _ racc
        have rs9 := (rs7.ext e8).ext e9
        refine thn (mt_append _ s9 σ7 H9 (.ref s₂.heap.objs.size) [y] (.ref s₂.heap.objs.size) [yv] (fun v H10 => H10 = upd H9 s₂.heap.objs.size (.lst (ys ++ [y]))) I9 rfl (.cons ry .nil) ⟨_, ys, y, rfl, rfl, hD9, by rw [racc9.length]; exact hz, rfl⟩) fun rv s10 hq0 => ?_
        obtain ⟨v10, H10, I10, _, e10⟩ := hq0
        subst e10
        refine over I10 upd_same ?_ (ext_put2 (ext_inner eX hD hkD e69) ok1 hD hkD hD9) (ok_put2 ok9 hD9) ⟨rs9.1, fun j z hj => ?_⟩ q9
        · exact RPs.tr (tr_put_t hD9) tr_put_l _ _ (racc9.append (by simp only [RPs]; exact ⟨y, [], rfl, rp9, rfl⟩))
        · obtain ⟨v, a1, a2⟩ := rs9.2 j z hj
          exact ⟨v, a1, rd_put hD9 a2⟩
    · have e : i = xs.length := by omega
      subst e
      rw [List.drop_length] at lp5
      refine thn (T.done (cyOf X scope cl HP.objs.size NC s₂ H2 pins fp) rfl rfl rfl hc _ [] s4 σ' H' (fun _ _ => False) I5 stat st5 y2) fun r s5 hq0 => ?_
      obtain ⟨hr, I6⟩ := hq0
      subst hr
      have IX := cy_end I2 f2 I6 leC (Heap.SameBut.refl _ _)
      have nz : ¬ Z s₂.heap.objs.size := fun z => (ok1.z _ z).2 hD
      refine fin s5 HP.objs.size s₂.heap.objs.size H' m' acc lp5 (e1.trans eX) (ok_out ok5) ?_ ⟨_, I6.loc.choose_spec.1⟩ IX ⟨I6.free, Nat.ne_of_gt (Nat.lt_of_lt_of_le I2.lt leC), Nat.le_trans I2.sz leC, fun x c e => ?_, fun p hp => ?_⟩ ⟨(ok5.z _ (.inr rfl)).1, ?_, ?_⟩
      · simp only [RD, RP]
        exact ⟨_, ys, rfl, ⟨(ok5.z _ (.inr rfl)).1, nz⟩, .inl (.inl hDy), RPs.tr (fun _ _ q => q) (fun a vs q1 q2 => ⟨⟨q1.1, fun z => q1.2 (.inl z)⟩, q2⟩) _ _ racc⟩
      · obtain ⟨v, q⟩ := I2.cell x c e
        exact Nat.ne_of_lt (Nat.lt_of_lt_of_le q.lt leC)
      · exact Nat.ne_of_lt (Nat.lt_of_lt_of_le (Heap.lt_size (I2.pin p hp).1) leC)
      · refine ⟨fun a vs q => (e1.trans eX).t a vs q, fun a vs q1 q2 => ?_, fun a q => (e1.trans eX).z a q, fun a q => ?_, (e1.trans eX).fz, fun a q => ?_, (e1.trans eX).ll⟩
        · obtain ⟨_, q3⟩ := e1.l a vs q1 q2
          have ne := SqL.ne hD hkD q3
          obtain ⟨q4, q5⟩ := (e1.trans eX).l a vs q1 q2
          exact ⟨by rw [updM_ne ne]; exact q4, q5⟩
        · by_cases ea : a = s₂.heap.objs.size
          · subst ea; rw [updM_same]; rfl
          · rw [updM_ne ea]; exact (e1.trans eX).c a q
        · have fq := (e1.trans eX).fm a q
          have ne : a ≠ s₂.heap.objs.size := by
            rintro rfl
            rw [(ok5.z _ (.inr rfl)).1] at fq
            rw [← fq] at q
            cases q
          rw [updM_ne ne]
          exact fq
      · have tr : ∀ (a : Addr) (vs : List V), (m' a = none ∧ ¬ rsv Z s₂.heap.objs.size a) → SqL X.K H' a vs → (updM m' s₂.heap.objs.size (.l acc) a = none ∧ ¬ Z a) ∧ SqL X.K H' a vs := fun a vs q1 q2 => ⟨⟨by rw [updM_ne fun z => q1.2 (.inr z)]; exact q1.1, fun z => q1.2 (.inl z)⟩, q2⟩
        refine ⟨fun a c q => ?_, fun a q => ?_⟩
        · by_cases ea : a = s₂.heap.objs.size
          · subst ea
            rw [updM_same] at q
            cases q
            exact ⟨_, hDy, RPs.tr (fun _ _ q => q) tr _ _ racc⟩
          · rw [updM_ne ea] at q
            obtain ⟨o, q1, q2⟩ := ok5.g a c q
            exact ⟨o, q1, q2.lift fun p v q3 => RP.tr (fun _ _ q => q) tr p v q3⟩
        · have ne : a ≠ s₂.heap.objs.size := fun z => nz (z ▸ q)
          obtain ⟨q1, q2⟩ := ok5.z a (.inl q)
          exact ⟨by rw [updM_ne ne]; exact q1, q2⟩
  exact codeAny_compStart_list (loop _ rfl) (T.self _ 0 _ _ _ st4 (loop _ rfl))
theorem lc_core (src : List (Option Nat)) (hc : X.calm = true) (hi : PI X tg iter (LI X.K fi))
    (hg : ∀ cl C s2 H2 pins fp, PG (cyOf X scope cl C NC s2 H2 pins fp) tg (LG X.K g)) (ht : ∀ cl C s2 H2 pins fp, PF (cyOf X scope cl C NC s2 H2 pins fp) ifs (LT X.K t)) (he : ∀ cl C s2 H2 pins fp, PE (cyOf X scope cl C NC s2 H2 pins fp) elt (LE X.K f))
    (hkind : scope.kind = .function) (hcell : ∀ y ∈ scope.names, y.2 ≠ .cell) (hnames : ∀ y ∈ scope.names, y.2 = .local → scope.names.lookup y.1 = some .local)
    (hfree : ∀ x, (x, NameKind.free) ∈ scope.names → X.env.kindOf x = some .cell ∨ X.env.kindOf x = some .free) (hsrc : srcChk X scope NC src)
    (hs : ∀ x, foldedSetIterable iter X.env x = pure x) {use : Option (Value → Sem Unit)} {QQ : Value → Shared → Prop} {pos' : Pos} {pins : List (Addr × Obj)} {s : Shared} {σ : L2.St} {H : Hp} {Z : Addr → Prop} {d : St2} {m : Mu} {RL : List PyData → Mu → Prop}
    (I : Inv X pins σ H s) (ok : Ok X.K Z m H) (rs : RS X.K Z m H d σ) (h : fi d m fun xs m1 => loopC g t f xs [] (srcOf src d) m1 RL)
    (fin : ∀ (s5 : Shared) (C D : Addr) (H' : Hp) (m' : Mu) (ps : List PyData), RL ps m' → Ext X.K Z m H m' H' → Ok X.K Z m' H' → RD X.K Z m' H' (.dat (.list ps)) (.ref D) → (∃ mm, s5.heap.Ns C mm) → Inv X pins σ H' s5 → Off X pins H' C → (m' D = none ∧ Ext X.K Z m H (updM m' D (.l ps)) H' ∧ Ok X.K Z (updM m' D (.l ps)) H') →
      compPost (model X.prog X.w) X.A X.xe use QQ (.ref D) C (.ok .next) s5) :
    wpAny (model X.prog X.w) X.A (comprehension (.ListComp elt [⟨tg, iter, ifs, 0⟩] scope pos) scope X.env pos' (newList []) false (eval iter X.env) use) QQ X.xe s :=
  lc_coreL src hc hi hg ht he hkind hcell hnames hfree hsrc hs I ok rs ⟨Z, d, m, _, ok, rs, h, fun xs m1 H1 J q e1 ok1 y1 => ⟨xs, m1, e1, ok1, fun m2 H2 e => y1 m2 H2 e.y, q⟩⟩ fin
theorem le_lc (src : List (Option Nat)) (hc : X.calm = true) (hi : PI X tg iter (LI X.K fi))
    (hg : ∀ cl C s2 H2 pins fp, PG (cyOf X scope cl C NC s2 H2 pins fp) tg (LG X.K g)) (ht : ∀ cl C s2 H2 pins fp, PF (cyOf X scope cl C NC s2 H2 pins fp) ifs (LT X.K t)) (he : ∀ cl C s2 H2 pins fp, PE (cyOf X scope cl C NC s2 H2 pins fp) elt (LE X.K f))
    (hkind : scope.kind = .function) (hcell : ∀ y ∈ scope.names, y.2 ≠ .cell) (hnames : ∀ y ∈ scope.names, y.2 = .local → scope.names.lookup y.1 = some .local)
    (hfree : ∀ x, (x, NameKind.free) ∈ scope.names → X.env.kindOf x = some .cell ∨ X.env.kindOf x = some .free) (hsrc : srcChk X scope NC src)
    (hs : ∀ x, foldedSetIterable iter X.env x = pure x := by intro _; rfl) :
    PE X (.ListComp elt [⟨tg, iter, ifs, 0⟩] scope pos) (LE X.K (dLC src fi g t f)) := by
  intro pins s σ H Q I h
  obtain ⟨Z, d, m, R, ok, rs, h, k⟩ := h
  rw [eval_ListComp]
  refine lc_core src hc hi hg ht he hkind hcell hnames hfree hsrc hs (use := none) (QQ := EP X pins σ Q) (RL := fun ps m2 => R (.dat (.list ps)) m2) I ok rs h ?_
  intro s5 C D H' m' ps q e ok' rd ⟨mm, hns⟩ I5 off hcl
  exact ⟨mm, hns, fun h' hs' => ⟨.ref D, H', off.inv I5 hs', rfl, k _ m' _ H' q e ok' rd⟩⟩
theorem ls_lc (i : Nat) {y : Str} {py spos : Pos} (src : List (Option Nat)) (hc : X.calm = true) (hi : PI X tg iter (LI X.K fi))
    (hg : ∀ cl C s2 H2 pins fp, PG (cyOf X scope cl C NC s2 H2 pins fp) tg (LG X.K g)) (ht : ∀ cl C s2 H2 pins fp, PF (cyOf X scope cl C NC s2 H2 pins fp) ifs (LT X.K t)) (he : ∀ cl C s2 H2 pins fp, PE (cyOf X scope cl C NC s2 H2 pins fp) elt (LE X.K f))
    (hkind : scope.kind = .function) (hcell : ∀ y ∈ scope.names, y.2 ≠ .cell) (hnames : ∀ y ∈ scope.names, y.2 = .local → scope.names.lookup y.1 = some .local)
    (hfree : ∀ x, (x, NameKind.free) ∈ scope.names → X.env.kindOf x = some .cell ∨ X.env.kindOf x = some .free) (hsrc : srcChk X scope NC src)
    (hN : X.N.Nodup) (hi2 : X.N[i]? = some y := by rfl) (hx : Loc X.env.scope y := by first | exact Or.inl rfl | exact Or.inr rfl) (hf : X.fn y = true ∨ X.env.scope.names.lookup y = some .local := by first | exact .inl rfl | exact .inr rfl)
    (hsw : swapsWith (.ListComp elt [⟨tg, iter, ifs, 0⟩] scope pos) (some (.Name y py)) spos.line X.env = pure true := by rfl)
    (hs : ∀ x, foldedSetIterable iter X.env x = pure x := by intro _; rfl) :
    PS X (.Assign [.Name y py] (.ListComp elt [⟨tg, iter, ifs, 0⟩] scope pos) spos) (LS X.K (dSet i (dLC src fi g t f))) := by
  intro pins s σ H E I h
  obtain ⟨Z, d, m, R, ok, rs, h, k, _⟩ := h
  rw [exec_Assign_Name_used _ _ _ _ hsw]
  refine wpAny_bind (wpAny_standAt (wpAny_bind ?_))
  rw [arm_evalThenUse_ListComp]
  refine wpAny_bind ?_
  refine thn (lc_core src hc hi hg ht he hkind hcell hnames hfree hsrc hs (use := some (assign (.Name y py) X.env)) (QQ := fun _ s' => SP X pins E .next s') (RL := fun ps m2 => R.nx (d.set i (some (.dat (.list ps)))) m2) I ok rs h ?_) (fun _ s' q => wpAny_pure (wpAny_pure q))
  intro s5 C D H' m' ps q e ok' rd ⟨mm, hns⟩ I5 off hcl
  show wpAny _ X.A (assign (.Name y py) X.env (.ref D)) _ _ s5
  refine wpAny_assign_Name (store_ok2 I5 hN hi2 hx (v := .ref D) rfl (fun s6 I6 ⟨a, hs6, ha⟩ => ?_) hf)
  have ne : C ≠ a := by
    rcases ha with rfl | ha
    · exact off.l
    · exact Ne.symm (off.c _ _ ha)
  refine ⟨mm, hns.sameBut hs6 ne, fun h' hs' => ?_⟩
  exact ⟨_, H', off.inv I6 hs', k _ m' _ H' q e ok' ((rs.ext e).set rd)⟩
end
end DL
set_option Elab.async false
set_option linter.all false
set_option maxRecDepth 100000
set_option maxHeartbeats 4000000
namespace DL
open PySem PySem.Spec PyProof.Rows L2
section
variable {prog : Program} {w : World} {A : Around} {E : Value → Shared → Prop} {s : Shared}
def IsRv (h : Heap) (a t : Addr) (i : Int) : Prop := ∃ o, h.get? a = some o ∧ o.cls = .type "reversed" ∧ o.data = .fields #[.ref t, rawInt i]
theorem IsRv.typeIs {a t : Addr} {i : Int} (x : IsRv s.heap a t i) : s.TypeIs (.ref a) "reversed" := let ⟨o, ho, hc, _⟩ := x; ⟨o, ho, hc⟩
end
end DL
set_option Elab.async false
set_option linter.all false
set_option maxRecDepth 100000
set_option maxHeartbeats 4000000
namespace DL
open PySem PySem.Spec PyProof.Rows L2
section
variable {X : Cx} {a e o : Expr} {es : List Expr} {f g : DE} {ga : DA} {pos p p1 p2 : Pos}
theorem strs_rps {K : PySem.W.Frag} {Z : Addr → Prop} {m : Mu} {H : Hp} : ∀ (zs : List Str), RPs K Z m H (zs.map PyData.str) (zs.map V.str)
  | [] => by simp [RPs]
  | z :: zs => by
    simp only [List.map_cons, RPs]
    exact ⟨_, _, rfl, by simp only [RP], strs_rps zs⟩
def KT (K : PySem.W.Frag) (a : Addr) (zs : List Str) : Prop := ∃ (o : Obj) (its : Array Value) (n : Nat), K.lookup a = some o ∧ o.cls = .type "tuple" ∧ o.dict = none ∧ o.data = .seq its n ∧ its.size ≤ sizeLine ∧ Vals (zs.map V.str) its.toList
theorem KT.sq {K : PySem.W.Frag} {a : Addr} {zs : List Str} {H : Hp} (h : KT K a zs) : SqT K H a (zs.map V.str) := by
  obtain ⟨o, its, n, h1, h2, h3, h4, h5, h6⟩ := h
  exact .inr ⟨o, its, n, h1, ⟨h2, h3⟩, h4, h5, h6⟩
@[simp] def bTuple : DC
  | [.dat (.tuple xs)], m, Q => Q (.dat (.tuple xs)) m
  | [.dat (.list xs)], m, Q => Q (.dat (.tuple xs)) m
  | [.cel c], m, Q => ∃ xs, m c = some (.l xs) ∧ Q (.dat (.tuple xs)) m
  | _, _, _ => False
theorem cd_tuple : CallD X (.type "tuple") bTuple := by
  intro pins s σ H Z m xs ds us R Q I ok rv rd h k
  unfold bTuple at h
  split at h
  · obtain ⟨v, rfl, r1⟩ := rd.one
    have r0 := r1
    simp only [RD, RP] at r1
    obtain ⟨a, vs, rfl, h1, h2⟩ := r1
    exact call_tuple_of pins s σ H _ us Q I rv ⟨a, vs, rfl, .inr ⟨h1, k _ m _ H h Ext.refl ok r0⟩⟩
  · obtain ⟨v, rfl, r1⟩ := rd.one
    simp only [RD, RP] at r1
    obtain ⟨a, vs, rfl, _, h1, h2⟩ := r1
    refine call_tuple_of pins s σ H _ us Q I rv ⟨a, vs, rfl, .inl ⟨h1, fun l hl => ?_⟩⟩
    have sm : Same H (upd H l (.tup vs)) := same_new hl
    refine k _ m _ _ h (ok.ext sm) (ok.grow sm) ?_
    simp only [RD, RP]
    exact ⟨l, vs, rfl, .inl (.inl upd_same), RPs.ext (ok.ext sm) _ _ h2⟩
  · obtain ⟨v, rfl, r1⟩ := rd.one
    obtain ⟨rfl, _⟩ := r1
    obtain ⟨ys, hm, q⟩ := h
    obtain ⟨vs, h1, h2⟩ := ok.l hm
    refine call_tuple_of pins s σ H _ us Q I rv ⟨_, vs, rfl, .inl ⟨.inl (.inl h1), fun l hl => ?_⟩⟩
    have sm : Same H (upd H l (.tup vs)) := same_new hl
    refine k _ m _ _ q (ok.ext sm) (ok.grow sm) ?_
    simp only [RD, RP]
    exact ⟨l, vs, rfl, .inl (.inl upd_same), RPs.ext (ok.ext sm) _ _ h2⟩
  · exact h.elim
end
end DL
set_option Elab.async false
set_option linter.all false
set_option maxRecDepth 100000
set_option maxHeartbeats 4000000
namespace DL
open PySem PySem.Spec PyProof.Rows L2
def chkB (scope : Scope) (env : Env) : Bool := scope.names.all fun y => (decide (y.2 ≠ .cell)) && (!decide (y.2 = .local) || decide (scope.names.lookup y.1 = some .local)) && (!decide (y.2 = .free) || decide (env.kindOf y.1 = some .cell) || decide (env.kindOf y.1 = some .free))
def chkS (N : List Str) (scope : Scope) (env : Env) : List Str → List (Option Nat) → Bool
  | [], [] => true
  | x :: xs, o :: os => (match o with | none => true | some j => decide (N[j]? = some x) && decide ((x, NameKind.free) ∈ scope.names) && (decide ((relabel scope env).names.lookup x = some .cell) || decide ((relabel scope env).names.lookup x = some .free))) && chkS N scope env xs os
  | _, _ => false
theorem chkB.ok {scope : Scope} {env : Env} (h : chkB scope env = true) : (∀ y ∈ scope.names, y.2 ≠ .cell) ∧ (∀ y ∈ scope.names, y.2 = .local → scope.names.lookup y.1 = some .local) ∧ ∀ x, (x, NameKind.free) ∈ scope.names → env.kindOf x = some .cell ∨ env.kindOf x = some .free := by
  unfold chkB at h
  rw [List.all_eq_true] at h
  have q : ∀ y ∈ scope.names, y.2 ≠ .cell ∧ (y.2 = .local → scope.names.lookup y.1 = some .local) ∧ (y.2 = .free → env.kindOf y.1 = some .cell ∨ env.kindOf y.1 = some .free) := fun y hy => by
    have := h y hy
    simp only [Bool.and_eq_true, Bool.or_eq_true, Bool.not_eq_true', decide_eq_true_eq, decide_eq_false_iff_not] at this
    obtain ⟨⟨a, b⟩, c⟩ := this
    refine ⟨a, fun e => b.resolve_left (fun n => n e), fun e => ?_⟩
    rcases c with (c | c) | c
    · exact absurd e c
    · exact .inl c
    · exact .inr c
  exact ⟨fun y hy => (q y hy).1, fun y hy => (q y hy).2.1, fun x hx => (q _ hx).2.2 rfl⟩
theorem chkS.ok {X : Cx} {scope : Scope} : ∀ {NC : List Str} {src : List (Option Nat)}, chkS X.N scope X.env NC src = true → srcChk X scope NC src
  | [], [], _ => ⟨rfl, fun i x j h => by simp at h⟩
  | [], _ :: _, h => by simp [chkS] at h
  | _ :: _, [], h => by simp [chkS] at h
  | y :: ys, o :: os, h => by
    simp only [chkS, Bool.and_eq_true] at h
    obtain ⟨h1, h2⟩ := h
    obtain ⟨q1, q2⟩ := chkS.ok h2
    refine ⟨by rw [List.length_cons, List.length_cons, q1], fun i x j e1 e2 => ?_⟩
    cases i with
    | zero =>
      simp at e1 e2
      subst e1 e2
      simp only [Bool.and_eq_true, Bool.or_eq_true, decide_eq_true_eq] at h1
      exact ⟨h1.1.1, h1.1.2, h1.2⟩
    | succ i => exact q2 i x j (by simpa using e1) (by simpa using e2)
section
variable {X : Cx} {tg iter elt : Expr} {ifs : List Expr} {scope : Scope} {fi : DI} {g : DG} {t : DT} {f : DE} {pos : Pos}
theorem le_lcB (NC : List Str) (src : List (Option Nat)) (hc : X.calm = true) (hi : PI X tg iter (LI X.K fi))
    (hg : ∀ cl C s2 H2 pins fp, PG (cyOf X scope cl C NC s2 H2 pins fp) tg (LG X.K g)) (ht : ∀ cl C s2 H2 pins fp, PF (cyOf X scope cl C NC s2 H2 pins fp) ifs (LT X.K t)) (he : ∀ cl C s2 H2 pins fp, PE (cyOf X scope cl C NC s2 H2 pins fp) elt (LE X.K f))
    (hkind : scope.kind = .function := by rfl) (hB : chkB scope X.env = true := by rfl) (hS : chkS X.N scope X.env NC src = true := by rfl)
    (hs : ∀ x, foldedSetIterable iter X.env x = pure x := by intro _; rfl) : PE X (.ListComp elt [⟨tg, iter, ifs, 0⟩] scope pos) (LE X.K (dLC src fi g t f)) :=
  le_lc (NC := NC) src hc hi hg ht he hkind (chkB.ok hB).1 (chkB.ok hB).2.1 (chkB.ok hB).2.2 (chkS.ok hS) hs
theorem ls_lcB (i : Nat) {y : Str} {py spos : Pos} (NC : List Str) (src : List (Option Nat)) (hc : X.calm = true) (hN : X.N.Nodup) (hi : PI X tg iter (LI X.K fi))
    (hg : ∀ cl C s2 H2 pins fp, PG (cyOf X scope cl C NC s2 H2 pins fp) tg (LG X.K g)) (ht : ∀ cl C s2 H2 pins fp, PF (cyOf X scope cl C NC s2 H2 pins fp) ifs (LT X.K t)) (he : ∀ cl C s2 H2 pins fp, PE (cyOf X scope cl C NC s2 H2 pins fp) elt (LE X.K f))
    (hkind : scope.kind = .function := by rfl) (hB : chkB scope X.env = true := by rfl) (hS : chkS X.N scope X.env NC src = true := by rfl)
    (hi2 : X.N[i]? = some y := by rfl) (hx : Loc X.env.scope y := by first | exact Or.inl rfl | exact Or.inr rfl) (hf : X.fn y = true ∨ X.env.scope.names.lookup y = some .local := by first | exact .inl rfl | exact .inr rfl)
    (hsw : swapsWith (.ListComp elt [⟨tg, iter, ifs, 0⟩] scope pos) (some (.Name y py)) spos.line X.env = pure true := by rfl)
    (hs : ∀ x, foldedSetIterable iter X.env x = pure x := by intro _; rfl) : PS X (.Assign [.Name y py] (.ListComp elt [⟨tg, iter, ifs, 0⟩] scope pos) spos) (LS X.K (dSet i (dLC src fi g t f))) :=
  ls_lc (NC := NC) i src hc hi hg ht he hkind (chkB.ok hB).1 (chkB.ok hB).2.1 (chkB.ok hB).2.2 (chkS.ok hS) hN hi2 hx hf hsw hs
end
end DL
set_option Elab.async false
set_option linter.all false
set_option maxRecDepth 100000
set_option maxHeartbeats 4000000
namespace DL
open PySem PySem.Spec PyProof.Rows L2
section
variable {prog : Program} {w : World} {A : Around} {R : Result → Shared → Prop} {s : Shared}
end
structure ExtW (K : PySem.W.Frag) (Z : Addr → Prop) (D : Addr) (m : Mu) (H : Hp) (m' : Mu) (H' : Hp) : Prop where
  t : ∀ a vs, SqT K H a vs → SqT K H' a vs
  l : ∀ a vs, (m a = none ∧ ¬ rsv Z D a) → SqL K H a vs → m' a = none ∧ SqL K H' a vs
  z : ∀ a, Z a → H' a = H a
  c : ∀ a, (m a).isSome = true → (m' a).isSome = true
  fz : ∀ a o u, H a = some (.frz o u) → H' a = some (.frz o u)
  fm : ∀ a, isF (m a) = true → m' a = m a
  ll : ∀ a vs, (m a = none ∧ ¬ rsv Z D a) → H a = some (.lst vs) → H' a = some (.lst vs)
section
variable {K : PySem.W.Frag} {Z : Addr → Prop} {m m1 m' m2 : Mu} {H H1 H' H2 : Hp} {D : Addr} {ys zs : List V}
theorem ExtW.refl : ExtW K Z D m H m H := ⟨fun _ _ h => h, fun _ _ h1 h2 => ⟨h1.1, h2⟩, fun _ _ => rfl, fun _ h => h, fun _ _ _ h => h, fun _ _ => rfl, fun _ _ _ h => h⟩
theorem ExtW.y (e : ExtW K Z D m H m' H') : ExtY K (rsv Z D) m H m' H' := ⟨e.t, e.l, e.fz⟩
theorem ExtW.trans (a : ExtW K Z D m H m' H') (b : ExtW K Z D m' H' m2 H2) : ExtW K Z D m H m2 H2 :=
  ⟨fun x vs h => b.t x vs (a.t x vs h), fun x vs h1 h2 => let ⟨q1, q2⟩ := a.l x vs h1 h2; b.l x vs ⟨q1, h1.2⟩ q2, fun x h => (b.z x h).trans (a.z x h), fun x h => b.c x (a.c x h), fun x o u h => b.fz x o u (a.fz x o u h), fun x h => by
    have q := a.fm x h
    rw [b.fm x (by rw [q]; exact h), q], fun x vs h1 h2 => b.ll x vs ⟨(a.l x vs h1 (.inl (.inl h2))).1, h1.2⟩ (a.ll x vs h1 h2)⟩
theorem Ext.w (e : Ext K (rsv Z D) m H m' H') : ExtW K Z D m H m' H' := ⟨e.t, e.l, fun a h => e.z a (.inl h), e.c, e.fz, e.fm, e.ll⟩
theorem ExtW.put (hz : ¬ Z D) (hD : H D = some (.lst ys)) : ExtW K Z D m H m (upd H D (.lst zs)) :=
  ⟨tr_put_t hD, fun a vs h1 h2 => ⟨h1.1, sql_put (fun e => h1.2 (.inr e)) h2⟩, fun a h => by
    have ne : a ≠ D := by rintro rfl; exact hz h
    rw [upd_ne ne], fun _ h => h, fun a o u h => by
    rw [upd_ne (by rintro rfl; rw [hD] at h; cases h)]
    exact h, fun _ _ => rfl, fun a vs h1 h2 => by rw [upd_ne fun e => h1.2 (.inr e)]; exact h2⟩
theorem ExtW.rd {x : DL.D} {v : V} (e : ExtW K Z D m H m' H') (h : RD K (rsv Z D) m H x v) : RD K (rsv Z D) m' H' x v := by
  cases x with
  | dat p => exact RP.tr e.t (fun a vs h1 h2 => let ⟨q1, q2⟩ := e.l a vs h1 h2; ⟨⟨q1, h1.2⟩, q2⟩) p v h e.fz
  | cel a => exact ⟨h.1, e.c a h.2⟩
end
section
variable {Y : Cx} {tg iter tg2 iter2 elt : Expr} {ifs ifs2 : List Expr} {scope : Scope} {fi2 : DI} {g2 : DG} {t2 : DT} {f : DE} {pos : Pos}
end
end DL
set_option Elab.async false
set_option linter.all false
set_option maxRecDepth 100000
set_option maxHeartbeats 4000000
namespace DL
open PySem PySem.Spec PyProof.Rows L2
section
variable {X : Cx} {tg iter tg2 iter2 elt : Expr} {ifs ifs2 : List Expr} {scope : Scope} {NC : List Str} {fi fi2 : DI} {g g2 : DG} {t t2 : DT} {f : DE} {pos : Pos}
end
end DL
set_option Elab.async false
set_option linter.all false
set_option maxRecDepth 100000
set_option maxHeartbeats 4000000
namespace DL
open PySem PySem.Spec PyProof.Rows L2
section
variable {prog : Program} {w : World} {A : Around} {E : Value → Shared → Prop} {s : Shared}
end
end DL
set_option Elab.async false
set_option linter.all false
set_option maxRecDepth 100000
set_option maxHeartbeats 4000000
namespace DL
open PySem PySem.Spec PyProof.Rows L2
section
variable {X : Cx} {pins : List (Addr × Obj)} {σ : L2.St} {H : Hp} {s : Shared} {h' : Heap}
end
section
variable {prog : Program} {w : World} {A : Around} {E : Value → Shared → Prop} {s : Shared}
end
section
variable {X : Cx} {a b : Expr} {elts : List Expr} {j : Nat} {f g : DE} {pos p p2 : Pos}
end
end DL
set_option Elab.async false
set_option linter.all false
set_option maxRecDepth 100000
set_option maxHeartbeats 4000000
namespace DL
open PySem PySem.Spec PyProof.Rows L2
section
variable {X : Cx} {a e o : Expr} {es : List Expr} {f g : DE} {ga : DA} {pos p p1 p2 : Pos}
end
end DL
set_option Elab.async false
set_option linter.all false
set_option maxRecDepth 100000
set_option maxHeartbeats 4000000
namespace DL
open PySem PySem.Spec PyProof.Rows L2
def valP {κ : Type} [DecidableEq κ] (kvs : List (κ × PyData)) (k : κ) : Option PyData := (kvs.find? fun kv => decide (kv.1 = k)).map (·.2)
def putP {κ : Type} [DecidableEq κ] (kvs : List (κ × PyData)) (k : κ) (p : PyData) : List (κ × PyData) :=
  if (kvs.any fun kv => decide (kv.1 = k)) = true then kvs.map (fun kv => if kv.1 = k then (kv.1, p) else kv) else kvs ++ [(k, p)]
section
variable {κ : Type} [DecidableEq κ] {K : PySem.W.Frag} {Z : Addr → Prop} {m : Mu} {H : Hp}
theorem RKV.length : ∀ {kvs : List (κ × PyData)} {vs : List (κ × V)}, RKV K Z m H kvs vs → vs.length = kvs.length
  | [], _, h => by cases (show _ = [] from h); rfl
  | _ :: _, _, ⟨v, r, h1, _, h3⟩ => by subst h1; rw [List.length_cons, List.length_cons, RKV.length h3]
theorem RKV.val {k : κ} {p : PyData} : ∀ {kvs : List (κ × PyData)} {vs : List (κ × V)}, RKV K Z m H kvs vs → valP kvs k = some p → ∃ v, valV vs k = some v ∧ RP K Z m H p v
  | [], _, _, e => by simp [valP] at e
  | (j, q) :: xs, _, ⟨v, r, h1, h2, h3⟩, e => by
    subst h1
    unfold valP at e
    unfold valV
    by_cases c : j = k
    · simp [List.find?_cons, c] at e ⊢
      exact e ▸ h2
    · simp [List.find?_cons, c] at e ⊢
      have := RKV.val (k := k) (p := p) h3 (by unfold valP; simpa using e)
      unfold valV at this
      simpa using this
theorem RKV.any {k : κ} : ∀ {kvs : List (κ × PyData)} {vs : List (κ × V)}, RKV K Z m H kvs vs → (vs.any fun kv => decide (kv.1 = k)) = (kvs.any fun kv => decide (kv.1 = k))
  | [], _, h => by cases (show _ = [] from h); rfl
  | _ :: _, _, ⟨v, r, h1, _, h3⟩ => by subst h1; rw [List.any_cons, List.any_cons, RKV.any h3]
theorem RKV.repl {k : κ} {p : PyData} {v : V} (hp : RP K Z m H p v) : ∀ {kvs : List (κ × PyData)} {vs : List (κ × V)}, RKV K Z m H kvs vs → RKV K Z m H (kvs.map fun kv => if kv.1 = k then (kv.1, p) else kv) (vs.map fun kv => if kv.1 = k then (kv.1, v) else kv)
  | [], _, h => by cases (show _ = [] from h); exact (rfl : ([] : List (κ × V)) = [])
  | (j, q) :: xs, _, ⟨w, r, h1, h2, h3⟩ => by
    subst h1
    rw [List.map_cons, List.map_cons]
    by_cases c : j = k
    · rw [if_pos c, if_pos c]
      exact ⟨v, _, rfl, hp, RKV.repl hp h3⟩
    · rw [if_neg c, if_neg c]
      exact ⟨w, _, rfl, h2, RKV.repl hp h3⟩
theorem RKV.snoc {k : κ} {p : PyData} {v : V} (hp : RP K Z m H p v) : ∀ {kvs : List (κ × PyData)} {vs : List (κ × V)}, RKV K Z m H kvs vs → RKV K Z m H (kvs ++ [(k, p)]) (vs ++ [(k, v)])
  | [], _, h => by cases (show _ = [] from h); exact ⟨v, [], rfl, hp, rfl⟩
  | _ :: _, _, ⟨w, r, h1, h2, h3⟩ => by subst h1; exact ⟨w, _, rfl, h2, RKV.snoc hp h3⟩
theorem RKV.put {k : κ} {p : PyData} {v : V} {kvs : List (κ × PyData)} {vs : List (κ × V)} (h : RKV K Z m H kvs vs) (hp : RP K Z m H p v) : RKV K Z m H (putP kvs k p) (putK vs k v) := by
  unfold putP putK
  rw [h.any]
  split
  · exact h.repl hp
  · exact h.snoc hp
end
@[simp] def keyD : D → Option Key
  | .dat (.str z) => some (.inr z)
  | .dat (.int i) => some (.inl i)
  | _ => none
theorem RD.key {K : PySem.W.Frag} {Z : Addr → Prop} {m : Mu} {H : Hp} {x : D} {v : V} {k : Key} (h : RD K Z m H x v) (e : keyD x = some k) : v = kV k := by
  unfold keyD at e
  split at e
  · cases e; cases h.str; rfl
  · cases e; cases h.int; rfl
  · cases e
section
variable {X : Cx} {o i e : Expr} {fo fi f : DE} {pos tpos : Pos}
end
end DL
set_option Elab.async false
set_option linter.all false
set_option maxRecDepth 100000
set_option maxHeartbeats 4000000
namespace DL
open PySem PySem.Spec PyProof.Rows L2
open AutoSeq1 (wpAny_loadPart')
section
variable {prog : Program} {w : World} {A : Around} {E : Value → Shared → Prop} {s : Shared}
end
section
variable {X : Cx} {e : Expr} {f : DE} {pos p p2 pos2 : Pos}
end
end DL
set_option Elab.async false
set_option linter.all false
set_option maxRecDepth 100000
set_option maxHeartbeats 4000000
namespace DL
open PySem PySem.Spec PyProof.Rows L2
section
variable {X : Cx} {i e g : Expr} {fi f fg : DE} {p pos apos cpos : Pos}
end
end DL
set_option Elab.async false
set_option linter.all false
set_option maxRecDepth 100000
set_option maxHeartbeats 4000000
namespace DL
open PySem PySem.Spec PyProof.Rows L2
section
variable {X : Cx} {e g : Expr} {f fg : DE} {tg : Expr} {pos : Pos}
end
end DL
set_option Elab.async false
set_option linter.all false
set_option maxRecDepth 100000
set_option maxHeartbeats 4000000
namespace DL
open PySem PySem.Spec PyProof.Rows L2
section
variable {prog : Program} {w : World} {A : Around} {E : Value → Shared → Prop} {s : Shared}
end
section
variable {prog : Program} {w : World} {κ : Type} [DecidableEq κ] {knd : KeyKind prog w κ} {A : Around} {E : Value → Shared → Prop} {s : Shared}
end
end DL
set_option Elab.async false
set_option linter.all false
set_option maxRecDepth 100000
set_option maxHeartbeats 4000000
namespace DL
open PySem PySem.Spec PyProof.Rows L2
@[simp] def keysD : List D → Option (List Key)
  | [] => some []
  | x :: xs => match keyD x, keysD xs with
    | some k, some ks => some (k :: ks)
    | _, _ => none
theorem RDs.keys {K : PySem.W.Frag} {Z : Addr → Prop} {m : Mu} {H : Hp} : ∀ {xs : List D} {vs : List V} {ks : List Key}, RDs K Z m H xs vs → keysD xs = some ks → vs = ks.map kV
  | [], vs, ks, h, e => by
    cases e
    exact h
  | x :: xs, vs, ks, h, e => by
    obtain ⟨v, r, rfl, h1, h2⟩ := h
    unfold keysD at e
    cases e1 : keyD x with
    | none => rw [e1] at e; cases e
    | some k =>
      cases e2 : keysD xs with
      | none => rw [e1, e2] at e; cases e
      | some ks' =>
        rw [e1, e2] at e
        cases e
        rw [h1.key e1, RDs.keys h2 e2]
        rfl
section
variable {X : Cx} {o i e : Expr} {es : List Expr} {fo f : DE} {fa : DA} {pos tpos ipos : Pos} {j : Nat}
end
end DL
set_option Elab.async false
set_option linter.all false
set_option maxRecDepth 100000
set_option maxHeartbeats 4000000
namespace DL
open PySem PySem.Spec PyProof.Rows L2
section
variable {X : Cx} {e : Expr} {f : DE} {pos p : Pos}
end
end DL
set_option Elab.async false
set_option linter.all false
set_option maxRecDepth 100000
set_option maxHeartbeats 4000000
namespace DL
open PySem PySem.Spec PyProof.Rows L2
section
variable {X : Cx} {pins : List (Addr × Obj)} {σ : L2.St} {H : Hp} {s : Shared}
end
theorem KT.rp {K : PySem.W.Frag} {a : Addr} {zs : List Str} {Z : Addr → Prop} {m : Mu} {H : Hp} (h : KT K a zs) : RP K Z m H (.tuple (zs.map PyData.str)) (.ref a) := by
  simp only [RP]
  exact ⟨a, _, rfl, h.sq, strs_rps zs⟩
section
variable {X : Cx} {e g : Expr} {fi fg : DE} {p apos cpos : Pos}
end
end DL
set_option Elab.async false
set_option linter.all false
set_option maxRecDepth 100000
set_option maxHeartbeats 4000000
namespace DL
open PySem PySem.Spec PyProof.Rows L2
section
variable {X : Cx} {o e : Expr} {f g : DE} {apos cpos : Pos}
end
end DL
set_option Elab.async false
set_option linter.all false
set_option maxRecDepth 100000
set_option maxHeartbeats 4000000
namespace DL
open PySem PySem.Spec PyProof.Rows L2
section
variable {X : Cx} {a : Expr} {f : DE} {pos p2 : Pos}
end
end DL
set_option Elab.async false
set_option linter.all false
set_option maxRecDepth 100000
set_option maxHeartbeats 4000000
namespace DL
open PySem PySem.Spec PyProof.Rows L2
section
variable {X : Cx} {a : Expr} {elts : List Expr} {j : Nat} {f : DE} {pos p p2 : Pos}
end
end DL
set_option Elab.async false
set_option linter.all false
set_option maxRecDepth 100000
set_option maxHeartbeats 4000000
namespace DL
open PySem PySem.Spec PyProof.Rows L2
section
variable {prog : Program} {w : World} {A : Around} {E : Value → Shared → Prop} {s : Shared}
end
section
variable {X : Cx} {a : Expr} {elts : List Expr} {j : Nat} {f : DE} {pos p p2 : Pos}
end
end DL
set_option Elab.async false
set_option linter.all false
set_option maxRecDepth 100000
set_option maxHeartbeats 4000000
namespace DL
open PySem PySem.Spec PyProof.Rows L2
section
variable {prog : Program} {w : World} {A : Around} {E : Value → Shared → Prop} {s : Shared}
end
section
variable {X : Cx} {a b : Expr} {elts : List Expr} {j : Nat} {f g : DE} {pos p p2 : Pos}
end
end DL
set_option Elab.async false
set_option linter.all false
set_option maxRecDepth 100000
set_option maxHeartbeats 4000000
namespace DL
open PySem PySem.Spec PyProof.Rows L2
section
variable {K : PySem.W.Frag} {Z : Addr → Prop} {m m' : Mu} {H : Hp}
def offM (m : Mu) (a : Addr) : Mu := fun b => if b = a then none else m b
theorem off_none {a b : Addr} (h : m b = none) : offM m a b = none := by unfold offM; split <;> first | rfl | exact h
end
section
variable {X : Cx} {a : Expr} {f : DE} {pos p2 : Pos}
end
end DL
set_option Elab.async false
set_option linter.all false
set_option maxRecDepth 100000
set_option maxHeartbeats 4000000
namespace DL
open PySem PySem.Spec PyProof.Rows L2
section
variable {prog : Program} {w : World} {A : Around} {E : Value → Shared → Prop} {s : Shared}
end
section
variable {prog : Program} {w : World} {κ : Type} [DecidableEq κ] {knd : KeyKind prog w κ} {A : Around} {E : Value → Shared → Prop} {s : Shared}
end
section
variable {X : Cx} {e : Expr} {f : DE} {pos p : Pos}
end
end DL
set_option Elab.async false
set_option linter.all false
set_option maxRecDepth 100000
set_option maxHeartbeats 4000000
namespace DL
open PySem PySem.Spec PyProof.Rows L2
section
variable {prog : Program} {w : World} {A : Around} {E : Value → Shared → Prop} {s : Shared}
end
end DL
set_option Elab.async false
set_option linter.all false
set_option maxRecDepth 100000
set_option maxHeartbeats 4000000
namespace DL
open PySem PySem.Spec PyProof.Rows L2
section
variable {prog : Program} {w : World} {A : Around} {E : Value → Shared → Prop} {s : Shared}
end
section
variable {X : Cx} {pins : List (Addr × Obj)} {σ : L2.St}
def PairsH (H : Hp) (xs ys : List V) (ps : List Addr) : Prop := ∀ (j : Nat) (p : Addr), ps[j]? = some p → ∃ x y, xs[j]? = some x ∧ ys[j]? = some y ∧ H p = some (.tup [x, y])
theorem PairsH.same {H H' : Hp} {xs ys : List V} {ps : List Addr} (h : PairsH H xs ys ps) (e : Same H H') : PairsH H' xs ys ps := fun j p q => let ⟨x, y, h1, h2, h3⟩ := h j p q; ⟨x, y, h1, h2, e _ _ h3⟩
theorem PairsH.snoc {H : Hp} {xs ys : List V} {ps : List Addr} {a : Addr} {x y : V} (h : PairsH H xs ys ps) (hx : xs[ps.length]? = some x) (hy : ys[ps.length]? = some y) (ha : H a = some (.tup [x, y])) : PairsH H xs ys (ps ++ [a]) := fun j p q => by
  rcases Nat.lt_or_ge j ps.length with c | c
  · rw [List.getElem?_append_left c] at q
    exact h j p q
  · rw [List.getElem?_append_right c] at q
    have : j - ps.length = 0 := by
      rcases Nat.eq_zero_or_pos (j - ps.length) with z | z
      · exact z
      · rw [List.getElem?_eq_none (by simp; omega)] at q; cases q
    rw [this] at q
    cases q
    have e : j = ps.length := by omega
    subst e
    exact ⟨x, y, hx, hy, ha⟩
end
end DL
set_option Elab.async false
set_option linter.all false
set_option maxRecDepth 100000
set_option maxHeartbeats 4000000
namespace DL
open PySem PySem.Spec PyProof.Rows L2
open AutoSeq1 (wpAny_loadPart')
section
variable {X : Cx} {pins : List (Addr × Obj)} {σ : L2.St}
end
end DL
set_option Elab.async false
set_option linter.all false
set_option maxRecDepth 100000
set_option maxHeartbeats 4000000
namespace DL
open PySem PySem.Spec PyProof.Rows L2
open AutoSeq1 (wpAny_loadPart')
section
variable {X : Cx} {pins : List (Addr × Obj)} {σ : L2.St}
end
section
variable {X : Cx} {a b : Expr} {f g : DE} {pos p p2 pos2 : Pos}
end
end DL
set_option Elab.async false
set_option linter.all false
set_option maxRecDepth 100000
set_option maxHeartbeats 4000000
namespace DL
open PySem PySem.Spec PyProof.Rows L2
section
variable {X : Cx} {o e : Expr} {f g : DE}
end
end DL
set_option Elab.async false
set_option linter.all false
set_option maxRecDepth 100000
set_option maxHeartbeats 4000000
namespace DL
open PySem PySem.Spec PyProof.Rows L2
section
variable {K : PySem.W.Frag} {Z : Addr → Prop} {m m1 : Mu} {H H1 : Hp}
theorem Ok.off {a : Addr} (ok : Ok K Z m H) : Ok K Z (offM m a) H :=
  ⟨fun b c h => by
    unfold offM at h
    split at h
    · cases h
    · obtain ⟨o, h1, h2⟩ := ok.g b c h
      exact ⟨o, h1, h2.lift fun p v q => RP.tr (fun _ _ q => q) (fun b ws q1 q2 => ⟨⟨off_none q1.1, q1.2⟩, q2⟩) p v q⟩, fun b hz => ⟨off_none (ok.z b hz).1, (ok.z b hz).2⟩⟩
theorem Ext.off {a : Addr} (e : Ext K Z m H m1 H1) (h : m a = none) : Ext K Z m H (offM m1 a) H1 :=
  ⟨e.t, fun b vs h1 h2 => let ⟨q1, q2⟩ := e.l b vs h1 h2; ⟨off_none q1, q2⟩, e.z, fun b hb => by
    unfold offM
    split
    · rename_i q; rw [q, h] at hb; cases hb
    · exact e.c b hb, e.fz, fun b hb => by
    unfold offM
    split
    · rename_i q; rw [q, h] at hb; cases hb
    · exact e.fm b hb, e.ll⟩
end
section
variable {X : Cx} {e : Expr} {f : DE}
end
end DL
set_option Elab.async false
set_option linter.all false
set_option maxRecDepth 100000
set_option maxHeartbeats 4000000
namespace DL
open PySem PySem.Spec PyProof.Rows L2
section
variable {X : Cx} {pos : Pos}
variable {o e : Expr} {f g : DE}
end
end DL
set_option Elab.async false
set_option linter.all false
set_option maxRecDepth 100000
set_option maxHeartbeats 4000000
namespace DL
open PySem PySem.Spec PyProof.Rows L2
section
variable {X : Cx} {o i : Expr} {fo fi : DE} {pos : Pos}
end
end DL
set_option Elab.async false
set_option linter.all false
set_option maxRecDepth 100000
set_option maxHeartbeats 4000000
namespace DL
open PySem PySem.Spec PyProof.Rows L2
section
variable {X : Cx} {e : Expr} {f : DE} {pos p p2 pos2 : Pos}
variable {e2 : Expr} {f2 : DE}
end
end DL
set_option Elab.async false
set_option linter.all false
set_option maxRecDepth 100000
set_option maxHeartbeats 4000000
namespace DL
open PySem PySem.Spec PyProof.Rows L2
section
variable {X : Cx} {a b c : Expr} {f g h : DE} {pos : Pos}
end
end DL
set_option Elab.async false
set_option linter.all false
set_option maxRecDepth 100000
set_option maxHeartbeats 4000000
namespace DL
open PySem PySem.Spec PyProof.Rows L2
section
variable {K : PySem.W.Frag} {Z : Addr → Prop} {m : Mu} {H : Hp}
end
section
variable {X : Cx}
end
end DL
set_option Elab.async false
set_option linter.all false
set_option maxRecDepth 100000
set_option maxHeartbeats 4000000
namespace DL
open PySem PySem.Spec PyProof.Rows L2
section
variable {X : Cx}
end
end DL
set_option Elab.async false
set_option linter.all false
set_option maxRecDepth 100000
set_option maxHeartbeats 4000000
namespace DL
open PySem PySem.Spec PyProof.Rows L2
section
variable {P : Program} {w : World} {A : Around} {E : Value → Shared → Prop} {s : Shared} {it d : Addr} {i ep : Nat} {es : Array DictEntry} {od : Obj}
end
theorem Paired.at {α β : Type} {r : α → β → Prop} : ∀ {xs : List α} {ys : List β} {i : Nat} {x : α}, Paired r xs ys → xs[i]? = some x → ∃ y, ys[i]? = some y ∧ r x y
  | _, _, _, _, .nil, e => by simp at e
  | _, _, 0, x, .cons h _, e => by
    simp at e
    subst e
    exact ⟨_, rfl, h⟩
  | _, _, i + 1, x, .cons _ h, e => by
    obtain ⟨y, h1, h2⟩ := Paired.at (i := i) h (by simpa using e)
    exact ⟨y, by simpa using h1, h2⟩
theorem Paired.len {α β : Type} {r : α → β → Prop} : ∀ {xs : List α} {ys : List β}, Paired r xs ys → xs.length = ys.length
  | _, _, .nil => rfl
  | _, _, .cons _ h => by rw [List.length_cons, List.length_cons, Paired.len h]
section
variable {X : Cx} {a : Expr} {tg : Expr} {f : DE}
end
section
variable {X : Cx} {o : Expr} {es : List Expr} {fo : DE} {fa : DA} {pos ipos : Pos} {j : Nat}
theorem Ok.ft {K : PySem.W.Frag} {Z : Addr → Prop} {m : Mu} {H : Hp} {a : Addr} {xs : List (List Key × PyData)} (ok : Ok K Z m H) (h : m a = some (.ft xs)) : ∃ ob vs, H a = some (.frz ob (.dT vs)) ∧ RKV K Z m H xs vs := by
  obtain ⟨o, h1, h2⟩ := ok.g a _ h
  cases o with
  | frz ob u => cases u <;> first | exact ⟨_, _, h1, h2⟩ | exact h2.elim
  | _ => exact h2.elim
end
end DL
set_option Elab.async false
set_option linter.all false
set_option maxRecDepth 100000
set_option maxHeartbeats 4000000
namespace DL
open PySem PySem.Spec PyProof.Rows L2
def kaV (kas : List (Key × Addr)) : List (Key × V) := kas.map fun x => (x.1, V.ref x.2)
theorem Ok.dl {K : PySem.W.Frag} {Z : Addr → Prop} {m : Mu} {H : Hp} {a : Addr} {kas : List (Key × Addr)} (ok : Ok K Z m H) (h : m a = some (.dl kas)) : H a = some (.dK (kaV kas)) := by
  obtain ⟨o, h1, h2⟩ := ok.g a _ h
  cases o <;> first | (cases (show _ = kaV kas from h2); exact h1) | exact h2.elim
section
variable {X : Cx} {o i e : Expr} {fo fi f : DE} {pos tpos : Pos}
end
end DL
set_option Elab.async false
set_option linter.all false
set_option maxRecDepth 100000
set_option maxHeartbeats 4000000
namespace DL
open PySem PySem.Spec PyProof.Rows L2
def many (n lo st : Nat) : Nat := if lo < n then (n - lo - 1) / st + 1 else 0
def places (n lo st : Nat) : List Nat := (List.range (many n lo st)).map fun k => lo + k * st
theorem Vals.at {xs : List V} {us : List Value} : ∀ {i : Nat} {x : V}, Vals xs us → xs[i]? = some x → ∃ u, us[i]? = some u ∧ RelV x u := fun h e => h.get e
section
variable {prog : Program} {w : World} {A : Around} {E : Value → Shared → Prop} {s : Shared}
end
section
variable {X : Cx} {a lo st : Expr} {f g h : DE} {pos p2 : Pos}
end
end DL
set_option Elab.async false
set_option linter.all false
set_option maxRecDepth 100000
set_option maxHeartbeats 4000000
namespace DL
open PySem PySem.Spec PyProof.Rows L2
def TSet (P : Program) (w : World) (h : Heap) (a : Addr) (zs : List Str) : Prop :=
  ∃ o es ep t, h.get? a = some o ∧ o.ExactSet ∧ o.data = .set es ep t ∧ ElemsOf (mixKind P w) es.toList ∧ (∃ vs, StrsAre (es.toList.map (·.2)) vs ∧ vs.Perm zs) ∧ zs.Nodup ∧ es.size < scanBound ∧ t.fits es.size = true ∧ t.led = !w.params.followText "set-order" ∧ (zs ≠ [] → t.plain = false)
theorem StrsAre.snoc : ∀ {l : List Value} {vs : List Str} (z : Str) (tk : Tok), StrsAre l vs → StrsAre (l ++ [.str z tk]) (vs ++ [z])
  | _, _, z, tk, .nil => .cons z tk .nil
  | _, _, z, tk, .cons x t h => .cons x t (StrsAre.snoc z tk h)
section
variable {P : Program} {w : World} {A : Around} {E : Value → Shared → Prop} {s : Shared} {a : Addr} {zs : List Str} {z : Str} {tk : Tok}
theorem TSet.len {h : Heap} (T : TSet P w h a zs) : ∃ o es ep t, h.get? a = some o ∧ o.data = .set es ep t ∧ es.size = zs.length := by
  obtain ⟨o, es, ep, t, h1, _, h3, _, ⟨vs, h5, h6⟩, _⟩ := T
  refine ⟨o, es, ep, t, h1, h3, ?_⟩
  have q1 := congrArg List.length h5.strs
  have q2 := h6.length_eq
  simp at q1
  omega
end
end DL
set_option Elab.async false
set_option linter.all false
set_option maxRecDepth 100000
set_option maxHeartbeats 4000000
namespace DL
open PySem PySem.Spec PyProof.Rows L2
section
variable {P : Program} {w : World} {A : Around} {R : Result → Shared → Prop} {I : Addr} {fp wr : List Addr} {G : Array GenState → Array GenState → Prop} {n : Nat} {Pv : Nat → Value → Prop} {St : Nat → Shared → Prop}
theorem TSet.at {h h' : Heap} {a : Addr} {zs : List Str} (T : TSet P w h a zs) (k : ∀ o, h.get? a = some o → h'.get? a = some o) : TSet P w h' a zs := by
  obtain ⟨o, es, ep, t, ho, rest⟩ := T
  exact ⟨o, es, ep, t, k o ho, rest⟩
end
end DL
set_option Elab.async false
set_option linter.all false
set_option maxRecDepth 100000
set_option maxHeartbeats 4000000
namespace DL
open PySem PySem.Spec PyProof.Rows L2
section
variable {P : Program} {w : World} {A : Around} {E : Value → Shared → Prop} {s : Shared}
end
end DL
set_option Elab.async false
set_option linter.all false
set_option maxRecDepth 100000
set_option maxHeartbeats 4000000
namespace DL
open PySem PySem.Spec PyProof.Rows L2
end DL
set_option Elab.async false
set_option linter.all false
set_option maxRecDepth 100000
set_option maxHeartbeats 4000000
namespace DL
open PySem PySem.Spec PyProof.Rows L2
section
variable {P : Program} {w : World} {A : Around} {E : Value → Shared → Prop} {s : Shared} {I S T : Addr} {o : Obj} {es : Array (Int × Value)} {ep i : Nat} {t : SetTable} {places : Array Value}
end
end DL
set_option Elab.async false
set_option linter.all false
set_option maxRecDepth 100000
set_option maxHeartbeats 4000000
namespace DL
open PySem PySem.Spec PyProof.Rows L2
section
variable {P : Program} {w : World} {A : Around} {E : Value → Shared → Prop} {s : Shared} {I S T : Addr} {o : Obj} {es : Array (Int × Value)} {ep i slot : Nat} {t : SetTable}
end
end DL
set_option Elab.async false
set_option linter.all false
set_option maxRecDepth 100000
set_option maxHeartbeats 4000000
namespace DL
open PySem PySem.Spec PyProof.Rows L2
section
variable {P : Program} {w : World} {A : Around} {E : Value → Shared → Prop} {s : Shared} {I S T : Addr} {o : Obj} {es : Array (Int × Value)} {ep i slot : Nat} {t : SetTable}
end
end DL
set_option Elab.async false
set_option linter.all false
set_option maxRecDepth 100000
set_option maxHeartbeats 4000000
namespace DL
open PySem PySem.Spec PyProof.Rows L2
section
variable {P : Program} {w : World} {A : Around} {E : Value → Shared → Prop} {s : Shared} {I S T : Addr} {o : Obj} {es : Array (Int × Value)} {ep i slot : Nat} {t : SetTable}
end
end DL
set_option Elab.async false
set_option linter.all false
set_option maxRecDepth 100000
set_option maxHeartbeats 4000000
namespace DL
open PySem PySem.Spec PyProof.Rows L2
section
variable {P : Program} {w : World} {A : Around} {E : Value → Shared → Prop} {s : Shared} {S : Addr} {zs : List Str}
theorem TSet.type {h : Heap} (T : TSet P w h S zs) : ∃ o, h.get? S = some o ∧ o.cls = .type "set" := let ⟨o, _, _, _, ho, hx, _⟩ := T; ⟨o, ho, hx.1⟩
end
end DL
set_option Elab.async false
set_option linter.all false
set_option maxRecDepth 100000
set_option maxHeartbeats 4000000
namespace DL
open PySem PySem.Spec PyProof.Rows L2
section
variable {X : Cx} {e : Expr} {f : DE} {pos p p2 pos2 : Pos}
end
end DL
set_option Elab.async false
set_option linter.all false
set_option maxRecDepth 100000
set_option maxHeartbeats 4000000
namespace DL
open PySem PySem.Spec PyProof.Rows L2
section
variable {X : Cx} {a : Expr} {tg : Expr} {f : DE}
end
end DL
set_option Elab.async false
set_option linter.all false
set_option maxRecDepth 100000
set_option maxHeartbeats 4000000
namespace DL
open PySem PySem.Spec PyProof.Rows L2
section
variable {X : Cx}
end
end DL
set_option Elab.async false
set_option linter.all false
set_option maxRecDepth 100000
set_option maxHeartbeats 4000000
namespace DL
open PySem PySem.Spec PyProof.Rows L2
section
variable {X : Cx}
end
end DL
set_option Elab.async false
set_option linter.all false
set_option maxRecDepth 100000
set_option maxHeartbeats 4000000
namespace DL
open PySem PySem.Spec PyProof.Rows L2
section
variable {K : PySem.W.Frag} {Z : Addr → Prop} {m : Mu} {H : Hp}
theorem RD.rw {x : D} {v : V} (h : RD K Z m H x v) : RW K Z m H x v := by
  cases x with
  | dat p => exact h
  | cel a => exact h.1
theorem RW.rd {x : D} {v : V} (h : RW K Z m H x v) (hc : ∀ a, x = .cel a → (m a).isSome = true) : RD K Z m H x v := by
  cases x with
  | dat p => exact h
  | cel a => exact ⟨h, hc a rfl⟩
theorem RKW.length {κ : Type} : ∀ {fs : List (κ × D)} {vs : List (κ × V)}, RKW K Z m H fs vs → vs.length = fs.length
  | [], _, h => by cases (show _ = [] from h); rfl
  | (_, _) :: _, _, ⟨v, r, h1, _, h3⟩ => by subst h1; rw [List.length_cons, List.length_cons, h3.length]
theorem Ok.o {a : Addr} {N : Str} {fs : List (Str × D)} (ok : Ok K Z m H) (h : m a = some (.o N fs)) : ∃ C dx vs, H a = some (.ins C dx vs) ∧ PySem.W.nsIn K mainGlobals N = some (some (.ref C)) ∧ RKW K Z m H fs vs := by
  obtain ⟨o, h1, h2⟩ := ok.g a _ h
  cases o <;> first | exact ⟨_, _, _, h1, h2⟩ | exact h2.elim
end
section
variable {X : Cx} {o e : Expr} {es : List Expr} {fo fe : DE} {ga : DA} {pos pos' tpos apos p : Pos} {N f : Str} {C : Addr}
end
end DL
set_option Elab.async false
set_option linter.all false
set_option maxRecDepth 100000
set_option maxHeartbeats 4000000
namespace DL
open PySem PySem.Spec PyProof.Rows L2
section
variable {κ β : Type} [DecidableEq κ]
def valG (kvs : List (κ × β)) (k : κ) : Option β := (kvs.find? fun kv => decide (kv.1 = k)).map (·.2)
def putG (kvs : List (κ × β)) (k : κ) (v : β) : List (κ × β) :=
  if (kvs.any fun kv => decide (kv.1 = k)) = true then kvs.map (fun kv => if kv.1 = k then (kv.1, v) else kv) else kvs ++ [(k, v)]
theorem valG_pos {p : κ × β} {r : List (κ × β)} {k : κ} (e : p.1 = k) : valG (p :: r) k = some p.2 := by simp [valG, List.find?_cons, e]
theorem valG_neg {p : κ × β} {r : List (κ × β)} {k : κ} (e : ¬ p.1 = k) : valG (p :: r) k = valG r k := by simp [valG, List.find?_cons, e]
end
section
variable {κ : Type} [DecidableEq κ] {K : PySem.W.Frag} {Z : Addr → Prop} {m : Mu} {H : Hp}
theorem RKW.val {k : κ} : ∀ {kvs : List (κ × D)} {vs : List (κ × V)}, RKW K Z m H kvs vs → (∀ x, valG kvs k = some x → ∃ v, valV vs k = some v ∧ RW K Z m H x v) ∧ (valG kvs k).isSome = (valV vs k).isSome
  | [], _, h => by cases (show _ = [] from h); exact ⟨fun x e => (nomatch e), rfl⟩
  | (g, y) :: fs, _, ⟨v, r, h1, h2, h3⟩ => by
    subst h1
    obtain ⟨i1, i2⟩ := h3.val (k := k)
    by_cases e : g = k
    · rw [valG_pos (p := (g, y)) e, valV_pos (p := (g, v)) e]
      exact ⟨fun x q => by cases q; exact ⟨v, rfl, h2⟩, rfl⟩
    · rw [valG_neg (p := (g, y)) e, valV_neg (p := (g, v)) e]
      exact ⟨i1, i2⟩
theorem RKW.any {k : κ} : ∀ {kvs : List (κ × D)} {vs : List (κ × V)}, RKW K Z m H kvs vs → (vs.any fun kv => decide (kv.1 = k)) = (kvs.any fun kv => decide (kv.1 = k))
  | [], _, h => by cases (show _ = [] from h); rfl
  | (g, y) :: fs, _, ⟨v, r, h1, h2, h3⟩ => by subst h1; rw [List.any_cons, List.any_cons, h3.any]
theorem RKW.repl {k : κ} {x : D} {v : V} (hx : RW K Z m H x v) : ∀ {kvs : List (κ × D)} {vs : List (κ × V)}, RKW K Z m H kvs vs → RKW K Z m H (kvs.map fun kv => if kv.1 = k then (kv.1, x) else kv) (vs.map fun kv => if kv.1 = k then (kv.1, v) else kv)
  | [], _, h => by cases (show _ = [] from h); rfl
  | (g, y) :: fs, _, ⟨w, r, h1, h2, h3⟩ => by
    subst h1
    rw [List.map_cons, List.map_cons]
    by_cases e : g = k
    · rw [if_pos (show ((g, y) : κ × D).1 = k from e), if_pos (show ((g, w) : κ × V).1 = k from e)]; exact ⟨v, _, rfl, hx, h3.repl hx⟩
    · rw [if_neg (show ¬ ((g, y) : κ × D).1 = k from e), if_neg (show ¬ ((g, w) : κ × V).1 = k from e)]; exact ⟨w, _, rfl, h2, h3.repl hx⟩
theorem RKW.snoc {k : κ} {x : D} {v : V} (hx : RW K Z m H x v) : ∀ {kvs : List (κ × D)} {vs : List (κ × V)}, RKW K Z m H kvs vs → RKW K Z m H (kvs ++ [(k, x)]) (vs ++ [(k, v)])
  | [], _, h => by cases (show _ = [] from h); exact ⟨v, [], rfl, hx, rfl⟩
  | (g, y) :: fs, _, ⟨w, r, h1, h2, h3⟩ => by subst h1; exact ⟨w, _, rfl, h2, h3.snoc hx⟩
theorem RKW.put {k : κ} {x : D} {v : V} {kvs : List (κ × D)} {vs : List (κ × V)} (h : RKW K Z m H kvs vs) (hx : RW K Z m H x v) : RKW K Z m H (putG kvs k x) (putK vs k v) := by
  unfold putG putK
  rw [h.any]
  split
  · exact h.repl hx
  · exact h.snoc hx
theorem Ok.n {a : Addr} {kvs : List (List PyData × D)} (ok : Ok K Z m H) (h : m a = some (.n kvs)) : ∃ vs, H a = some (.dN K vs) ∧ RKW K Z m H kvs vs := by
  obtain ⟨o, h1, h2⟩ := ok.g a _ h
  cases o <;> first | (obtain ⟨rfl, h2⟩ := h2; exact ⟨_, h1, h2⟩) | exact h2.elim
end
section
variable {X : Cx} {pins : List (Addr × Obj)} {σ : L2.St} {H : Hp} {s : Shared}
mutual
theorem NKV.reads (I : Inv X pins σ H s) : ∀ (p : PyData) (v : V) (u : Value), NKV X.K H p v → RelV v u → ∃ as, Reads s.heap u p as
  | .int i, v, u, h, r => by simp only [NKV] at h; subst h; obtain ⟨t, rfl⟩ := r; exact ⟨_, .int i t⟩
  | .str x, v, u, h, r => by simp only [NKV] at h; subst h; obtain ⟨t, rfl⟩ := r; exact ⟨_, .str x t⟩
  | .tuple xs, v, u, h, r => by
    simp only [NKV] at h
    obtain ⟨a, vs, rfl, h2, h3⟩ := h
    cases r
    obtain ⟨its, rv, ⟨o, e, c, n, d⟩, _⟩ := I.tuple h2
    obtain ⟨as, q⟩ := NKVs.reads I xs vs its h3 rv
    exact ⟨_, .tuple e c d (by simpa using q)⟩
  | .none, _, _, h, _ | .bool _, _, _, h, _ | .list _, _, _, h, _ | .dict _, _, _, h, _ => by simp only [NKV] at h
theorem NKVs.reads (I : Inv X pins σ H s) : ∀ (xs : List PyData) (vs : List V) (us : List Value), NKVs X.K H xs vs → Vals vs us → ∃ as, ReadsAll s.heap us xs as
  | [], vs, us, h, r => by simp only [NKVs] at h; subst h; cases r; exact ⟨_, .nil⟩
  | x :: xs, vs, us, h, r => by
    simp only [NKVs] at h
    obtain ⟨v, w, rfl, h1, h2⟩ := h
    cases r with
    | cons r1 r2 =>
      obtain ⟨as, q1⟩ := NKV.reads I x v _ h1 r1
      obtain ⟨bs, q2⟩ := NKVs.reads I xs w _ h2 r2
      exact ⟨_, .cons q1 q2⟩
end
abbrev KN (K : PySem.W.Frag) (H : Hp) : List (List PyData × V) → List (List PyData × Addr × Value) → Prop :=
  Paired fun p q => p.1 = q.1 ∧ (L2.isKs p.1 = true ∧ PyData.depthAll p.1 ≤ 6 ∧ NKV K H (.tuple p.1) (.ref q.2.1)) ∧ RelV p.2 q.2.2
theorem KN.val {K : PySem.W.Frag} {kvs : List (List PyData × V)} {xs : List (List PyData × Addr × Value)} (r : KN K H kvs xs) (k : List PyData) : RelO (valV kvs k) ((atKey xs k).map (·.2)) := by
  induction r with
  | nil => exact True.intro
  | @cons p q ps qs h t ih =>
    obtain ⟨h1, _, h2⟩ := h
    by_cases e : p.1 = k
    · have e' : q.1 = k := h1.symm.trans e
      have b : atKey (q :: qs) k = some q.2 := by simp [atKey, List.find?_cons, e']
      rw [valV_pos e, b]; exact h2
    · have e' : ¬ q.1 = k := fun z => e (h1.trans z)
      have b : atKey (q :: qs) k = atKey qs k := by simp [atKey, List.find?_cons, e']
      rw [valV_neg e, b]; exact ih
theorem KN.repl {K : PySem.W.Frag} {kvs : List (List PyData × V)} {xs : List (List PyData × Addr × Value)} (r : KN K H kvs xs) (k : List PyData) {y : V} {u : Value} (ry : RelV y u) :
    KN K H (kvs.map fun kv => if kv.1 = k then (kv.1, y) else kv) (xs.map (putAt k u)) := by
  induction r with
  | nil => exact .nil
  | @cons p q ps qs h t ih =>
    rw [List.map_cons, List.map_cons]
    refine .cons ?_ ih
    obtain ⟨h1, h2, h3⟩ := h
    unfold putAt
    by_cases e : p.1 = k
    · rw [if_pos e, if_pos (h1.symm.trans e)]; exact ⟨h1, h2, ry⟩
    · rw [if_neg e, if_neg (fun z => e (h1.trans z))]; exact ⟨h1, h2, h3⟩
theorem KN.put {K : PySem.W.Frag} {kvs : List (List PyData × V)} {xs : List (List PyData × Addr × Value)} (r : KN K H kvs xs) (k : List PyData) {b : Addr} {y : V} {u : Value} (hb : L2.isKs k = true ∧ PyData.depthAll k ≤ 6 ∧ NKV K H (.tuple k) (.ref b)) (ry : RelV y u) :
    KN K H (putK kvs k y) (storedH xs k b u) := by
  have e : (kvs.any fun kv => decide (kv.1 = k)) = (atKey xs k).isSome := by
    rw [valV_any, (r.val k).isSome_eq, Option.isSome_map]
  unfold putK storedH
  rw [e]
  by_cases q : (atKey xs k).isSome = true
  · rw [if_pos q, if_pos q]; exact r.repl k ry
  · rw [if_neg q, if_neg q]; exact Paired.snoc r ⟨rfl, hb, ry⟩
end
section
variable {X : Cx} {o i e : Expr} {fo fi f : DE} {pos tpos : Pos}
end
end DL
set_option Elab.async false
set_option linter.all false
set_option maxRecDepth 100000
set_option maxHeartbeats 4000000
namespace DL
open PySem PySem.Spec PyProof.Rows L2
section
variable {X : Cx} {o e : Expr} {f g : DE} {pos : Pos}
end
section
variable {X : Cx} {o e : Expr} {f g : DE} {pos : Pos}
end
end DL
set_option Elab.async false
set_option linter.all false
set_option maxRecDepth 100000
set_option maxHeartbeats 4000000
namespace DL
open PySem PySem.Spec PyProof.Rows L2
section
variable {prog : Program} {w : World} {A : Around} {R : Result → Shared → Prop} {s : Shared} {e tg iter : Expr} {ifs : List Expr} {emit : Addr → Env → Sem Unit}
end
section
variable {K : PySem.W.Frag} {Z : Addr → Prop} {m m1 m' : Mu} {H H1 H' : Hp} {D : Addr} {o0 o1 : HO}
end
section
variable {X : Cx} {e tg iter : Expr} {ifs : List Expr} {emit : Addr → Env → Sem Unit} {scope : Scope} {NC : List Str} {fi : DI} {g : DG} {t : DT} {α : Type} {AR : Addr → (Addr → Prop) → Mu → Hp → α → HO → Prop} {fE : St2 → Mu → α → (α → Mu → Prop) → Prop} {newAcc : Sem Value} {ob : Obj} {a0 : α} {o0 : Addr → HO}
end
end DL
set_option Elab.async false
set_option linter.all false
set_option maxRecDepth 100000
set_option maxHeartbeats 4000000
namespace DL
open PySem PySem.Spec PyProof.Rows L2
def tabB (sl : List Int → List Nat) (led : Bool) (zs : List Int) : SetTable := { mask := 7, place := (sl zs).toArray, dummies := #[], finger := 0, led := led, moves := 0, plain := true }
def es3 (zs : List Int) (tks : List Tok) : Array (Int × Value) := (List.zipWith (fun z t => (hashInt z, Value.int z t)) zs tks).toArray
structure SD where
  dom : List Int
  sub : List Int → Prop
  sl : List Int → List Nat
  to : List Int → Int → Nat
  ins : List Int → Int → List Int
  cap : Nat
  nil : sub []
  nil' : sl [] = []
  len : ∀ zs, sub zs → zs.length ≤ 3 ∧ (∀ led, (tabB sl led zs).fits zs.length = true)
  free : ∀ led zs, sub zs → ∀ z ∈ dom, z ∉ zs → zs.length < cap → (tabB sl led zs).freeSlot (hashInt z) = some (to zs z, false) ∧ (tabB sl led zs).put (to zs z) = (tabB sl led (ins zs z), SetTable.below (sl zs).toArray (to zs z)) ∧ (tabB sl led (ins zs z)).fits (zs.length + 1) = true ∧
    ins zs z = zs.take (SetTable.below (sl zs).toArray (to zs z)) ++ z :: zs.drop (SetTable.below (sl zs).toArray (to zs z)) ∧ sub (ins zs z) ∧ (tabB sl led (ins zs z)).tooFull = false
  old : ∀ zs, sub zs → ∀ z ∈ zs, ins zs z = zs
  st : ∀ zs, sub zs → ∀ i j : Nat, ((sl zs).toArray)[i]? = some j → SetTable.below (sl zs).toArray (j + 1) = i + 1
  bel : ∀ zs, sub zs → SetTable.below (sl zs).toArray 0 = 0
def ISetB (B : SD) (P : Program) (w : World) (h : Heap) (a : Addr) (zs : List Int) : Prop :=
  ∃ o tks ep, h.get? a = some o ∧ o.ExactSet ∧ B.sub zs ∧ tks.length = zs.length ∧ o.data = .set (es3 zs tks) ep (tabB B.sl (!w.params.followText "set-order") zs)
theorem ISetB.at {B : SD} {P : Program} {w : World} {h h' : Heap} {a : Addr} {zs : List Int} (T : ISetB B P w h a zs) (k : ∀ o, h.get? a = some o → h'.get? a = some o) : ISetB B P w h' a zs := by
  obtain ⟨o, tks, ep, ho, rest⟩ := T
  exact ⟨o, tks, ep, k o ho, rest⟩
section
variable {P : Program} {w : World} {A : Around} {E : Value → Shared → Prop} {s : Shared} {a : Addr} {zs : List Int} {z : Int} {tk : Tok} {B : SD}
end
section
variable {P : Program} {w : World} {A : Around} {E : Value → Shared → Prop} {s : Shared} {S : Addr} {zs : List Int} {B : SD}
theorem ISetB.type {h : Heap} (T : ISetB B P w h S zs) : ∃ o, h.get? S = some o ∧ o.cls = .type "set" := let ⟨o, _, _, ho, hx, _⟩ := T; ⟨o, ho, hx.1⟩
end
def slotZ (z : Int) : Nat := if z = -1 then 6 else z.toNat
def SUB3 : List (List Int) := [[], [0], [1], [-1], [0, 1], [0, -1], [1, -1], [0, 1, -1]]
theorem st3 : ∀ zs ∈ SUB3, ∀ i : Fin 3, (match ((zs.map slotZ).toArray)[i.val]? with | none => true | some j => decide (SetTable.below (zs.map slotZ).toArray (j + 1) = i.val + 1)) = true := by decide +kernel
end DL
set_option Elab.async false
set_option linter.all false
set_option maxRecDepth 100000
set_option maxHeartbeats 4000000
namespace DL
open PySem PySem.Spec PyProof.Rows L2
section
variable {X : Cx} {elt tg iter : Expr} {ifs : List Expr} {scope : Scope} {NC : List Str} {fi : DI} {g : DG} {t : DT} {f : DE} {pos : Pos}
theorem vals_ints : ∀ {vs : List Value} {ys : List Int}, IntsAre vs ys → Vals (ys.map V.int) vs
  | _, _, .nil => .nil
  | _, _, .cons z t h => .cons ⟨t, rfl⟩ (vals_ints h)
end
end DL
set_option Elab.async false
set_option linter.all false
set_option maxRecDepth 100000
set_option maxHeartbeats 4000000
namespace DL
open PySem PySem.Spec PyProof.Rows L2
section
variable {prog : Program} {w : World} {A : Around} {E : Value → Shared → Prop} {s : Shared}
end
section
variable {X : Cx} {a : Expr} {f : DE} {pos p2 p3 : Pos}
end
end DL
set_option Elab.async false
set_option linter.all false
set_option maxRecDepth 100000
set_option maxHeartbeats 4000000
namespace DL
open PySem PySem.Spec PyProof.Rows L2
section
variable {prog : Program} {w : World} {A : Around} {E : Value → Shared → Prop} {s : Shared}
end
section
variable {X : Cx} {a b : Expr} {elts : List Expr} {j : Nat} {f g : DE} {pos p p2 : Pos}
end
end DL
set_option Elab.async false
set_option linter.all false
set_option maxRecDepth 100000
set_option maxHeartbeats 4000000
namespace DL
open PySem PySem.Spec PyProof.Rows L2
section
variable {X : Cx}
end
end DL
set_option Elab.async false
set_option linter.all false
set_option maxRecDepth 100000
set_option maxHeartbeats 4000000
namespace DL
open PySem PySem.Spec PyProof.Rows L2
section
variable {X : Cx} {ek ev tg iter : Expr} {ifs : List Expr} {scope : Scope} {NC : List Str} {fi : DI} {g : DG} {t : DT} {fk fv : DE} {pos : Pos}
end
end DL
set_option Elab.async false
set_option linter.all false
set_option maxRecDepth 100000
set_option maxHeartbeats 4000000
namespace DL
open PySem PySem.Spec PyProof.Rows L2
mutual
@[simp] def keq : PyData → PyData → Bool
  | .int i, .int j => decide (i = j)
  | .str x, .str y => decide (x = y)
  | .tuple xs, .tuple ys => keqs xs ys
  | _, _ => false
@[simp] def keqs : List PyData → List PyData → Bool
  | [], [] => true
  | x :: xs, y :: ys => keq x y && keqs xs ys
  | _, _ => false
end
def valF {β : Type} (kvs : List (PyData × β)) (k : PyData) : Option β := (kvs.find? fun kv => keq kv.1 k).map (·.2)
theorem valF_cons {β : Type} {p : PyData × β} {r : List (PyData × β)} {k : PyData} : valF (p :: r) k = if keq p.1 k = true then some p.2 else valF r k := by
  unfold valF
  rw [List.find?_cons]
  cases keq p.1 k <;> rfl
section
variable {K : PySem.W.Frag} {Z : Addr → Prop} {m : Mu} {H : Hp}
theorem RPd.val {k p : PyData} : ∀ {kvs : List (PyData × PyData)} {vs : List (PyData × V)}, RPd K Z m H kvs vs → valF kvs k = some p → ∃ v, valF vs k = some v ∧ RP K Z m H p v
  | [], _, _, e => nomatch e
  | (j, q) :: xs, _, h, e => by
    simp only [RPd] at h
    obtain ⟨v, r, rfl, h2, h3⟩ := h
    rw [valF_cons] at e ⊢
    split at e
    · rename_i c
      rw [if_pos c]
      cases e
      exact ⟨v, rfl, h2⟩
    · rename_i c
      rw [if_neg c]
      exact RPd.val h3 e
theorem RPd.keys : ∀ {kvs : List (PyData × PyData)} {vs : List (PyData × V)}, RPd K Z m H kvs vs → vs.map (·.1) = kvs.map (·.1)
  | [], _, h => by simp only [RPd] at h; subst h; rfl
  | (j, q) :: xs, _, h => by
    simp only [RPd] at h
    obtain ⟨v, r, rfl, h2, h3⟩ := h
    rw [List.map_cons, List.map_cons, RPd.keys h3]
theorem RKV.rpd {κ : Type} (f : κ → PyData) : ∀ {kvs : List (κ × PyData)} {vs : List (κ × V)}, RKV K Z m H kvs vs → RPd K Z m H (kvs.map fun kv => (f kv.1, kv.2)) (vs.map fun kv => (f kv.1, kv.2))
  | [], _, h => by cases (show _ = [] from h); simp [RPd]
  | (k, p) :: xs, _, ⟨v, r, h1, h2, h3⟩ => by
    subst h1
    simp only [List.map_cons, RPd]
    exact ⟨v, _, rfl, h2, h3.rpd f⟩
end
section
variable {X : Cx} {pins : List (Addr × Obj)} {σ : L2.St} {H : Hp} {s : Shared} {Z : Addr → Prop} {m : Mu}
end
section
variable {X : Cx} {o i a tg : Expr} {fo fi f : DE} {pos : Pos}
end
end DL
set_option Elab.async false
set_option linter.all false
set_option maxRecDepth 100000
set_option maxHeartbeats 4000000
namespace DL
open PySem PySem.Spec PyProof.Rows L2
section
variable {X : Cx} {pins : List (Addr × Obj)} {σ : L2.St} {H : Hp} {s : Shared}
mutual
theorem NKV.rp {K : PySem.W.Frag} {Z : Addr → Prop} {m : Mu} : ∀ (p : PyData) (v : V), NKV K H p v → RP K Z m H p v
  | .int _, _, h => by simp only [NKV] at h; simp only [RP]; exact h
  | .str _, _, h => by simp only [NKV] at h; simp only [RP]; exact h
  | .tuple xs, _, h => by
    simp only [NKV] at h
    simp only [RP]
    obtain ⟨a, vs, e, h1, h2⟩ := h
    exact ⟨a, vs, e, h1, NKVs.rp xs vs h2⟩
  | .none, _, h | .bool _, _, h | .list _, _, h | .dict _, _, h => by simp only [NKV] at h
theorem NKVs.rp {K : PySem.W.Frag} {Z : Addr → Prop} {m : Mu} : ∀ (ps : List PyData) (vs : List V), NKVs K H ps vs → RPs K Z m H ps vs
  | [], _, h => by simp only [NKVs] at h; simp only [RPs]; exact h
  | p :: ps, _, h => by
    simp only [NKVs] at h
    simp only [RPs]
    obtain ⟨v, r, e, h1, h2⟩ := h
    exact ⟨v, r, e, NKV.rp p v h1, NKVs.rp ps r h2⟩
end
end
section
variable {X : Cx} {a tg : Expr} {f : DE}
theorem Ok.fd {K : PySem.W.Frag} {Z : Addr → Prop} {m : Mu} {H : Hp} {a : Addr} {xs : List (Key × PyData)} (ok : Ok K Z m H) (h : m a = some (.fd xs)) : ∃ ob vs, H a = some (.frz ob (.dK vs)) ∧ RKV K Z m H xs vs := by
  obtain ⟨o, h1, h2⟩ := ok.g a _ h
  cases o with
  | frz ob u => cases u <;> first | exact ⟨_, _, h1, h2⟩ | exact h2.elim
  | _ => exact h2.elim
end
section
variable {X : Cx} {o i : Expr} {fo fi : DE} {pos : Pos}
end
end DL
set_option Elab.async false
set_option linter.all false
set_option maxRecDepth 100000
set_option maxHeartbeats 4000000
namespace DL
open PySem PySem.Spec PyProof.Rows L2
section
variable {P : Program} {w : World} {A : Around} {R : Result → Shared → Prop} {I : Addr} {fp wr : List Addr} {G : Array GenState → Array GenState → Prop} {n : Nat} {Pv : Nat → Value → Prop} {St : Nat → Shared → Prop} {B : SD}
end
section
variable {P : Program} {w : World} {A : Around} {E : Value → Shared → Prop} {s : Shared} {B : SD}
end
section
variable {X : Cx} {e : Expr} {f : DE} {pos p pos2 p2 : Pos}
end
end DL
set_option Elab.async false
set_option linter.all false
set_option maxRecDepth 100000
set_option maxHeartbeats 4000000
namespace DL
open PySem PySem.Spec PyProof.Rows L2
section
variable {X : Cx}
end
end DL
set_option Elab.async false
set_option linter.all false
set_option maxRecDepth 100000
set_option maxHeartbeats 4000000
namespace DL
open PySem PySem.Spec PyProof.Rows L2
section
variable {X : Cx} {o i e g ek : Expr} {fo fi f fg fk : DE} {pos apos cpos : Pos}
end
end DL
set_option Elab.async false
set_option linter.all false
set_option maxRecDepth 100000
set_option maxHeartbeats 4000000
namespace DL
open PySem PySem.Spec PyProof.Rows L2
section
variable {X : Cx} {a e : Expr} {f g : DE} {pos p2 : Pos}
end
end DL
set_option Elab.async false
set_option linter.all false
set_option maxRecDepth 100000
set_option maxHeartbeats 4000000
namespace DL
open PySem PySem.Spec PyProof.Rows L2
section
variable {P : Program} {w : World} {A : Around} {R : Result → Shared → Prop} {I : Addr} {fp wr : List Addr} {G : Array GenState → Array GenState → Prop} {n : Nat} {Pv : Nat → Value → Prop} {St : Nat → Shared → Prop}
end
section
variable {P : Program} {w : World} {A : Around} {E : Value → Shared → Prop} {s : Shared}
end
section
variable {X : Cx} {e : Expr} {f : DE} {pos p pos2 p2 : Pos}
end
section
variable {X : Cx}
end
end DL
set_option Elab.async false
set_option linter.all false
set_option maxRecDepth 100000
set_option maxHeartbeats 4000000
namespace DL
open PySem PySem.Spec PyProof.Rows L2
section
variable {K : PySem.W.Frag} {Z : Addr → Prop} {m m2 : Mu} {H H' : Hp} {c : Addr} {xs : List PyData}
end
section
variable {X : Cx} {elt tg : Expr} {ifs : List Expr} {scope : Scope} {NC : List Str} {g : DG} {t : DT} {f : DE} {pos npos : Pos}
end
end DL
set_option Elab.async false
set_option linter.all false
set_option maxRecDepth 100000
set_option maxHeartbeats 4000000
namespace DL
open PySem PySem.Spec PyProof.Rows L2
section
variable {X : Cx} {elt tg iter : Expr} {ifs : List Expr} {scope : Scope} {NC : List Str} {fi : DI} {g : DG} {t : DT} {f : DE} {pos : Pos}
end
mutual
theorem reads_old {h h' : Heap} (hk : ∀ b o, h.get? b = some o → h'.get? b = some o) : ∀ (p : PyData) (v : Value) (as : List Addr), L2.isK p = true → Reads h v p as → Reads h' v p as
  | .int _, _, _, _, r => by cases r; exact .int _ _
  | .str _, _, _, _, r => by cases r; exact .str _ _
  | .tuple xs, _, _, hi, r => by
    cases r with
    | tuple h1 h2 h3 h4 => exact .tuple (hk _ _ h1) h2 h3 (readsAll_old hk xs _ _ hi h4)
  | .none, _, _, h, _ | .bool _, _, _, h, _ | .list _, _, _, h, _ | .dict _, _, _, h, _ => by simp [L2.isK] at h
theorem readsAll_old {h h' : Heap} (hk : ∀ b o, h.get? b = some o → h'.get? b = some o) : ∀ (ps : List PyData) (vs : List Value) (as : List Addr), L2.isKs ps = true → ReadsAll h vs ps as → ReadsAll h' vs ps as
  | [], _, _, _, r => by cases r; exact .nil
  | x :: xs, _, _, hi, r => by
    simp only [L2.isKs, Bool.and_eq_true] at hi
    cases r with
    | cons r1 r2 => exact .cons (reads_old hk x _ _ hi.1 r1) (readsAll_old hk xs _ _ hi.2 r2)
end
section
variable {prog : Program} {w : World} {A : Around} {E : Value → Shared → Prop} {s : Shared}
theorem nest_old {h h' : Heap} {k : List PyData} {a : Addr} (hk : ∀ b o, h.get? b = some o → h'.get? b = some o) (x : (nestKind prog w).is h k a) : (nestKind prog w).is h' k a := by
  obtain ⟨k1, k2, as, r⟩ := x
  exact ⟨k1, k2, as, reads_old hk _ _ _ k1 r⟩
def RawN (prog : Program) (w : World) (hb h : Heap) (d : Addr) (xs : List (List PyData × Addr × Value)) : Prop :=
  (∃ o es ep, h.get? d = some o ∧ o.ExactDict ∧ o.data = .dict es ep ∧ es.toList = xs.map (entryOfKey (nestKind prog w)) ∧ (xs.map (·.1)).Nodup) ∧ ∀ x ∈ xs, (nestKind prog w).is hb x.1 x.2.1
theorem RawN.of {hb h : Heap} {d : Addr} {xs : List (List PyData × Addr × Value)} (r : RawN prog w hb h d xs) (hk : ∀ b o, hb.get? b = some o → h.get? b = some o) : h.DictOfH (nestKind prog w) d xs := by
  obtain ⟨⟨o, es, ep, h1, h2, h3, h4, h5⟩, h6⟩ := r
  exact ⟨o, es, ep, h1, h2, h3, h4, fun x hx => nest_old hk (h6 x hx), h5⟩
theorem RawN.at {hb h h' : Heap} {d : Addr} {xs : List (List PyData × Addr × Value)} (r : RawN prog w hb h d xs) (hk : ∀ o, h.get? d = some o → h'.get? d = some o) : RawN prog w hb h' d xs := by
  obtain ⟨⟨o, es, ep, h1, rest⟩, h6⟩ := r
  exact ⟨⟨o, es, ep, hk _ h1, rest⟩, h6⟩
end
section
variable {K : PySem.W.Frag} {Z : Addr → Prop} {m : Mu} {H : Hp}
end
section
variable {X : Cx} {pins : List (Addr × Obj)} {σ : L2.St} {H : Hp} {s : Shared} {Z : Addr → Prop} {m : Mu}
end
section
variable {X : Cx} {e : Expr} {f : DE} {pos p : Pos}
end
end DL
set_option Elab.async false
set_option linter.all false
set_option maxRecDepth 100000
set_option maxHeartbeats 4000000
namespace DL
open PySem PySem.Spec PyProof.Rows L2
def res8 (z : Int) : Nat := z.toNat % 8
def nxt8 (r : Nat) : Nat := (5 * r + 1) % 8
def sl2 : List Int → List Nat
  | [a, b] => if res8 a ≠ res8 b then [res8 a, res8 b] else if res8 a < nxt8 (res8 a) then [res8 a, nxt8 (res8 a)] else [nxt8 (res8 a), res8 a]
  | zs => zs.map res8
def ok2 (a b : Int) : Bool := decide (a ≠ b) && (match sl2 [a, b] with | [i, j] => decide (i < j) | _ => false)
section
variable {X : Cx} {e : Expr} {f : DE} {pos p pos2 p2 : Pos}
end
end DL
set_option Elab.async false
set_option linter.all false
set_option maxRecDepth 100000
set_option maxHeartbeats 4000000
namespace DL
open PySem PySem.Spec PyProof.Rows L2
section
variable {X : Cx} {e i : Expr} {es : List Expr} {ti : TE} {t : TA} {pos p : Pos}
end
section
variable {X : Cx} {e i : Expr} {es : List Expr} {fi : DE} {ga : DA} {pos pos2 pos3 p p4 p6 pos' : Pos}
end
section
variable {X : Cx} {e : Expr} {f : DE} {pos p : Pos}
end
end DL
set_option linter.all false
set_option Elab.async false
namespace DL
open PySem PySem.W PyProof.Rows
section
variable {α β : Type} {n : Nat} {lt : Nat → Nat → Bool}
structure Ord (lt : Nat → Nat → Bool) : Prop where
  irr : ∀ a, lt a a = false
  tr : ∀ {a b c}, lt a b = true → lt b c = true → lt a c = true
  neg : ∀ {a b c}, lt a c = true → lt a b = true ∨ lt b c = true
theorem Ord.le_tr (O : Ord lt) {a b c : Nat} (h1 : lt b a = false) (h2 : lt c b = false) : lt c a = false := by
  cases e : lt c a with
  | false => rfl
  | true => rcases O.neg (b := b) e with h | h <;> simp_all
def Srt (lt : Nat → Nat → Bool) (p : Array Nat) (k : Nat) : Prop := ∀ i j, i < j → j < k → lt (p.getD j 0) (p.getD i 0) = false
def EqR (lt : Nat → Nat → Bool) (p : Array Nat) (m q : Nat) : Prop := ∀ i j, m - (q + 1) ≤ i → i < m → m - (q + 1) ≤ j → j < m → lt (p.getD i 0) (p.getD j 0) = false
def Pm (n : Nat) (p : Array Nat) : Prop := p.toList.Perm (List.range n)
theorem Pm.size {p : Array Nat} (h : Pm n p) : p.size = n := by have := h.length_eq; simpa using this
theorem Pm.at {p : Array Nat} (h : Pm n p) (hn : 1 ≤ n) (i : Nat) : p.getD i 0 < n := by
  by_cases hi : i < p.size
  · have : p.getD i 0 ∈ p.toList := by
      rw [Array.getD, dif_pos hi]; exact Array.getElem_mem_toList hi
    exact List.mem_range.mp (h.mem_iff.mp this)
  · rw [Array.getD, dif_neg hi]; omega
variable (O : Ord lt)
include O
theorem Srt.snoc {p : Array Nat} {a : Nat} (h : Srt lt p a) (h1 : 1 ≤ a) (hl : lt (p.getD a 0) (p.getD (a - 1) 0) = false) : Srt lt p (a + 1) := by
  intro i j hi hj
  by_cases e : j < a
  · exact h i j hi e
  · obtain rfl : j = a := by omega
    by_cases e2 : i = j - 1
    · subst e2; exact hl
    · exact O.le_tr (h i (j - 1) (by omega) (by omega)) hl
theorem EqR.one {p : Array Nat} {m : Nat} : EqR lt p m 0 := by
  intro i j h1 h2 h3 h4
  obtain rfl : i = j := by omega
  exact O.irr _
end
end DL
set_option Elab.async false
set_option linter.all false
set_option maxRecDepth 100000
set_option maxHeartbeats 4000000
namespace DL
open PySem PySem.Spec PyProof.Rows L2
section
variable {P : Program} {w : World} {A : Around} {E : Value → Shared → Prop} {s : Shared}
end
section
variable {X : Cx}
end
end DL
set_option Elab.async false
set_option linter.all false
set_option maxRecDepth 100000
set_option maxHeartbeats 4000000
namespace DL
open PySem PySem.Spec PyProof.Rows L2
section
variable {P : Program} {w : World} {A : Around} {E : Value → Shared → Prop} {s : Shared}
end
end DL
set_option Elab.async false
set_option linter.all false
set_option maxRecDepth 100000
set_option maxHeartbeats 4000000
namespace DL
open PySem PySem.Spec PyProof.Rows L2
section
variable {K : PySem.W.Frag} {Z : Addr → Prop} {m : Mu} {H : Hp}
end
section
variable {P : Program} {w : World} {A : Around} {E : Value → Shared → Prop} {s : Shared}
end
section
variable {X : Cx} {pins : List (Addr × Obj)} {σ : L2.St} {H : Hp} {s : Shared} {Z : Addr → Prop} {m : Mu}
end
section
variable {X : Cx} {o : Expr} {fo : DE} {pos p cpos apos : Pos}
end
section
variable {X : Cx} {o : Expr} {elts : List Expr} {j : Nat} {fo : DE} {pos p2 apos : Pos}
end
end DL
set_option Elab.async false
set_option linter.all false
set_option maxRecDepth 100000
set_option maxHeartbeats 4000000
namespace DL
open PySem PySem.Spec PyProof.Rows L2
section
variable {X : Cx} {pins : List (Addr × Obj)} {σ : L2.St}
end
section
variable {X : Cx} {a b : Expr} {f g : DE} {pos p p2 pos2 : Pos}
end
section
variable {X : Cx}
end
end DL
set_option Elab.async false
set_option linter.all false
set_option maxRecDepth 100000
set_option maxHeartbeats 4000000
namespace DL
open PySem PySem.Spec PyProof.Rows L2
section
variable {P : Program} {w : World} {A : Around} {E : Value → Shared → Prop} {s : Shared}
end
section
variable {X : Cx} {pos : Pos}
end
end DL
set_option Elab.async false
set_option linter.all false
set_option maxRecDepth 100000
set_option maxHeartbeats 4000000
namespace DL
open PySem PySem.Spec PyProof.Rows L2
section
variable {X : Cx} {o e : Expr} {f g : DE} {apos cpos : Pos}
end
section
variable {X : Cx} {o e : Expr} {f g : DE} {apos cpos : Pos}
end
section
variable {X : Cx} {e : Expr} {f : DE} {pos : Pos}
end
end DL
set_option Elab.async false
set_option linter.all false
set_option maxRecDepth 100000
set_option maxHeartbeats 4000000
namespace DL
open PySem PySem.Spec PyProof.Rows L2
section
variable {X : Cx} {st : Stmt} {o e : Expr} {f g : DE} {p apos cpos : Pos}
end
end DL
set_option Elab.async false
set_option linter.all false
set_option maxRecDepth 100000
set_option maxHeartbeats 4000000
namespace DL
open PySem PySem.Spec PyProof.Rows L2
section
variable {X : Cx} {e : Expr} {f g : DE}
mutual
def nlP : PyData → Bool
  | .tuple xs => nlPs xs
  | .list _ => false
  | .dict _ => false
  | _ => true
def nlPs : List PyData → Bool
  | [] => true
  | x :: xs => nlP x && nlPs xs
end
mutual
theorem RP.nl {K : PySem.W.Frag} {Z Z' : Addr → Prop} {m m' : Mu} {H : Hp} : ∀ (p : PyData) (v : V), nlP p = true → RP K Z m H p v → RP K Z' m' H p v
  | .none, v, _, h => by simpa only [RP] using h
  | .bool _, v, _, h => by simpa only [RP] using h
  | .int _, v, _, h => by simpa only [RP] using h
  | .str _, v, _, h => by simpa only [RP] using h
  | .tuple xs, v, n, h => by
    simp only [RP] at h ⊢
    obtain ⟨a, vs, h1, h2, h3⟩ := h
    exact ⟨a, vs, h1, h2, RPs.nl xs vs (by simpa only [nlP] using n) h3⟩
  | .list _, v, n, h => by simp [nlP] at n
  | .dict _, v, n, h => by simp [nlP] at n
theorem RPs.nl {K : PySem.W.Frag} {Z Z' : Addr → Prop} {m m' : Mu} {H : Hp} : ∀ (xs : List PyData) (vs : List V), nlPs xs = true → RPs K Z m H xs vs → RPs K Z' m' H xs vs
  | [], vs, _, h => by simpa only [RPs] using h
  | x :: xs, vs, n, h => by
    simp only [nlPs, Bool.and_eq_true] at n
    simp only [RPs] at h ⊢
    obtain ⟨v, r, h1, h2, h3⟩ := h
    exact ⟨v, r, h1, RP.nl x v n.1 h2, RPs.nl xs r n.2 h3⟩
end
end
end DL
set_option Elab.async false
set_option linter.all false
set_option maxRecDepth 100000
set_option maxHeartbeats 4000000
namespace DL
open PySem PySem.Spec PyProof.Rows L2
section
variable {X : Cx} {o e i : Expr} {f g h : DE}
end
section
variable {X : Cx} {tg iter tg2 iter2 elt : Expr} {ifs ifs2 : List Expr} {scope : Scope} {fi fi2 : DI} {g g2 : DG} {t t2 : DT} {f : DE} {pos : Pos}
end
end DL
set_option Elab.async false
set_option linter.all false
set_option maxRecDepth 100000
set_option maxHeartbeats 4000000
namespace DL
open PySem PySem.Spec PyProof.Rows L2
section
variable {X : Cx} {o e : Expr} {f g : DE}
end
end DL
set_option Elab.async false
set_option linter.all false
set_option maxRecDepth 100000
set_option maxHeartbeats 4000000
namespace DL
open PySem PySem.Spec PyProof.Rows L2
section
variable {prog : Program} {w : World} {A : Around} {E : Value → Shared → Prop} {s : Shared}
end
section
variable {X : Cx} {o e : Expr} {f fo : DE} {lo hi : Option Expr} {tl th : DO} {tpos p2 pos : Pos}
end
end DL
set_option Elab.async false
set_option linter.all false
set_option maxRecDepth 100000
set_option maxHeartbeats 4000000
namespace DL
open PySem PySem.Spec PyProof.Rows L2
section
variable {X : Cx} {es : List Expr} {e : Expr} {g : DA} {f : DE} {pos : Pos}
end
section
variable {X : Cx}
end
section
variable {X : Cx} {a e : Expr} {f g : DE} {p p1 p2 pos : Pos}
end
end DL
set_option Elab.async false
set_option linter.all false
set_option maxRecDepth 100000
set_option maxHeartbeats 4000000
namespace DL
open PySem PySem.Spec PyProof.Rows L2
def Fly (e : Addr) (cls : Value) (dx : Option Addr) (L : Addr) (h : Heap) (tr : Option Addr) : Prop := ∃ vs sl, h.get? e = some ⟨cls, dx, .fields vs, sl⟩ ∧ match tr with
  | none => vs[1]? = some .none
  | some T => vs[1]? = some (.ref T) ∧ T ≠ e ∧ ∃ oT ts, h.get? T = some oT ∧ oT.data = .fields ts ∧ (ts[3]? = some .none ∨ ts[3]? = some (rawInt L))
def Tch (fr xs : List Addr) (h h' : Heap) : Prop := ∀ b o, h.get? b = some o → b ∉ xs → (b ∉ fr → h'.get? b = some o) ∧ ∃ sl, h'.get? b = some { o with slots := sl }
theorem Tch.refl {fr xs : List Addr} {h : Heap} : Tch fr xs h h := fun _ o q _ => ⟨fun _ => q, o.slots, q⟩
theorem Tch.trans {fr xs : List Addr} {h h1 h2 : Heap} (a : Tch fr xs h h1) (b : Tch fr xs h1 h2) : Tch fr xs h h2 := fun c o q n => by
  obtain ⟨a1, sl, a2⟩ := a c o q n
  obtain ⟨_, sl', b2⟩ := b c _ a2 n
  exact ⟨fun hf => (b c o (a1 hf) n).1 hf, sl', b2⟩
theorem Tch.mono {fr fr' xs xs' : List Addr} {h h' : Heap} (a : Tch fr xs h h') (h1 : ∀ b ∈ fr, b ∈ fr') (h2 : ∀ b ∈ xs, b ∈ xs') : Tch fr' xs' h h' := fun c o q n =>
  ⟨fun hf => (a c o q fun z => n (h2 c z)).1 fun z => hf (h1 c z), (a c o q fun z => n (h2 c z)).2⟩
theorem rec_ne {h : Heap} {base : Heap} {l : List Env} {e : Addr} {o : Obj} {vs : Array Value} (hl : h.FunFrames base l) (he : h.get? e = some o) (hd : o.data = .fields vs) : e ∉ frs l := fun z => by
  obtain ⟨_, o', ho, hn⟩ := hl.mem z
  rw [he] at ho
  cases ho
  exact hn vs hd
section
variable {M : Model} {A : Around} {E : Value → Shared → Prop} {s : Shared} {base : Heap} {env : Env} {outer : List Env} {L e : Addr} {cls : Value} {dx : Option Addr}
theorem entry_x {vs : Array Value} {sl : Array (Option Value)} {head : Value} {b : Bool} {Q : Unit → Shared → Prop} (hfr : A.frames = some (env :: outer)) (hl : s.heap.FunFrames base (env :: outer)) (hf : env.frame = some L)
    (he : s.heap.get? e = some ⟨cls, dx, .fields vs, sl⟩) (hz : 1 < vs.size) (hQ : ∀ h' T, Fly e cls dx L h' (some T) → Tch (frs (env :: outer)) [e] s.heap h' → s.heap.objs.size ≤ T → Q () { s with heap := h' }) :
    wpAny M A (do let a ← frameOf env; let pl ← entryPlaceOf L b; let n ← EntryCells.newEntry head a .none (rawInt L) .none pl; setField (.ref e) 1 n) Q E s := by
  have nf : e ∉ frs (env :: outer) := rec_ne hl he rfl
  refine wpAny_bind (wpAny_frameOf_fun hfr hl hf fun h1 ⟨z1, z2, z3⟩ => wpAny_bind (wpAny_entryPlaceOf fun pl hpl => ?_))
  unfold EntryCells.newEntry newFields
  refine wpAny_bind (wpAny_newObj_type ?_ (hpl.sizeOk5 _ _ _ _ _))
  generalize eo : ({ cls := .type "traceback", dict := none, data := .fields ([head, .ref L, .none, rawInt L, .none] ++ (if pl.isEmpty then List.replicate 6 Value.none else pl)).toArray } : Obj) = ot
  have e1 : h1.get? e = some ⟨cls, dx, .fields vs, sl⟩ := (z2 e nf).trans he
  have e2 : (h1.push ot).get? e = some ⟨cls, dx, .fields vs, sl⟩ := Heap.get?_push_of_some _ e1
  have ne : h1.objs.size ≠ e := Nat.ne_of_gt (Heap.lt_size e1)
  refine wpAny_setField e2 rfl hz (hQ _ h1.objs.size ?_ (fun c o q n => ?_) (Nat.le_of_eq z1.symm))
  · refine ⟨_, sl, Heap.get?_update_self (Obj.mapFields (·.setIfInBounds 1 (Value.ref h1.objs.size))) e2 rfl, by simp [hz], ne, ot, _, ?_, by rw [← eo], .inr ?_⟩
    · rw [Heap.get?_update_other _ _ (Ne.symm ne)]
      exact Heap.get?_push_size _ (by rw [← eo]; rfl)
    · rfl
  · have n : c ≠ e := fun z => n (by rw [z]; exact List.mem_cons_self)
    refine ⟨fun hc => ?_, ?_⟩
    · rw [Heap.get?_update_other _ _ (Ne.symm n)]
      exact Heap.get?_push_of_some _ ((z2 c hc).trans q)
    · obtain ⟨sl', q'⟩ := z3 c o q
      exact ⟨sl', by rw [Heap.get?_update_other _ _ (Ne.symm n)]; exact Heap.get?_push_of_some _ q'⟩
theorem note_x {tr : Option Addr} {Q : Unit → Shared → Prop} (hfr : A.frames = some (env :: outer)) (hl : s.heap.FunFrames base (env :: outer)) (hf : env.frame = some L) (F : Fly e cls dx L s.heap tr)
    (hQ : ∀ h' T, Fly e cls dx L h' (some T) → Tch (frs (env :: outer)) (e :: tr.toList) s.heap h' → (tr = some T ∨ s.heap.objs.size ≤ T) → Q () { s with heap := h' }) : wpAny M A (noteFrame (.ref e) env) Q E s := by
  have F0 := F
  obtain ⟨vs, sl, he, F⟩ := F
  unfold noteFrame
  simp only [hf]
  cases tr with
  | none =>
    have F : vs[1]? = some .none := F
    refine wpAny_bind (wpAny_field he rfl F ?_)
    rw [if_neg (by decide)]
    exact entry_x hfr hl hf he (Array.getElem?_eq_some_iff.mp F).1 fun h' T a b c => hQ h' T a b (.inr c)
  | some T =>
    obtain ⟨F1, F2, oT, ts, F3, F4, F5⟩ := F
    refine wpAny_bind (wpAny_field he rfl F1 ?_)
    rw [if_pos (by rfl)]
    rcases F5 with F5 | F5
    · refine wpAny_bind (wpAny_field F3 F4 F5 ?_)
      rw [if_neg (by simp [rawInt])]
      refine wpAny_bind (wpAny_setField F3 F4 (Array.getElem?_eq_some_iff.mp F5).1 ?_)
      have nT := rec_ne hl F3 F4
      have oth : ∀ b, b ≠ T → (s.heap.update T (Obj.mapFields (·.setIfInBounds 3 Value.none))).get? b = s.heap.get? b := fun b n => Heap.get?_update_other _ _ (Ne.symm n)
      have t1 : Tch (frs (env :: outer)) (e :: [T]) s.heap (s.heap.update T (Obj.mapFields (·.setIfInBounds 3 Value.none))) := fun b o q n => by
        have : b ≠ T := fun z => n (by rw [z]; simp)
        rw [oth b this]
        exact ⟨fun _ => q, o.slots, q⟩
      refine entry_x (s := { s with heap := s.heap.update T (Obj.mapFields (·.setIfInBounds 3 Value.none)) }) hfr (hl.of_keeps fun b o q n => ?_) hf ((oth e (Ne.symm F2)).trans he) (Array.getElem?_eq_some_iff.mp F1).1 fun h' T' a b c => hQ h' T' a (t1.trans (b.mono (fun _ z => z) (by simp))) (.inr ?_)
      · have : b ≠ T := fun z => by
          rw [z, F3] at q
          cases q
          exact n ts F4
        exact ⟨o, (oth b this).trans q, rfl⟩
      · have c : (s.heap.update T _).objs.size ≤ T' := c
        rwa [Heap.size_after_update] at c
    · refine wpAny_bind (wpAny_field F3 F4 F5 ?_)
      rw [if_pos (by simp)]
      exact wpAny_pure (hQ s.heap T F0 Tch.refl (.inl rfl))
theorem flight_x {tr fl : Option Addr} {fr : List Addr} {Q : Unit → Shared → Prop} (F : Fly e cls dx L s.heap tr) (L' : Addr) (hfl : fl = none ∨ fl = some L') (hQ : ∀ h', Fly e cls dx L' h' tr → Tch fr (e :: tr.toList) s.heap h' → Q () { s with heap := h' }) : wpAny M A (setFlight (.ref e) fl) Q E s := by
  obtain ⟨vs, sl, he, F⟩ := F
  unfold setFlight
  cases tr with
  | none =>
    have F : vs[1]? = some .none := F
    refine wpAny_bind (wpAny_field he rfl F ?_)
    rw [if_neg (by decide)]
    exact wpAny_pure (hQ s.heap ⟨vs, sl, he, F⟩ Tch.refl)
  | some T =>
    obtain ⟨F1, F2, oT, ts, F3, F4, F5⟩ := F
    have z3 : 3 < ts.size := by rcases F5 with F5 | F5 <;> exact (Array.getElem?_eq_some_iff.mp F5).1
    refine wpAny_bind (wpAny_field he rfl F1 ?_)
    rw [if_pos (by rfl)]
    refine wpAny_setField F3 F4 z3 (hQ _ ⟨vs, sl, ?_, F1, F2, _, _, Heap.get?_update_self _ F3 (Obj.isFreed_of_fields (Obj.data_mapFields F4 _)), Obj.data_mapFields F4 _, ?_⟩ fun b o q n => ?_)
    · rw [Heap.get?_update_other _ _ F2]
      exact he
    · rcases hfl with rfl | rfl
      · exact .inl (by simp [z3])
      · exact .inr (by simp [z3])
    · have n : b ≠ T := fun z => n (by rw [z]; simp)
      rw [Heap.get?_update_other _ _ (Ne.symm n)]
      exact ⟨fun _ => q, o.slots, q⟩
theorem flight_x0 {tr : Option Addr} {fr : List Addr} {Q : Unit → Shared → Prop} (F : Fly e cls dx L s.heap tr) (hQ : ∀ h', (∀ L', Fly e cls dx L' h' tr) → Tch fr (e :: tr.toList) s.heap h' → Q () { s with heap := h' }) : wpAny M A (setFlight (.ref e) none) Q E s := by
  obtain ⟨vs, sl, he, F⟩ := F
  unfold setFlight
  cases tr with
  | none =>
    have F : vs[1]? = some .none := F
    refine wpAny_bind (wpAny_field he rfl F ?_)
    rw [if_neg (by decide)]
    exact wpAny_pure (hQ s.heap (fun _ => ⟨vs, sl, he, F⟩) Tch.refl)
  | some T =>
    obtain ⟨F1, F2, oT, ts, F3, F4, F5⟩ := F
    have z3 : 3 < ts.size := by rcases F5 with F5 | F5 <;> exact (Array.getElem?_eq_some_iff.mp F5).1
    refine wpAny_bind (wpAny_field he rfl F1 ?_)
    rw [if_pos (by rfl)]
    refine wpAny_setField F3 F4 z3 (hQ _ (fun _ => ⟨vs, sl, ?_, F1, F2, _, _, Heap.get?_update_self _ F3 (Obj.isFreed_of_fields (Obj.data_mapFields F4 _)), Obj.data_mapFields F4 _, .inl (by simp [z3])⟩) fun b o q n => ?_)
    · rw [Heap.get?_update_other _ _ F2]
      exact he
    · have n : b ≠ T := fun z => n (by rw [z]; simp)
      rw [Heap.get?_update_other _ _ (Ne.symm n)]
      exact ⟨fun _ => q, o.slots, q⟩
end
end DL
set_option Elab.async false
set_option linter.all false
set_option maxRecDepth 100000
set_option maxHeartbeats 4000000
namespace DL
open PySem PySem.Spec PyProof.Rows L2 PySem.W
def strKey (e : DictEntry) : Bool := match e.key with | .str _ _ => true | _ => false
def tailIn (K : Frag) : List Value → Bool
  | [.type a, .type b, .type c, .type d] => a == "ValueError" && b == "Exception" && c == "BaseException" && d == "object"
  | .ref S :: r => (match K.lookup S with
    | some ⟨_, _, .cls cd, _⟩ => (match K.lookup cd.ns with
      | some ⟨_, _, .dict es _, _⟩ => es.toList.all strKey
      | _ => false) && (match nsIn K cd.ns "__init__" with | some none => true | _ => false)
    | _ => false) && tailIn K r
  | _ => false
abbrev bmV : List Value := [.type "ValueError", .type "Exception", .type "BaseException", .type "object"]
theorem tail_of {K : Frag} {h : Heap} (X : K.In h) : ∀ l, tailIn K l = true → OwnTail h bmV l
  | [.type a, .type b, .type c, .type d], e => by
    simp only [tailIn, Bool.and_eq_true, beq_iff_eq] at e
    obtain ⟨⟨⟨rfl, rfl⟩, rfl⟩, rfl⟩ := e
    exact .base
  | .ref S :: r, e => by
    rw [tailIn, Bool.and_eq_true] at e
    obtain ⟨e1, e2⟩ := e
    split at e1
    · rename_i c d cd sl hS
      rw [Bool.and_eq_true] at e1
      obtain ⟨e3, e4⟩ := e1
      split at e3
      · rename_i c' d' es n sl' hN
        have sk : StrKeys es := fun y hy => by
          have := List.all_eq_true.mp e3 y (Array.mem_toList_iff.mpr hy)
          unfold strKey at this
          split at this
          · rename_i x t q
            exact ⟨x, t, q⟩
          · cases this
        have G : h.Ns cd.ns (nsFind es) := ⟨_, es, n, X _ _ hN, rfl, sk, fun _ => rfl⟩
        have q : nsIn K cd.ns "__init__" = some none := by
          split at e4
          · assumption
          · cases e4
        exact .own (X _ _ hS) G (ns_none_of X G q) (tail_of X r e2)
      · cases e3
    · cases e1
structure XMk (K : Frag) (C : Addr) : Prop where
  obj : ∃ nm q N bs bm sn sub ab col dd k0 k1 k2 k3 k5, K.lookup C = some (excClassObj nm q C N bs bm true sn sub ab col dd k0 k1 k2 k3 k5 "ValueError.__new__") ∧ tailIn K bm = true
structure XMk0 (K : Frag) (C : Addr) : Prop where
  obj : ∃ nm q N bs bm sn sub ab col dd k0 k1 k2 k3 k5, K.lookup C = some (excClassObj nm q C N bs bm true sn sub ab col dd k0 k1 k2 k3 k5 "ValueError.__new__") ∧ tailIn K (.ref C :: bm) = true
section
variable {prog : Program} {w : World} {A : Around} {E : Value → Shared → Prop} {s : Shared} {K : Frag} {C : Addr} {us : List Value}
theorem xmake {fI : Addr} {Q : Value → Shared → Prop} (m : XMk K C) (X : K.In s.heap) (hi : findIn K (.ref C) "__init__" = some (some (.ref fI))) (hf : typeIn K (.ref fI) = some (.type "function")) (hz : us.length ≤ sizeLine)
    (hq : ∀ h' e, s.heap.objs.size ≤ e → Heap.MadeExcOf s.heap h' e (.ref C) us → wpAny (model prog w) (A.under (.builtin "type.__call__" ⟨.ref C :: us, []⟩)) (call (.ref fI) (.ref e :: us)) (fun r s' => r = .none ∧ Q (.ref e) s') E { s with heap := h' }) :
    wpAny (model prog w) A (call (.ref C) us) Q E s := by
  obtain ⟨h, g, d, t, os⟩ := s
  obtain ⟨nm, q, N, bs, bm, sn, sub, ab, col, dd, k0, k1, k2, k3, k5, lk, tl⟩ := m.obj
  have T := tail_of X bm tl
  have hC := X _ _ lk
  have F := PySem.F.excBase_ValueError
  have f1 := tc_lookup
  have f2 := tc_bind (.ref C)
  have hT : (⟨h, g, d, t, os⟩ : Shared).TypeIs (.ref C) "type" := ⟨_, hC, rfl⟩
  have hB : bmV.contains (.type "ValueError") = true := by decide
  refine wpAny_call (codeAny_of_tree ?_)
  show wpAny _ _ (callAny (.ref C) _) _ _ _
  repeat (any_goals (first | assumption | with_reducible refine wpAny_loadPart_at hC ?_ | wp_step))
  refine ⟨rfl, codeAny_call_builtin_at (Code.quiet_builtin _ (by decide +kernel)) entry_typeCall (wpAny_check_type_call_sub hC ?_)⟩
  repeat (first | with_reducible refine wpAny_madeBy_exc hC ?_ | with_reducible refine wpAny_loadPart_at hC ?_ | wp_step)
  refine codeAny_call_builtin_code (Code.quiet_builtin _ F.quiet) (wpAny_check_new_subU F hB T hC (codeAny_exc_new_subU F hB F T hC ?_ hz))
  show wpAny _ _ _ _ _ _
  dsimp only
  simp only [List.append_eq, List.nil_append]
  generalize eo : ({ cls := .ref C, data := .fields #[.ref h.objs.size, .none, .none, .none, .bool false, .none] } : Obj) = ox
  generalize et : ({ cls := .type "tuple", data := .seq us.toArray } : Obj) = ot
  have kp : ∀ b o, h.get? b = some o → ((h.push ot).push ox).get? b = some o := fun b o e => Heap.get?_push_of_some _ (Heap.get?_push_of_some _ e)
  have X1 : K.In ((h.push ot).push ox) := X.keeps kp
  have hC1 := kp _ _ hC
  have ho : ((h.push ot).push ox).get? (h.objs.size + 1) = some ox := Heap.get?_push_at (by rw [Heap.size_push]) (by rw [← eo]; rfl)
  have hcC : (Value.ref C :: bm).contains (.ref C) = true := by simp
  have hoc : ox.cls = .ref C := by rw [← eo]
  unfold isInstance
  repeat (first | (with_reducible refine wpAny_loadPart_at ho ?_; rw [hoc]) | (with_reducible refine wpAny_isSubtype_exc hC1 ?_; rw [hcC]) | wp_step)
  show wpAny _ _ (typeLookup (.ref C) _) _ _ _
  refine (looks_findIn (M := model prog w) X1 hi).at (wpAny_holding (wpAny_bind ((bind_fn (M := model prog w) X1 _ hf).at ?_)))
  refine wpAny_bind (wpAny_mono (hq _ (h.objs.size + 1) (Nat.le_succ _) ⟨kp, Heap.get?_none_of_le (Nat.le_succ _), h.objs.size, by rw [ho, ← eo], Heap.get?_none_of_le (Nat.le_refl _), ?_⟩) (fun r s' hr => ?_) fun _ _ z => z)
  · rw [Heap.get?_push_of_some _ (Heap.get?_push_at rfl (by rw [← et]; rfl)), ← et]
  · obtain ⟨rfl, hQ⟩ := hr
    wp_walk
    exact hQ
theorem xmake0 {Q : Value → Shared → Prop} (m : XMk0 K C) (X : K.In s.heap) (hz : us.length ≤ sizeLine)
    (hq : ∀ h' e, s.heap.objs.size ≤ e → Heap.MadeExcOf s.heap h' e (.ref C) us → Q (.ref e) { s with heap := h' }) : wpAny (model prog w) A (call (.ref C) us) Q E s := by
  obtain ⟨h, g, d, t, os⟩ := s
  obtain ⟨nm, q, N, bs, bm, sn, sub, ab, col, dd, k0, k1, k2, k3, k5, lk, tl⟩ := m.obj
  have hC := X _ _ lk
  have T := tail_of X _ tl
  cases T with
  | own hA hN hni T =>
  rw [hC] at hA
  cases hA
  have F := PySem.F.excBase_ValueError
  have f1 := tc_lookup
  have f2 := tc_bind (.ref C)
  have hT : (⟨h, g, d, t, os⟩ : Shared).TypeIs (.ref C) "type" := ⟨_, hC, rfl⟩
  have hB : bmV.contains (.type "ValueError") = true := by decide
  refine wpAny_call (codeAny_of_tree ?_)
  show wpAny _ _ (callAny (.ref C) _) _ _ _
  repeat (any_goals (first | assumption | with_reducible refine wpAny_loadPart_at hC ?_ | wp_step))
  refine ⟨rfl, codeAny_call_builtin_at (Code.quiet_builtin _ (by decide +kernel)) entry_typeCall (wpAny_check_type_call_sub hC ?_)⟩
  repeat (first | with_reducible refine wpAny_madeBy_exc hC ?_ | with_reducible refine wpAny_loadPart_at hC ?_ | wp_step)
  refine codeAny_call_builtin_code (Code.quiet_builtin _ F.quiet) (wpAny_check_new_subU F hB T hC (codeAny_exc_new_subU F hB F T hC ?_ hz))
  show wpAny _ _ _ _ _ _
  dsimp only
  simp only [List.append_eq, List.nil_append]
  generalize eo : ({ cls := .ref C, data := .fields #[.ref h.objs.size, .none, .none, .none, .bool false, .none] } : Obj) = ox
  generalize et : ({ cls := .type "tuple", data := .seq us.toArray } : Obj) = ot
  have kp : ∀ b o, h.get? b = some o → ((h.push ot).push ox).get? b = some o := fun b o e => Heap.get?_push_of_some _ (Heap.get?_push_of_some _ e)
  have hC1 := kp _ _ hC
  have T1 := T.keeps kp
  have hN1 := hN.keeps kp
  have sz : ((h.push ot).push ox).objs.size = h.objs.size + 2 := by rw [Heap.size_push, Heap.size_push]
  have ho : ((h.push ot).push ox).get? (h.objs.size + 1) = some ox := Heap.get?_push_at (by rw [Heap.size_push]) (by rw [← eo]; rfl)
  have hcC : (Value.ref C :: bm).contains (.ref C) = true := by simp
  have hoc : ox.cls = .ref C := by rw [← eo]
  unfold isInstance
  repeat (first | (with_reducible refine wpAny_loadPart_at ho ?_; rw [hoc]) | (with_reducible refine wpAny_isSubtype_exc hC1 ?_; rw [hcC]) | wp_step)
  show wpAny _ _ (typeLookup (.ref C) _) _ _ _
  refine wpAny_typeLookup_tail hC1 hN1 T1 F.mroIs F.init.lookup ?_
  rw [hni]
  refine wpAny_holding (wpAny_bind (wpAny_of_eq (F.init.bind _) (wpAny_bind (wpAny_call (codeAny_call_builtin F.init.plain F.initEntry (wpAny_check_init_subU F T1 hC1 ho hoc ?_))))))
  generalize ((h.push ot).push ox) = h2 at *
  subst eo
  wp_walk
  refine hq _ (h.objs.size + 1) (Nat.le_succ _) ⟨fun b o e => ?_, Heap.get?_none_of_le (Nat.le_succ _), h.objs.size + 2, ?_, Heap.get?_none_of_le (show h.objs.size ≤ h.objs.size + 2 by omega), ?_⟩
  · rw [Heap.get?_update_other _ _ (Nat.ne_of_gt (Nat.lt_succ_of_lt (Heap.lt_size e)))]
    exact Heap.get?_push_of_some _ (kp b o e)
  · rw [Heap.get?_update_self _ (Heap.get?_push_of_some _ ho) rfl, sz]
    rfl
  · rw [Heap.get?_update_other _ _ (show h.objs.size + 1 ≠ h.objs.size + 2 by omega)]
    exact Heap.get?_push_at sz.symm rfl
end
end DL
set_option Elab.async false
set_option linter.all false
set_option maxRecDepth 100000
set_option maxHeartbeats 4000000
namespace DL
open PySem PySem.Spec PyProof.Rows L2
structure Apart (X : Cx) (pins : List (Addr × Obj)) (H : Hp) (a : Addr) : Prop where
  new : X.s₀.heap.objs.size ≤ a
  un : H a = none
  loc : a ≠ X.env.locals
  cel : ∀ x c, X.env.cells.lookup x = some c → c ≠ a
  pin : ∀ p ∈ X.pn ++ pins, p.1 ≠ a
def OnTop (X : Cx) : Prop := X.stack = X.env :: X.outer ∧ X.env.frame = some X.env.locals
abbrev XQ := L2.St → Value → Option Addr → Hp → Prop
section
variable {X : Cx} {pins : List (Addr × Obj)} {σ : L2.St} {H H' : Hp} {s : Shared} {h' : Heap} {e a : Addr}
theorem cell_lt {h : Heap} {c : Addr} {v : Option Value} (x : h.IsCell c v) : c < h.objs.size := by
  obtain ⟨o, q, _⟩ := x
  exact Heap.lt_size q
theorem inv_apart (I : Inv X pins σ H s) (ha : s.heap.objs.size ≤ a) (hn : H' a = none) : Apart X pins H' a :=
  ⟨Nat.le_trans I.sz ha, hn, fun z => Nat.lt_irrefl _ (Nat.lt_of_lt_of_le I.lt (z ▸ ha)), fun x c q z => by
    obtain ⟨v, hv⟩ := I.cell x c q
    exact Nat.lt_irrefl _ (Nat.lt_of_lt_of_le (cell_lt hv) (z ▸ ha)), fun p hp z => Nat.lt_irrefl _ (Nat.lt_of_lt_of_le (Heap.lt_size (I.pin p hp).1) (z ▸ ha))⟩
theorem Apart.to {H' : Hp} (x : Apart X pins H a) (h : H' a = none) : Apart X pins H' a := ⟨x.new, h, x.loc, x.cel, x.pin⟩
theorem inv_tch {xs : List Addr} {t' : Nat} (I : Inv X pins σ H s) (t : Tch (frs X.stack) xs s.heap h') (hx : ∀ b ∈ xs, Apart X pins H b) : Inv X pins σ H { s with heap := h', toks := t' } := by
  have ne : ∀ b, H b ≠ none → b ∉ xs ∧ b ∉ frs X.stack := fun b hb => ⟨fun z => hb (hx b z).un, fun z => hb (I.stkFree b z)⟩
  have kp : ∀ b o, H b ≠ none → s.heap.get? b = some o → h'.get? b = some o := fun b o hb q => (t b o q (ne b hb).1).1 (ne b hb).2
  refine I.call (g' := s.gens) (d' := s.drawn) (ch := xs) ⟨fun b o q _ hf hc => (t b o q hc).1 hf, fun b o q _ _ hc => (t b o q hc).2, fun _ _ _ n _ => n, fun b o q hc => ?_, fun _ _ q => q, fun _ _ _ q => q, fun b ps q => ⟨#[], by rw [q]; simp⟩⟩ (fun b u q => ?_) I.bare fun b hb => ?_
  · obtain ⟨sl, z⟩ := (t b o q hc).2
    exact ⟨_, z⟩
  · refine (I.hok b u q).stay (fun c v hc r => kp c v ?_ r) (fun _ r => r) (fun _ _ r => r) fun _ _ _ r => r
    rcases hc with rfl | hc
    · rw [q]; simp
    · rw [hc]; simp
  · exact ⟨.inr (hx b hb).new, (hx b hb).loc, (hx b hb).cel, (hx b hb).pin⟩
def XS (X : Cx) (pins : List (Addr × Obj)) (H : Hp) (e : Addr) (cls : Value) (dx : Option Addr) (tr : Option Addr) (h : Heap) : Prop :=
  Fly e cls dx X.env.locals h tr ∧ (∀ b ∈ e :: tr.toList, Apart X pins H b) ∧ ∀ d, dx = some d → ∃ fs, H d = some (.xd fs)
def XP (X : Cx) (pins : List (Addr × Obj)) (EX : XQ) (u : Value) (s' : Shared) : Prop := ∃ e C dx tr σ' H', u = .ref e ∧ Inv X pins σ' H' s' ∧ XS X pins H' e (.ref C) dx tr s'.heap ∧ EX σ' (.ref C) dx H'
variable {cls : Value} {dx tr : Option Addr} {M : Model} {E : Value → Shared → Prop} {A : Around}
theorem XS.note {Q : Unit → Shared → Prop} (ot : OnTop X) (hA : A.frames = X.A.frames) (I : Inv X pins σ H s) (x : XS X pins H e cls dx tr s.heap)
    (hQ : ∀ h' tr', Inv X pins σ H { s with heap := h' } → XS X pins H e cls dx tr' h' → Q () { s with heap := h' }) : wpAny M A (noteFrame (.ref e) X.env) Q E s := by
  have fr := hA.trans I.ok.frames
  have fl := I.stack
  rw [ot.1] at fr fl
  refine note_x fr fl ot.2 x.1 fun h' T F t z => hQ h' (some T) (inv_tch I (by rw [ot.1]; exact t) x.2.1) ⟨F, fun b hb => ?_, x.2.2⟩
  rcases List.mem_cons.mp hb with rfl | hb
  · exact x.2.1 _ List.mem_cons_self
  · obtain rfl : b = T := by simpa using hb
    rcases z with z | z
    · exact x.2.1 b (by rw [z]; simp)
    · exact inv_apart I z (I.hok.fresh z)
theorem XS.flight {Q : Unit → Shared → Prop} {fl : Option Addr} (I : Inv X pins σ H s) (x : XS X pins H e cls dx tr s.heap) (hf : fl = none ∨ fl = some X.env.locals)
    (hQ : ∀ h', Inv X pins σ H { s with heap := h' } → XS X pins H e cls dx tr h' → (fl = none → ∀ L, Fly e cls dx L h' tr) → Q () { s with heap := h' }) : wpAny M A (setFlight (.ref e) fl) Q E s := by
  rcases hf with rfl | rfl
  · refine flight_x0 (fr := frs X.stack) x.1 fun h' F t => hQ h' (inv_tch I t x.2.1) ⟨F _, x.2.1, x.2.2⟩ fun _ => F
  · exact flight_x (fr := frs X.stack) x.1 X.env.locals (.inr rfl) fun h' F t => hQ h' (inv_tch I t x.2.1) ⟨F, x.2.1, x.2.2⟩ fun z => nomatch z
end
end DL
set_option Elab.async false
set_option linter.all false
set_option maxRecDepth 100000
set_option maxHeartbeats 4000000
namespace DL
open PySem PySem.Spec PyProof.Rows L2
abbrev TSx := Ends → XQ → L2.St → Hp → Prop
abbrev TEx := L2.St → Hp → VK → XQ → Prop
def PEx (X : Cx) (e : Expr) (t : TEx) : Prop := ∀ (pins : List (Addr × Obj)) (s : Shared) (σ : L2.St) (H : Hp) (Q : VK) (EX : XQ), Inv X pins σ H s → t σ H Q EX → wpAny (model X.prog X.w) X.A (eval e X.env) (EP X pins σ Q) (XP X pins EX) s
def PSx (X : Cx) (st : Stmt) (t : TSx) : Prop := ∀ (pins : List (Addr × Obj)) (s : Shared) (σ : L2.St) (H : Hp) (D : Ends) (EX : XQ), Inv X pins σ H s → t D EX σ H → wpAny (model X.prog X.w) X.A (exec st X.env) (SP X pins D) (XP X pins EX) s
def PSsx (X : Cx) (st : List Stmt) (t : TSx) : Prop := ∀ (pins : List (Addr × Obj)) (s : Shared) (σ : L2.St) (H : Hp) (D : Ends) (EX : XQ), Inv X pins σ H s → t D EX σ H → wpAny (model X.prog X.w) X.A (execs st X.env) (SP X pins D) (XP X pins EX) s
section
variable {X : Cx} {st : Stmt} {rest : List Stmt} {t : TS} {e : Expr} {te : TE} {pos : Pos}
theorem noE {α : Type} {M : Model} {A : Around} {m : Sem α} {Q : α → Shared → Prop} {E E' : Value → Shared → Prop} {s : Shared} (hx : E = fun _ _ => False) (h : wpAny M A m Q E s) : wpAny M A m Q E' s := wpAny_mono h (fun _ _ z => z) fun _ _ z => by rw [hx] at z; exact z.elim
theorem pssx_of (hx : X.xe = fun _ _ => False) (h : PSs X rest t) : PSsx X rest fun D _ => t D := fun pins s σ H D _ I w => noE hx (h pins s σ H D I w)
theorem pssx_cons {t u : TSx} (h1 : PSx X st t) (h2 : PSsx X rest u) : PSsx X (st :: rest) fun D EX => t { D with nx := u D EX } EX := by
  intro pins s σ H D EX I h
  refine wpAny_execs_cons (thn (h1 pins s σ H { D with nx := u D EX } EX I h) fun f s1 q => ?_)
  cases f with
  | next => obtain ⟨σ', H', I', q'⟩ := q; exact h2 pins s1 σ' H' D EX I' q'
  | brk => exact q
  | cont => exact q
  | ret v => exact q
theorem psx_if {c : Expr} {a b : List Stmt} {tc : TT} {ta tb : TSx} (hx : X.xe = fun _ _ => False) (hc : PT X c tc) (ha : PSsx X a ta) (hb : PSsx X b tb) : PSx X (.If c a b pos) fun D EX σ H => tc σ H fun k H1 => if k = true then ta D EX σ H1 else tb D EX σ H1 := by
  intro pins s σ H D EX I h
  refine wpAny_If (thn (noE hx (hc pins s σ H _ I h)) fun d s1 ⟨H1, I1, q1⟩ => ?_)
  cases d with
  | true => exact ha pins s1 σ H1 D EX I1 q1
  | false => exact hb pins s1 σ H1 D EX I1 q1
theorem psx_expr {te : TEx} (he : PEx X e te) (hs : swapsWith e none pos.line X.env = pure false := by rfl) : PSx X (.Expr e pos) fun D EX σ H => te σ H (fun _ H1 => D.nx σ H1) EX := fun pins s σ H D EX I h => wpAny_Expr_any (thn (he pins s σ H _ EX I h) fun v s1 ⟨x, H1, I1, r1, q1⟩ => ⟨σ, H1, I1, q1⟩) I.quiet hs
end
def CXr (P : Program) (w : World) : CXT := fun outer H s E u s' => ∃ e C dx tr H', u = .ref e ∧ s'.os = s.os ∧ AllBare s'.gens ∧ Un (frs outer) [] H H' s.heap s'.heap ∧ HOk P w H' s'.heap ∧ (∀ L, Fly e (.ref C) dx L s'.heap tr) ∧
  (∀ b ∈ e :: tr.toList, s.heap.objs.size ≤ b ∧ H' b = none) ∧ (∀ d, dx = some d → ∃ fs, H' d = some (.xd fs)) ∧ E (.ref C) dx H'
section
variable {X : Cx} {k : Nat} {f : Addr} {fd : FuncData} {ps : List Str} {sp : Sp} {E : XK} {x : Str} {p pos : Pos} {e : Expr} {es : List Expr} {t : TA}
theorem runx {pins : List (Addr × Obj)} {σ : L2.St} {H : Hp} {s : Shared} {Q : VK} {EX : XQ} {us : List Value} {vs : List V} (F : FnOk X.prog X.w X.K X.mg X.base (CXr X.prog X.w) k f fd ps sp) (hr : Room k X.A) (hb : Binds X.K fd ps []) (I : Inv X pins σ H s) (r : Vals vs us) (h : sp vs H Q (EX σ)) :
    wpAny (model X.prog X.w) X.A (call (.ref f) us) (EP X pins σ Q) (XP X pins EX) s := by
  have hl : (us ++ []).length = ps.length := by rw [List.append_nil, ← r.length]; exact F.len _ _ _ _ h
  have B := hb s us I.kIn hl
  rw [List.append_nil] at B
  refine wpAny_call (codeAny_mono (F.run X.A X.stack s H ⟨us, []⟩ us vs Q _ hr I.env0 B r h) fun r s' hq => ?_)
  cases r with
  | error u =>
    obtain ⟨e, C, dx, tr, H', rfl, h1, h2, h3, h4, h5, h6, h7, h8⟩ := hq
    exact ⟨e, C, dx, tr, σ, H', rfl, I.call' (ch := []) h1 h3 h4 h2 (fun b z => absurd z (by simp)), ⟨h5 _, fun b hb => inv_apart I (h6 b hb).1 (h6 b hb).2, h7⟩, h8⟩
  | ok fl =>
    cases fl with
    | ret u => exact I.after hq
    | next => exact False.elim hq
    | brk => exact False.elim hq
    | cont => exact False.elim hq
theorem pex_call (hx : X.xe = fun _ _ => False) (F : FnOk X.prog X.w X.K X.mg X.base (CXr X.prog X.w) k f fd ps sp) (hr : Room k X.A) (hg : Gl X x) (hm : X.mg x = some (.ref f)) (hk : PySem.W.keepIn X.K (.ref f) = true) (hb : Binds X.K fd ps []) (ha : PA X (e :: es) t)
    (hdb : (x == ("__debug__" : Str)) = false := by decide) (he : starEach (e :: es) X.env = (false, eval e X.env) :: starEach es X.env := by rfl) (hpl : (backTo pos (starEach es X.env)).any (·.1) = false := by rfl) :
    PEx X (.Call (.Name x p) (e :: es) [] pos) fun σ H Q EX => t σ H fun vs H1 => sp vs H1 Q (EX σ) := by
  intro pins s σ H Q EX I h
  refine wpAny_Call_Name_kw (ld_glob I hg hm ?_ hdb)
  exact PySem.W.callWith_K (h₀ := X.base) I.ok.mod.kin hk (thn (noE hx (ha pos pins s σ H _ I h)) fun us s1 ⟨vs, H1, I1, r, q⟩ => ⟨I1.kIn, runx F hr hb I1 r q⟩) he hpl
end
theorem fn_ofx {P : Program} {w : World} {K : PySem.W.Frag} {mg : Str → Option Value} {base : Heap} {k : Nat} {f : Addr} {name qual : Str} {params : Arguments} {body : List Stmt} {scope : Scope} {dV kV doc pm cdv ct oc : Value} {an od : Option Addr}
    {osl : Array (Option Value)} {N ps : List Str} {sp : Sp} (lk : K.lookup f = some ⟨oc, od, .func (PySem.W.fnOf name qual params body scope dV kV doc pm an cdv ct), osl⟩) (hcd : PySem.W.codeIn K cdv qual = true) (S : FnScope N ps scope)
    (len : ∀ vs H Q E, sp vs H Q E → vs.length = ps.length)
    (hbody : ∀ (A : Around) (outer : List Env) (s : Shared) (H : Hp) (vs : List V) (Q : VK) (E : XK), Room k (A.deeper (envOfC qual scope s.heap.objs.size f cdv)) → sp vs H Q E →
      ∃ t, PSsx (cxOf CX0 P w K mg base N qual scope f cdv A outer s H E).nox body t ∧ t { nx := fun _ H' => Q .non H', rt := Q } (fun _ => E) (start N vs) H) :
    FnOk P w K mg base (CXr P w) (k + 1) f (PySem.W.fnOf name qual params body scope dV kV doc pm an cdv ct) ps sp := by
  refine fn_of lk hcd S len fun A outer s H vs Q E hr hs => ?_
  obtain ⟨t, ht, hq⟩ := hbody A outer s H vs Q E hr hs
  refine ⟨fun D σ H' => t D (fun _ => E) σ H', fun pins s1 σ H1 D I hw => ?_, hq⟩
  have I0 : Inv (cxOf CX0 P w K mg base N qual scope f cdv A outer s H E).nox pins σ H1 s1 := I.wish fun _ _ => False
  refine wpAny_mono (ht pins s1 σ H1 D _ I0 hw) (fun fl s' q => SP.unwish (X := cxOf (CXr P w) P w K mg base N qual scope f cdv A outer s H E) (E := fun _ _ => False) q) fun u s' q => ?_
  obtain ⟨e, C, dx, tr, σ', H', rfl, I1, x1, q1⟩ := q
  have ot : OnTop (cxOf CX0 P w K mg base N qual scope f cdv A outer s H E).nox := ⟨rfl, rfl⟩
  show wpAny _ _ («leaving» _ _) _ _ s'
  unfold «leaving»
  refine wpAny_bind (x1.note ot rfl I1 fun h2 tr2 I2 x2 => x2.flight I2 (.inl rfl) fun h3 I3 x3 F => ?_)
  exact ⟨e, C, dx, tr2, H', rfl, I3.os, I3.bare, I3.base, I3.hok, F rfl, fun b hb => ⟨(x3.2.1 b hb).new, (x3.2.1 b hb).un⟩, x3.2.2, q1⟩
end DL
set_option Elab.async false
set_option linter.all false
set_option maxRecDepth 100000
set_option maxHeartbeats 4000000
namespace DL
open PySem PySem.Spec PyProof.Rows L2
def xn (C t : Addr) (dx : Option Addr) (e : Addr) : HO := .ext fun h => h.get? e = some ⟨.ref C, dx, .fields #[.ref t, .none, .none, .none, .bool false, .none], #[]⟩
def dropH (H : Hp) (e : Addr) : Hp := fun b => if b = e then none else H b
theorem drop_ne {H : Hp} {e b : Addr} (h : b ≠ e) : dropH H e b = H b := if_neg h
theorem drop_at {H : Hp} {e : Addr} : dropH H e e = none := if_pos rfl
section
variable {X : Cx} {pins : List (Addr × Obj)} {σ : L2.St} {H : Hp} {s : Shared} {e C t : Addr} {φ : Heap → Prop}
theorem inv_drop (I : Inv X pins σ H s) (he : H e = some (.ext φ)) : Inv X pins σ (dropH H e) s := by
  have ne : ∀ b u, H b = some u → u ≠ .ext φ → b ≠ e := fun b u q n z => by rw [z, he] at q; cases q; exact n rfl
  refine I.un (t' := s.toks) (h' := s.heap) ⟨fun _ _ q _ _ _ => q, fun b o q _ _ _ => ⟨o.slots, q⟩, fun b o q n _ => ?_, fun b o q _ => ⟨o, q⟩, fun b xs q => ?_, fun b o u q => ?_, fun b ps q => ⟨#[], ?_⟩⟩ fun b u q => ?_
  · unfold dropH
    split
    · rfl
    · exact n
  · rw [drop_ne (ne b _ q (by simp))]; exact q
  · rw [drop_ne (ne b _ q (by simp))]; exact q
  · rw [drop_ne (ne b _ q (by simp)), q]; simp
  · by_cases z : b = e
    · rw [z, drop_at] at q; cases q
    · rw [drop_ne z] at q
      exact (I.hok b u q).stay (fun _ _ _ r => r) (fun c r => by rw [drop_ne (ne c _ r (by simp))]; exact r) (fun c xs r => by rw [drop_ne (ne c _ r (by simp))]; exact r) fun c ob u r => by rw [drop_ne (ne c _ r (by simp))]; exact r
theorem xn_at (I : Inv X pins σ H s) {dx : Option Addr} (he : H e = some (xn C t dx e)) : s.heap.get? e = some ⟨.ref C, dx, .fields #[.ref t, .none, .none, .none, .bool false, .none], #[]⟩ := (show ObjOk X.prog X.w H s.heap e (xn C t dx e) from I.hok e _ he).1
theorem xn_ok {P : Program} {w : World} {H : Hp} {h : Heap} {dx : Option Addr} (q : h.get? e = some ⟨.ref C, dx, .fields #[.ref t, .none, .none, .none, .bool false, .none], #[]⟩) : ObjOk P w H h e (xn C t dx e) := ⟨q, ⟨_, q⟩, fun h1 h2 a b => b _ a⟩
theorem xinst (I : Inv X pins σ H s) {dx : Option Addr} (he : H e = some (xn C t dx e)) (hd : ∀ d, dx = some d → ∃ fs, H d = some (.xd fs)) : PySem.W.InstAt s.heap e ⟨.ref C, dx, .fields #[.ref t, .none, .none, .none, .bool false, .none], #[]⟩ C (dx.bind fun d => s.heap.get? d) := by
  refine ⟨xn_at I he, rfl, rfl, ?_⟩
  cases dx with
  | none => trivial
  | some d =>
    obtain ⟨fs, q⟩ := hd d rfl
    obtain ⟨mA, ⟨o, _, _, hn, _⟩, _⟩ := (show ObjOk X.prog X.w H s.heap d (.xd fs) from I.hok d _ q)
    show (match some d, (some d).bind fun d => s.heap.get? d with | some dx, some o => s.heap.get? dx = some o | none, none => True | _, _ => False)
    rw [Option.bind_some, hn]
    exact hn
theorem within_of {fs : List (Str × V)} {mA : Str → Option Value} (r : ∀ f, RelO (fs.lookup f) (mA f)) : PySem.Within mA (fs.map (·.1)) := fun y hy => by
  have r := r y
  cases q : fs.lookup y with
  | none => rw [q] at r; exact absurd (RelO.none_of r) hy
  | some v => exact List.mem_map.mpr ⟨(y, v), PySem.mem_of_lookup q, rfl⟩
theorem xset_ok {A : Around} {E : Value → Shared → Prop} {f : Str} {y : V} {u : Value} {dx : Option Addr} {Q : Unit → Shared → Prop} (c : XCl X.K C) (n : NoAttr X.K C f) (I : Inv X pins σ H s) (he : H e = some (xn C t dx e)) (ry : RelV y u)
    (h0 : dx = none → ∀ d s', H d = none → d ≠ e → Inv X pins σ (upd (upd H d (.xd [(f, y)])) e (xn C t (some d) e)) s' → Q () s')
    (h1 : ∀ d, dx = some d → d ≠ e ∧ ∃ fs, H d = some (.xd fs) ∧ fs.length < 1000 ∧ ∀ s', Inv X pins σ (upd H d (.xd (putF f y fs))) s' → Q () s') : wpAny (model X.prog X.w) A (setAttr (.ref e) f u) Q E s := by
  have hx := xn_at I he
  cases dx with
  | none =>
    refine xset_new c I.kIn hx n fun h' t' q1 q2 q3 => ?_
    have hd : H s.heap.objs.size = none := I.hok.fresh (Nat.le_refl _)
    have de : s.heap.objs.size ≠ e := Nat.ne_of_gt (Heap.lt_size hx)
    refine h0 rfl _ _ hd de (I.un (t' := t') (h' := h') ⟨fun b o q z _ _ => q3 b o (fun w => by rw [w, he] at z; cases z) q, fun b o q z _ _ => ⟨o.slots, q3 b o (fun w => by rw [w, he] at z; cases z) q⟩, fun b o q z _ => ?_, fun b o q _ => ?_, fun b xs q => ?_, fun b o v q => ?_, fun b ps q => ⟨#[], ?_⟩⟩ fun b v q => ?_)
    · rw [upd_ne (fun w => by rw [w, he] at z; cases z), upd_ne (Nat.ne_of_lt (Heap.lt_size q))]; exact z
    · by_cases w : b = e
      · rw [w]; exact ⟨_, q1⟩
      · exact ⟨o, q3 b o w q⟩
    · rw [upd_ne (fun w => by rw [w, he] at q; cases q), upd_ne (ne_of_none q hd)]; exact q
    · rw [upd_ne (fun w => by rw [w, he] at q; cases q), upd_ne (ne_of_none q hd)]; exact q
    · rw [upd_ne (fun w => by rw [w, he] at q; cases q), upd_ne (ne_of_none q hd), q]; simp
    · by_cases w : b = e
      · subst w
        rw [upd_same] at q
        cases q
        exact xn_ok q1
      · rw [upd_ne w] at q
        by_cases w' : b = s.heap.objs.size
        · subst w'
          rw [upd_same] at q
          cases q
          refine ⟨_, q2, fun g => ?_⟩
          by_cases z : g = f
          · subst z
            simp only [List.lookup, beq_self_eq_true, if_true]
            exact ry
          · simp only [List.lookup, beq_eq_false_iff_ne.mpr z, if_neg z]
            trivial
        · rw [upd_ne w'] at q
          have on : ∀ c u, H c = some u → (∀ φ, u ≠ .ext φ) → upd (upd H s.heap.objs.size (.xd [(f, y)])) e (xn C t (some s.heap.objs.size) e) c = some u := fun c u r m => by
            rw [upd_ne (fun w => by rw [w, he] at r; cases r; exact m _ rfl), upd_ne (ne_of_none r hd)]; exact r
          refine (I.hok b v q).stay (fun c o hc r => q3 c o ?_ r) (fun c r => on c _ r (by simp)) (fun c xs r => on c _ r (by simp)) fun c o u r => on c _ r (by simp)
          rcases hc with rfl | hc
          · exact w
          · intro w; rw [w, he] at hc; cases hc
  | some d =>
    obtain ⟨de, fs, hd, hl, k⟩ := h1 d rfl
    obtain ⟨mA, hn, r⟩ := (show ObjOk X.prog X.w H s.heap d (.xd fs) from I.hok d _ hd)
    refine xset_more c I.kIn hx n hn (within_of r) (by rw [List.length_map, sizeLine_eq]; omega) de fun h' t' q1 q2 => k _ (I.un (t' := t') (h' := h') ⟨fun b o q z _ _ => (q2.2 b (fun w => by rw [w, hd] at z; cases z)).trans q, fun b o q z _ _ => ⟨o.slots, (q2.2 b (fun w => by rw [w, hd] at z; cases z)).trans q⟩, fun b o q z _ => ?_, fun b o q _ => ?_, fun b xs q => ?_, fun b o v q => ?_, fun b ps q => ⟨#[], ?_⟩⟩ fun b v q => ?_)
    · rw [upd_ne (fun w => by rw [w, hd] at z; cases z)]; exact z
    · by_cases w : b = d
      · obtain ⟨o', _, _, z, _⟩ := q1
        rw [w]; exact ⟨o', z⟩
      · exact ⟨o, (q2.2 b w).trans q⟩
    · rw [upd_ne (fun w => by rw [w, hd] at q; cases q)]; exact q
    · rw [upd_ne (fun w => by rw [w, hd] at q; cases q)]; exact q
    · rw [upd_ne (fun w => by rw [w, hd] at q; cases q), q]; simp
    · by_cases w : b = d
      · subst w
        rw [upd_same] at q
        cases q
        refine ⟨_, q1, fun g => ?_⟩
        rw [lookup_putF]
        by_cases z : g = f
        · rw [if_pos z, if_pos z]; exact ry
        · rw [if_neg z, if_neg z]; exact r g
      · rw [upd_ne w] at q
        have on : ∀ c u, H c = some u → (∀ g, u ≠ .xd g) → upd H d (.xd (putF f y fs)) c = some u := fun c u r m => by
          rw [upd_ne (fun w => by rw [w, hd] at r; cases r; exact m _ rfl)]; exact r
        refine (I.hok b v q).stay (fun c o hc r => (q2.2 c ?_).trans r) (fun c r => on c _ r (by simp)) (fun c xs r => on c _ r (by simp)) fun c o u r => on c _ r (by simp)
        rcases hc with rfl | hc
        · exact w
        · intro w; rw [w, hd] at hc; cases hc
end
section
variable {X : Cx} {o value : Expr} {f x : Str} {pos pos' p cpos : Pos} {ta tv : TE} {C : Addr}
def tXSet (C : Addr) (f : Str) (ta tv : TE) : TS := fun D σ H => tv σ H fun y H1 => ta σ H1 fun z H2 => ∃ e t dx, z = .ref e ∧ H2 e = some (xn C t dx e) ∧ (dx = none → ∀ d, H2 d = none → d ≠ e → D.nx σ (upd (upd H2 d (.xd [(f, y)])) e (xn C t (some d) e))) ∧
  ∀ d, dx = some d → d ≠ e ∧ ∃ fs, H2 d = some (.xd fs) ∧ fs.length < 1000 ∧ D.nx σ (upd H2 d (.xd (putF f y fs)))
theorem ps_xset (c : XCl X.K C) (n : NoAttr X.K C f) (ha : PE X o ta) (hv : PE X value tv) (hs : swapsWith value (some (.Attribute o f pos')) pos.line X.env = pure false := by rfl) : PS X (.Assign [.Attribute o f pos'] value pos) (tXSet C f ta tv) := by
  intro pins s σ H D I h
  refine plainObj_wpAny_Assign_Attribute (thn (hv pins s σ H _ I h) fun u s1 ⟨y, H1, I1, ry, q⟩ => thn (ha pins s1 σ H1 _ I1 q) fun ov s2 ⟨z, H2, I2, rz, e, t, dx, ez, he, k0, k1⟩ => ?_) hs
  subst ez
  obtain rfl : ov = Value.ref e := rz
  refine xset_ok c n I2 he ry (fun z d s' hd de I' => ⟨σ, _, I', k0 z d hd de⟩) fun d z => ?_
  obtain ⟨a, fs, b, l, q⟩ := k1 d z
  exact ⟨a, fs, b, l, fun s' I' => ⟨σ, _, I', q⟩⟩
theorem psx_raise {k : Nat} {fa : Addr} {fd : FuncData} {ps : List Str} {sp : Sp} {E : XK} {a : Expr} {es : List Expr} {t : TA} (hx : X.xe = fun _ _ => False) (hc : X.calm = true) (c : XCl X.K C) (m : XMk X.K C) (kp : PySem.W.keepIn X.K (.ref C) = true)
    (hi : PySem.W.findIn X.K (.ref C) "__init__" = some (some (.ref fa))) (hf : PySem.W.typeIn X.K (.ref fa) = some (.type "function")) (F : FnOk X.prog X.w X.K X.mg X.base CX0 k fa fd ps sp) (hr : Room (k + 1) X.A) (hb : Binds X.K fd ps []) (hg : Gl X x) (hm : X.mg x = some (.ref C)) (ha : PA X (a :: es) t) (hps : ps.length ≤ 1000)
    (hdb : (x == ("__debug__" : Str)) = false := by decide) (he : starEach (a :: es) X.env = (false, eval a X.env) :: starEach es X.env := by rfl) (hpl : (backTo cpos (starEach es X.env)).any (·.1) = false := by rfl) :
    PSx X (.Raise (some (.Call (.Name x p) (a :: es) [] cpos)) none pos) fun D EX σ H => t σ H fun vs H1 => ∀ e t, H1 e = none → sp (.ref e :: vs) (upd H1 e (xn C t none e)) (fun v H2 => v = .non ∧ ∃ dx, H2 e = some (xn C t dx e) ∧ (∀ d, dx = some d → d ≠ e ∧ ∃ fs, H2 d = some (.xd fs)) ∧ EX σ (.ref C) dx (dropH H2 e)) E := by
  intro pins s σ H D EX I h
  refine xraise_st (I.ok.hd hc) c (wpAny_Call_Name_kw (ld_glob I hg hm ?_ hdb))
  refine PySem.W.callWith_K (h₀ := X.base) I.ok.mod.kin kp (thn (noE hx (ha cpos pins s σ H _ I h)) fun us s1 ⟨vs, H1, I1, r, q⟩ => ⟨I1.kIn, ?_⟩) he hpl
  have len := F.len _ _ _ _ (q s1.heap.objs.size 0 (I1.hok.fresh (Nat.le_refl _)))
  have rl := r.length
  rw [List.length_cons] at len
  refine xmake m I1.kIn hi hf (by show us.length ≤ _; rw [← rl, sizeLine_eq]; omega) fun h' e le made => ?_
  obtain ⟨tt, o1, o2, o3⟩ := made.there
  have I2 : Inv X pins σ (upd H1 e (xn C tt none e)) { s1 with heap := h' } := I1.laid (t' := s1.toks) made.keeps le (xn_ok o1)
  have B := hb { s1 with heap := h' } (.ref e :: us) I2.kIn (by rw [List.append_nil, List.length_cons, ← rl]; exact len)
  rw [List.append_nil] at B
  refine wpAny_call (codeAny_mono (F.run _ X.stack _ _ ⟨.ref e :: us, []⟩ (.ref e :: us) (.ref e :: vs) _ _ (hr.make C us []) (I2.env0.make C us []) B (.cons rfl r) (q e tt (I1.hok.fresh le))) fun r s' hq => ?_)
  cases r with
  | error u => exact hq.elim
  | ok fl =>
    cases fl with
    | ret u =>
      obtain ⟨v, H3, I3, rv, ev, dx, x1, x2, x3⟩ := I2.after hq
      subst ev
      have o4 := xn_at I3 x1
      refine ⟨rv, e, dx, _, _, _, rfl, I3.kIn, xinst I3 x1 fun d z => (x2 d z).2, rfl, e, C, dx, none, σ, _, rfl, inv_drop I3 x1, ⟨⟨_, _, o4, rfl⟩, fun b hb => ?_, fun d z => ?_⟩, x3⟩
      · obtain rfl : b = e := by simpa using hb
        exact inv_apart I1 le drop_at
      · obtain ⟨a, fs, b⟩ := x2 d z
        exact ⟨fs, by rw [drop_ne a]; exact b⟩
    | next => exact False.elim hq
    | brk => exact False.elim hq
    | cont => exact False.elim hq
theorem psx_raise0 {a : Expr} {es : List Expr} {t : TA} (hx : X.xe = fun _ _ => False) (hc : X.calm = true) (c : XCl X.K C) (m : XMk0 X.K C) (kp : PySem.W.keepIn X.K (.ref C) = true) (hg : Gl X x) (hm : X.mg x = some (.ref C)) (ha : PA X (a :: es) t)
    (hdb : (x == ("__debug__" : Str)) = false := by decide) (he : starEach (a :: es) X.env = (false, eval a X.env) :: starEach es X.env := by rfl) (hpl : (backTo cpos (starEach es X.env)).any (·.1) = false := by rfl) :
    PSx X (.Raise (some (.Call (.Name x p) (a :: es) [] cpos)) none pos) fun D EX σ H => t σ H fun vs H1 => vs.length ≤ 1000 ∧ EX σ (.ref C) none H1 := by
  intro pins s σ H D EX I h
  refine xraise_st (I.ok.hd hc) c (wpAny_Call_Name_kw (ld_glob I hg hm ?_ hdb))
  refine PySem.W.callWith_K (h₀ := X.base) I.ok.mod.kin kp (thn (noE hx (ha cpos pins s σ H _ I h)) fun us s1 ⟨vs, H1, I1, r, hl, q⟩ => ⟨I1.kIn, ?_⟩) he hpl
  have rl := r.length
  refine xmake0 m I1.kIn (by show us.length ≤ _; rw [← rl, sizeLine_eq]; omega) fun h' e le made => ?_
  obtain ⟨tt, o1, o2, o3⟩ := made.there
  have I2 : Inv X pins σ H1 { s1 with heap := h' } := I1.kept (t' := s1.toks) made.keeps
  refine ⟨e, none, none, _, _, rfl, I2.kIn, ⟨o1, rfl, rfl, trivial⟩, rfl, e, C, none, none, σ, _, rfl, I2, ⟨⟨_, _, o1, rfl⟩, fun b hb => ?_, fun d z => nomatch z⟩, q⟩
  obtain rfl : b = e := by simpa using hb
  exact inv_apart I1 le (I1.hok.fresh le)
end
end DL
set_option Elab.async false
set_option linter.all false
set_option maxRecDepth 100000
set_option maxHeartbeats 4000000
namespace DL
open PySem PySem.Spec PyProof.Rows L2
def hold (X : Cx) (e : Addr) : Cx := { X with A := X.A.mark (some (.ref e)), calm := false }
def frx (H : Hp) (e : Addr) (oe : Obj) (dx : Option Addr) (od : Obj) (fs : List (Str × V)) : Hp := fun b => if b = e then some (.frz oe (.ext fun h => h.get? e = some oe)) else if dx = some b then some (.frz od (.xd fs)) else H b
section
variable {X : Cx} {pins : List (Addr × Obj)} {σ : L2.St} {H : Hp} {s : Shared} {e : Addr}
theorem inv_hold (I : Inv X pins σ H s) : Inv (hold X e) pins σ H s :=
  ⟨⟨I.ok.mod, I.ok.kind, I.ok.glob, I.ok.blt, I.ok.above, I.ok.inj, I.ok.has, I.ok.cab, (fun z => nomatch z), (by have := I.ok.frames; exact this), I.ok.stk, I.ok.exf, I.ok.bs, I.ok.bsz, I.ok.noex, I.ok.exfs, I.ok.funs, I.ok.frf⟩, I.os, I.bare, I.base, I.loc, I.cell, I.free, I.freeC, I.pin, I.hok, I.len⟩
theorem inv_free (ok : X.Ok) (I : Inv (hold X e) pins σ H s) : Inv X pins σ H s := ⟨ok, I.os, I.bare, I.base, I.loc, I.cell, I.free, I.freeC, I.pin, I.hok, I.len⟩
theorem sp_free {D : Ends} {f : Flow} (ok : X.Ok) (h : SP (hold X e) pins D f s) : SP X pins D f s := by
  cases f with
  | next => obtain ⟨σ', H', I, q⟩ := h; exact ⟨σ', H', inv_free ok I, q⟩
  | brk => obtain ⟨σ', H', I, q⟩ := h; exact ⟨σ', H', inv_free ok I, q⟩
  | cont => obtain ⟨σ', H', I, q⟩ := h; exact ⟨σ', H', inv_free ok I, q⟩
  | ret u => obtain ⟨v, σ', H', I, r, q⟩ := h; exact ⟨v, σ', H', inv_free ok I, r, q⟩
theorem inv_frx {oe od : Obj} {dx : Option Addr} {fs : List (Str × V)} (I : Inv X pins σ H s) (a : Apart X pins H e) (he : s.heap.get? e = some oe) (hd : ∀ d, dx = some d → H d = some (.xd fs) ∧ s.heap.get? d = some od) : Inv X pins σ (frx H e oe dx od fs) s := by
  have old : ∀ b, b ≠ e → dx ≠ some b → frx H e oe dx od fs b = H b := fun b h1 h2 => by unfold frx; rw [if_neg h1, if_neg h2]
  have oth : ∀ b u, H b = some u → (∀ g, u ≠ .xd g) → frx H e oe dx od fs b = some u := fun b u q n => by
    rw [old b (fun z => by rw [z, a.un] at q; cases q) (fun z => by rw [(hd b z).1] at q; cases q; exact n _ rfl)]; exact q
  have non : ∀ b, H b = none → b ≠ e → frx H e oe dx od fs b = none := fun b q n => by
    rw [old b n (fun z => by rw [(hd b z).1] at q; cases q)]; exact q
  have B := I.base
  refine ⟨I.ok, I.os, I.bare, ⟨B.keep, B.slot, fun b o q n z => ?_, B.there, fun b xs q => oth b _ (B.tups b xs q) (by simp), fun b o u q => oth b _ (B.frzs b o u q) (by simp), fun b ps q => ?_⟩, I.loc, I.cell, non _ I.free (Ne.symm a.loc), fun x c q => non c (I.freeC x c q) (a.cel x c q), fun p hp => ?_, fun b u q => ?_, I.len⟩
  · exact non b (B.free b o q n z) (fun w => Nat.lt_irrefl _ (Nat.lt_of_lt_of_le (Heap.lt_size q) (w ▸ a.new)))
  · obtain ⟨m, z⟩ := B.tbls b ps q
    exact ⟨m, oth b _ z (by simp)⟩
  · obtain ⟨p1, p2, p3⟩ := I.pin p hp
    exact ⟨p1, non _ p2 (a.pin p hp), p3⟩
  · have st : ∀ b u, H b = some u → ObjOk X.prog X.w (frx H e oe dx od fs) s.heap b u := fun b u q => (I.hok b u q).stay (fun _ _ _ r => r) (fun c r => oth c _ r (by simp)) (fun c xs r => oth c _ r (by simp)) fun c o v r => oth c _ r (by simp)
    by_cases z : b = e
    · subst z
      have q : frx H b oe dx od fs b = some u := q
      unfold frx at q
      rw [if_pos rfl] at q
      cases q
      exact ⟨he, he, ⟨_, he⟩, fun h1 h2 x k => k _ x⟩
    · by_cases w : dx = some b
      · have q : frx H e oe dx od fs b = some u := q
        unfold frx at q
        rw [if_neg z, if_pos w] at q
        cases q
        exact ⟨(hd b w).2, st b _ (hd b w).1⟩
      · rw [old b z w] at q
        exact st b u q
end
section
variable {X : Cx} {pins : List (Addr × Obj)} {σ : L2.St} {H : Hp} {s : Shared} {e C : Addr} {dx tr : Option Addr} {h : Heap}
theorem xs_inst (I : Inv X pins σ H { s with heap := h }) (x : XS X pins H e (.ref C) dx tr h) : ∃ vs sl od, PySem.W.InstAt h e ⟨.ref C, dx, .fields vs, sl⟩ C od ∧ ∀ d, dx = some d → ∃ o, od = some o ∧ h.get? d = some o := by
  obtain ⟨vs, sl, he, _⟩ := x.1
  cases dx with
  | none => exact ⟨vs, sl, none, ⟨he, rfl, rfl, trivial⟩, fun d z => nomatch z⟩
  | some d =>
    obtain ⟨fs, q⟩ := x.2.2 d rfl
    obtain ⟨mA, ⟨o, _, _, hn, _⟩, _⟩ := (show ObjOk X.prog X.w H h d (.xd fs) from I.hok d _ q)
    exact ⟨vs, sl, some o, ⟨he, rfl, rfl, hn⟩, fun d' z => by cases z; exact ⟨o, rfl, hn⟩⟩
end
section
variable {X : Cx} {body suite : List Stmt} {b0 : Stmt} {cn n : Str} {np hpos pos : Pos} {S : Addr} {tb : TSx} {ts : TS}
end
end DL
set_option Elab.async false
set_option linter.all false
set_option maxRecDepth 100000
set_option maxHeartbeats 4000000
namespace DL
open PySem PySem.Spec PyProof.Rows L2
section
variable {X : Cx} {pins : List (Addr × Obj)} {σ : L2.St} {H : Hp} {s : Shared} {e : Addr} {n : Str} {i : Nat} {pos : Pos}
theorem inv_gone {h' : Heap} {t' : Nat} {m : Str → Option Value} {v : Option Value} (I : Inv X pins σ H s) (hN : X.N.Nodup) (hi : X.N[i]? = some n) (hl : ∀ (j : Nat) (x : Str) (v : V), X.N[j]? = some x → σ[j]? = some (some v) → Vis X.env.scope x → ∃ u, RelV v u ∧ Look X.env s.heap m x u)
    (hn : h'.Ns X.env.locals fun x => if x = n then v else m x) (hs : Heap.SameBut X.env.locals s.heap h') : Inv X pins (σ.set i none) H { s with heap := h', toks := t' } := by
  have nl : ∀ b o, X.s₀.heap.get? b = some o → b ≠ X.env.locals := fun b o q => Nat.ne_of_lt (Nat.lt_of_lt_of_le (Heap.lt_size q) I.ok.above)
  have B := I.base
  refine ⟨I.ok, I.os, I.bare, ⟨fun b o q z hb hx => (hs.2 b (nl b o q)).trans (B.keep b o q z hb hx), fun b o q z hb hx => ?_, B.free, fun b o q hx => ?_, B.tups, B.frzs, B.tbls⟩, ⟨_, hn, fun j y w q1 q2 q3 => ?_⟩, fun y c q => ?_, I.free, I.freeC, fun p hp => ?_, fun b u q => ?_, by rw [List.length_set]; exact I.len⟩
  · obtain ⟨sl, r⟩ := B.slot b o q z hb hx
    exact ⟨sl, (hs.2 b (nl b o q)).trans r⟩
  · obtain ⟨o', r⟩ := B.there b o q hx
    exact ⟨o', (hs.2 b (nl b o q)).trans r⟩
  · by_cases hj : j = i
    · subst hj
      rw [List.getElem?_set] at q2
      simp only [if_true] at q2
      split at q2 <;> cases q2
    · rw [List.getElem?_set_ne (Ne.symm hj)] at q2
      obtain ⟨u, r, l⟩ := hl j y w q1 q2 q3
      refine ⟨u, r, ?_⟩
      rcases l with ⟨k, z⟩ | ⟨k, c, z, y'⟩
      · refine .inl ⟨k, ?_⟩
        have yn : y ≠ n := fun w => hj (nodup_ix hN q1 (by rw [w]; exact hi))
        show (if y = n then v else m y) = _
        rw [if_neg yn]
        exact z
      · exact .inr ⟨k, c, z, y'.sameBut hs (I.cne y c z)⟩
  · obtain ⟨w, z⟩ := I.cell y c q
    exact ⟨w, z.sameBut hs (I.cne y c q)⟩
  · obtain ⟨p1, p2, p3, p4⟩ := I.pin p hp
    exact ⟨(hs.2 p.1 p3).trans p1, p2, p3, p4⟩
  · refine (I.hok b u q).stay (fun c w hc r => (hs.2 c ?_).trans r) (fun _ r => r) (fun _ _ r => r) fun _ _ _ r => r
    rintro rfl
    rcases hc with z | z
    · rw [← z, I.free] at q; cases q
    · rw [I.free] at z; cases z
theorem gone_ok {M : Model} {A : Around} {E : Value → Shared → Prop} {Q : Unit → Shared → Prop} (I : Inv X pins σ H s) (hN : X.N.Nodup) (hi : X.N[i]? = some n) (hl : X.env.scope.names.lookup n = some .local) (h : ∀ s', Inv X pins (σ.set i none) H s' → Q () s') :
    wpAny M A (do bindName X.env n .none; unbindBehindTheSuite X.env n pos) Q E s := by
  have hcls : (X.env.scope.kind == .class || (X.env.scope.kind == .module && X.env.locals != X.env.globals)) = false := by rw [I.ok.kind]; rfl
  have hk : X.env.kindOf n = some .local := hl
  refine wpAny_bind (wpAny_bindName (store_ok I hN hi (.inl hl) (v := .non) rfl (fun s1 I1 => ?_) (.inr hl)))
  obtain ⟨m, hn, hv⟩ := id I1.loc
  have hiσ : i < σ.length := by rw [I.len]; exact (List.getElem?_eq_some_iff.mp hi).1
  obtain ⟨u, _, lk⟩ := hv i n .non hi (List.getElem?_set_self hiσ) (.inl hl)
  have mn : (m n).isSome = true := by
    rcases lk with ⟨_, z⟩ | ⟨z, _⟩
    · rw [z]; rfl
    · rcases z with z | z <;> (rw [hk] at z; cases z)
  unfold unbindBehindTheSuite
  refine wpAny_onRaise ?_
  unfold unbindName
  refine wpAny_bind (wpAny_point (wpAny_bind ?_))
  unfold deleteName
  simp only [hk, hcls]
  rw [if_neg (by decide)]
  refine wpAny_bind (wpAny_nsDel_keeps hn fun h2 v hn2 hs2 => ?_)
  rw [mn]
  simp only [if_true, Bool.not_true, Bool.false_eq_true, if_false]
  refine wpAny_pure (wpAny_point (h _ ?_))
  have J := inv_gone (t' := s1.toks) (v := v) I1 hN hi hv hn2 hs2
  rwa [List.set_set] at J
end
def Dn (i : Nat) (D : Ends) : Ends := { nx := fun σ H => D.nx (σ.set i none) H, rt := D.rt, bk := fun σ H => D.bk (σ.set i none) H, ct := fun σ H => D.ct (σ.set i none) H }
section
variable {X : Cx} {body suite : List Stmt} {b0 : Stmt} {cn n : Str} {np hpos pos : Pos} {S : Addr} {tb : TSx} {ts : TS} {i : Nat}
theorem ps_tryN (hx : X.xe = fun _ _ => False) (ot : OnTop X) (hN : X.N.Nodup) (hi : X.N[i]? = some n) (hl : X.env.scope.names.lookup n = some .local) (hb : PSsx X body tb) (hs : ∀ e, PSs (hold X e) (b0 :: suite) ts) (hg : Gl X cn) (hm : X.mg cn = some (.ref S)) (cs : XCl X.K S) (hdb : (cn == ("__debug__" : Str)) = false := by decide) :
    PS X (.Try body [.ExceptHandler (some (.Name cn np)) (some n) (b0 :: suite) hpos] [] [] pos) fun D => tb D fun σ' c dx H' => ∃ C, c = .ref C ∧ XCl X.K C ∧ PySem.W.mroIn X.K C (.ref S) = some true ∧
      ∀ e oe od fs, H' e = none → (∃ ws sl, oe = ⟨.ref C, dx, .fields ws, sl⟩) → (∀ d, dx = some d → H' d = some (.xd fs) ∧ d ≠ e) → (dx = none → fs = []) → ts (Dn i D) (σ'.set i (some (.ref e))) (frx H' e oe dx od fs) := by
  intro pins s σ H D I h
  refine wpAny_Try_except (wpAny_mono (hb pins s σ H D _ I h) (fun f s1 q => ?_) fun u s1 q => ?_)
  · cases f with
    | next => exact wpAny_execs_nil q
    | brk => exact q
    | cont => exact q
    | ret v => exact q
  · obtain ⟨e, C, dx, tr, σ', H', rfl, I1, x1, C', ec, c, hmro, q⟩ := q
    cases ec
    refine x1.note ot rfl I1 fun h2 tr2 I2 x2 => x2.flight I2 (.inl rfl) fun h3 I3 x3 _ => ?_
    have K3 := inv_hold (e := e) I3
    obtain ⟨vs, sl, od, J, _⟩ := xs_inst I3 x3
    refine wpAny_handleBy_cons (codeAny_handlers_test (ld_glob K3 hg hm ?_ hdb)) (by intro z; cases z)
    refine xmatch (s := { s1 with heap := h3 }) c cs I3.kIn J hmro ?_
    refine codeAny_handlers_suite_as (x3.flight I3 (.inl rfl) fun h4 I4 x4 _ => ?_)
    obtain ⟨vs4, sl4, he4, _⟩ := id x4.1
    obtain ⟨_, _, od4, _, hod⟩ := xs_inst I4 x4
    have ap := x4.2.1 e List.mem_cons_self
    have hfs : ∃ fs od, (∀ d, dx = some d → H' d = some (.xd fs) ∧ h4.get? d = some od) ∧ (dx = none → fs = []) := by
      cases dx with
      | none => exact ⟨[], default, (fun d z => nomatch z), fun _ => rfl⟩
      | some d =>
        obtain ⟨fs, z⟩ := x4.2.2 d rfl
        obtain ⟨o, _, z2⟩ := hod d rfl
        exact ⟨fs, o, fun d' w => by cases w; exact ⟨z, z2⟩, fun w => nomatch w⟩
    obtain ⟨fs, o, hfs, hf0⟩ := hfs
    have I5 := inv_frx (oe := ⟨.ref C, dx, .fields vs4, sl4⟩) I4 ap he4 hfs
    refine store_ok (X := hold X e) (inv_hold (e := e) I5) hN hi (.inl hl) (v := .ref e) rfl (fun s5 I6 => ?_) (.inr hl)
    refine wpAny_mono (hs e pins s5 _ _ (Dn i D) I6 (q e _ o fs ap.un ⟨_, _, rfl⟩ (fun d z => ⟨(hfs d z).1, fun w => ?_⟩) hf0)) (fun f s6 q6 => ?_) fun _ _ z => ?_
    · have := (hfs d z).1
      rw [w, ap.un] at this
      cases this
    · have q6 := sp_free I.ok q6
      cases f with
      | next => obtain ⟨σ6, H6, J6, r⟩ := q6; exact gone_ok J6 hN hi hl fun s7 J7 => ⟨_, H6, J7, r⟩
      | brk => obtain ⟨σ6, H6, J6, r⟩ := q6; exact gone_ok J6 hN hi hl fun s7 J7 => ⟨_, H6, J7, r⟩
      | cont => obtain ⟨σ6, H6, J6, r⟩ := q6; exact gone_ok J6 hN hi hl fun s7 J7 => ⟨_, H6, J7, r⟩
      | ret v => obtain ⟨w, σ6, H6, J6, rv, r⟩ := q6; exact gone_ok J6 hN hi hl fun s7 J7 => ⟨w, _, H6, J7, rv, r⟩
    · have z : X.xe _ _ := z
      rw [hx] at z
      exact z.elim
end
end DL
set_option Elab.async false
set_option linter.all false
set_option maxRecDepth 100000
set_option maxHeartbeats 4000000
namespace DL
open PySem PySem.Spec PyProof.Rows L2
def exc (N : Str) (fs : List (Str × PyData)) : PyData := .dict ((mkU, .str N) :: fs.map fun kv => (.str kv.1, kv.2))
def XKn (K : PySem.W.Frag) (C : Addr) (N : Str) : Prop := XCk K C ∧ PySem.W.nsIn K mainGlobals N = some (some (.ref C))
def XFs (K : PySem.W.Frag) (Z : Addr → Prop) (m : Mu) (H : Hp) (fs : List (Str × PyData)) (dx : Option Addr) : Prop := (dx = none ∧ fs = []) ∨ ∃ d vs, dx = some d ∧ ¬ Z d ∧ H d = some (.xd vs) ∧ RKV K Z m H fs vs
abbrev DXK := Str → List (Str × PyData) → Mu → Prop
abbrev DCx := List D → Mu → DK → DXK → Prop
def LSx (K : PySem.W.Frag) (f : DS) : TSx := fun E EX s H => ∃ (Z : Addr → Prop) (d : St2) (m : Mu) (R : Ends2), Ok K Z m H ∧ RS K Z m H d s ∧ f R d m ∧
  (∀ d' m' s' H', R.nx d' m' → Ext K Z m H m' H' → Ok K Z m' H' → RS K Z m' H' d' s' → E.nx s' H') ∧
  (∀ x m' v H', R.rt x m' → Ext K Z m H m' H' → Ok K Z m' H' → RD K Z m' H' x v → E.rt v H') ∧
  (∀ d' m' s' H', R.bk d' m' → Ext K Z m H m' H' → Ok K Z m' H' → RS K Z m' H' d' s' → E.bk s' H') ∧
  (∀ d' m' s' H', R.ct d' m' → Ext K Z m H m' H' → Ok K Z m' H' → RS K Z m' H' d' s' → E.ct s' H') ∧
  ∀ d' N fs C dx m' s' H', R.xc d' N fs m' → Ext K Z m H m' H' → Ok K Z m' H' → RS K Z m' H' d' s' → XKn K C N → XFs K Z m' H' fs dx → EX s' (.ref C) dx H'
def LEx (K : PySem.W.Frag) (f : DXK → DE) : TEx := fun s H Q EX => ∃ (Z : Addr → Prop) (d : St2) (m : Mu) (R : DK) (RX : DXK), Ok K Z m H ∧ RS K Z m H d s ∧ f RX d m R ∧
  (∀ x m' v H', R x m' → Ext K Z m H m' H' → Ok K Z m' H' → RD K Z m' H' x v → Q v H') ∧
  ∀ N fs C dx m' H', RX N fs m' → Ext K Z m H m' H' → Ok K Z m' H' → XKn K C N → XFs K Z m' H' fs dx → EX s (.ref C) dx H'
section
variable {X : Cx} {st : Stmt} {rest body orelse : List Stmt} {t u : DS} {e c : Expr} {f : DXK → DE} {tc : DT} {pos : Pos}
theorem PSx.imp {t t' : TSx} (h : PSx X st t) (q : ∀ E EX s H, t' E EX s H → t E EX s H) : PSx X st t' := fun pins s σ H D EX I w => h pins s σ H D EX I (q _ _ _ _ w)
theorem PSsx.imp {t t' : TSx} (h : PSsx X rest t) (q : ∀ E EX s H, t' E EX s H → t E EX s H) : PSsx X rest t' := fun pins s σ H D EX I w => h pins s σ H D EX I (q _ _ _ _ w)
theorem PEx.imp {t t' : TEx} (h : PEx X e t) (q : ∀ s H Q EX, t' s H Q EX → t s H Q EX) : PEx X e t' := fun pins s σ H Q EX I w => h pins s σ H Q EX I (q _ _ _ _ w)
theorem lssx_pure (h : PSs X rest (LS X.K t)) (hx : X.xe = fun _ _ => False := by rfl) : PSsx X rest (LSx X.K t) := PSsx.imp (pssx_of hx h) fun E EX s H ⟨Z, d, m, R, ok, rs, h, kn, kr, kb, kc, _⟩ => ⟨Z, d, m, R, ok, rs, h, kn, kr, kb, kc⟩
theorem lssx_cons (h1 : PSx X st (LSx X.K t)) (h2 : PSsx X rest (LSx X.K u)) : PSsx X (st :: rest) (LSx X.K (dSeq t u)) := PSsx.imp (pssx_cons h1 h2) fun E EX s H h => by
  obtain ⟨Z, d, m, R, ok, rs, h, kn, kr, kb, kc, kx⟩ := h
  refine ⟨Z, d, m, _, ok, rs, h, fun d' m' s' H' q e1 ok1 rs1 => ⟨Z, d', m', R, ok1, rs1, q, ?_, ?_, ?_, ?_, ?_⟩, kr, kb, kc, kx⟩
  · exact fun d2 m2 s2 H2 q2 e2 ok2 rs2 => kn d2 m2 s2 H2 q2 (e1.trans e2) ok2 rs2
  · exact fun x m2 v H2 q2 e2 ok2 r2 => kr x m2 v H2 q2 (e1.trans e2) ok2 r2
  · exact fun d2 m2 s2 H2 q2 e2 ok2 rs2 => kb d2 m2 s2 H2 q2 (e1.trans e2) ok2 rs2
  · exact fun d2 m2 s2 H2 q2 e2 ok2 rs2 => kc d2 m2 s2 H2 q2 (e1.trans e2) ok2 rs2
  · exact fun d2 N fs C dx m2 s2 H2 q2 e2 ok2 rs2 a b => kx d2 N fs C dx m2 s2 H2 q2 (e1.trans e2) ok2 rs2 a b
theorem lsx_if (hc : PT X c (LT X.K tc)) (h1 : PSsx X body (LSx X.K t)) (h2 : PSsx X orelse (LSx X.K u)) (hx : X.xe = fun _ _ => False := by rfl) : PSx X (.If c body orelse pos) (LSx X.K (dIf tc t u)) := PSx.imp (psx_if hx hc h1 h2) fun E EX s H h => by
  obtain ⟨Z, d, m, R, ok, rs, h, kn, kr, kb, kc, kx⟩ := h
  refine ⟨Z, d, m, _, ok, rs, h, fun k m1 H1 q e1 ok1 => ?_⟩
  have mk : ∀ {z : DS}, z R d m1 → LSx X.K z E EX s H1 := fun q => ⟨Z, d, m1, R, ok1, rs.ext e1, q,
    fun d2 m2 s2 H2 q2 e2 ok2 rs2 => kn d2 m2 s2 H2 q2 (e1.trans e2) ok2 rs2, fun x m2 v H2 q2 e2 ok2 r2 => kr x m2 v H2 q2 (e1.trans e2) ok2 r2,
    fun d2 m2 s2 H2 q2 e2 ok2 rs2 => kb d2 m2 s2 H2 q2 (e1.trans e2) ok2 rs2, fun d2 m2 s2 H2 q2 e2 ok2 rs2 => kc d2 m2 s2 H2 q2 (e1.trans e2) ok2 rs2,
    fun d2 N fs C dx m2 s2 H2 q2 e2 ok2 rs2 a b => kx d2 N fs C dx m2 s2 H2 q2 (e1.trans e2) ok2 rs2 a b⟩
  cases k with
  | true => exact iteT (mk (by simpa using q))
  | false => exact iteF (mk (by simpa using q))
@[simp] def dExprX (f : DXK → DE) : DS := fun E d m => f (E.xc d) d m fun _ m1 => E.nx d m1
theorem lsx_expr (he : PEx X e (LEx X.K f)) (hs : swapsWith e none pos.line X.env = pure false := by rfl) : PSx X (.Expr e pos) (LSx X.K (dExprX f)) := PSx.imp (psx_expr he hs) fun E EX s H h => by
  obtain ⟨Z, d, m, R, ok, rs, h, k, _, _, _, kx⟩ := h
  exact ⟨Z, d, m, _, _, ok, rs, h, fun x m1 v H1 q e1 ok1 r1 => k d m1 s H1 q e1 ok1 (rs.ext e1), fun N fs C dx m1 H1 q e1 ok1 a b => kx d N fs C dx m1 s H1 q e1 ok1 (rs.ext e1) a b⟩
end
section
theorem RDs.kv {K : PySem.W.Frag} {Z : Addr → Prop} {m : Mu} {H : Hp} : ∀ {fl : List Str} {ps : List PyData} {vs : List V}, RPs K Z m H ps vs → RKV K Z m H (fl.zip ps) (fl.zip vs)
  | [], _, _, _ => by simp only [List.zip_nil_left]; rfl
  | _ :: _, [], _, h => by simp only [RPs] at h; subst h; rfl
  | f :: fl, p :: ps, _, h => by
    simp only [RPs] at h
    obtain ⟨v, r, rfl, h2, h3⟩ := h
    exact ⟨v, _, rfl, h2, RDs.kv h3⟩
def initSp (C : Addr) (fl : List Str) : Sp := fun us H Q _ => ∃ e t vs, us = .ref e :: vs ∧ vs.length = fl.length ∧ H e = some (xn C t none e) ∧
  ∀ d H2, H d = none → d ≠ e → H2 e = some (xn C t (some d) e) → H2 d = some (.xd (fl.zip vs)) → (∀ b, b ≠ e → b ≠ d → H2 b = H b) → Q .non H2
def tV (i : Nat) : TE := fun s H Q => ∃ v, s[i]? = some (some v) ∧ Q v H
variable {P : Program} {w : World} {K : PySem.W.Frag} {mg : Str → Option Value} {base : Heap} {qual f1 f2 : Str} {st : Stmt} {fa C : Addr} {fd : FuncData} {N ps : List Str} {k : Nat}
theorem init_1 (F : Fun K "__init__" qual st fa fd) (S : FnScope N ps (defScope st)) (hl : ps.length = 2)
    (hb : ∀ (cdv : Value) (A : Around) (outer : List Env) (s : Shared) (H : Hp) (E : XK), PSs (cxOf CX0 P w K mg base N qual (defScope st) fa cdv A outer s H E).nox (defBody st) fun D σ H => tXSet C f1 (tV 0) (tV 1) D σ H) : FnOk P w K mg base CX0 (k + 1) fa fd ps (initSp C [f1]) := by
  refine F.ok S (fun vs H Q E h => ?_) (fun cdv A outer s H vs Q E hr h => ?_)
  · obtain ⟨e, t, vs, rfl, h, _⟩ := h
    rw [List.length_cons, h, hl]; rfl
  · obtain ⟨e, t, vs, rfl, h1, he, hq⟩ := h
    obtain ⟨v, rfl⟩ : ∃ v, vs = [v] := by match vs, h1 with | [v], _ => exact ⟨v, rfl⟩
    refine ⟨_, hb cdv A outer s H E, v, rfl, .ref e, rfl, e, t, none, rfl, he, fun _ d hd de => ?_, fun d z => nomatch z⟩
    refine hq d _ hd de upd_same (by rw [upd_ne de, upd_same]; rfl) fun b n1 n2 => by rw [upd_ne n1, upd_ne n2]
theorem init_2 (F : Fun K "__init__" qual st fa fd) (S : FnScope N ps (defScope st)) (hl : ps.length = 3) (hf : f1 ≠ f2)
    (hb : ∀ (cdv : Value) (A : Around) (outer : List Env) (s : Shared) (H : Hp) (E : XK), PSs (cxOf CX0 P w K mg base N qual (defScope st) fa cdv A outer s H E).nox (defBody st) fun D σ H => tXSet C f1 (tV 0) (tV 1) { D with nx := fun σ H => tXSet C f2 (tV 0) (tV 2) D σ H } σ H) : FnOk P w K mg base CX0 (k + 1) fa fd ps (initSp C [f1, f2]) := by
  refine F.ok S (fun vs H Q E h => ?_) (fun cdv A outer s H vs Q E hr h => ?_)
  · obtain ⟨e, t, vs, rfl, h, _⟩ := h
    rw [List.length_cons, h, hl]; rfl
  · obtain ⟨e, t, vs, rfl, h1, he, hq⟩ := h
    obtain ⟨v, v', rfl⟩ : ∃ v v', vs = [v, v'] := by match vs, h1 with | [v, v'], _ => exact ⟨v, v', rfl⟩
    refine ⟨_, hb cdv A outer s H E, v, rfl, .ref e, rfl, e, t, none, rfl, he, fun _ d hd de => ?_, fun d z => nomatch z⟩
    refine ⟨v', rfl, .ref e, rfl, e, t, some d, rfl, upd_same, (fun z => nomatch z), fun d' z => ?_⟩
    cases z
    refine ⟨de, [(f1, v)], by rw [upd_ne de, upd_same], by simp, ?_⟩
    refine hq d _ hd de (by rw [upd_ne (Ne.symm de), upd_same]) (by rw [upd_same]; unfold putF; rw [if_neg hf]; rfl) fun b n1 n2 => by rw [upd_ne n2, upd_ne n1, upd_ne n2]
end
section
variable {X : Cx} {x N : Str} {p pos cpos : Pos} {a : Expr} {es : List Expr} {g : DA} {C fa : Addr} {fl : List Str}
@[simp] def dRaise (N : Str) (fl : List Str) (g : DA) : DS := fun E d m => g d m fun xs m1 => ∃ ps, pds xs = some ps ∧ ps.length = fl.length ∧ E.xc d N (fl.zip ps) m1
theorem lsx_raise {k : Nat} {fd : FuncData} {ps : List Str} (ck : XKn X.K C N) (m : XMk X.K C) (kp : PySem.W.keepIn X.K (.ref C) = true) (hi : PySem.W.findIn X.K (.ref C) "__init__" = some (some (.ref fa))) (hf : PySem.W.typeIn X.K (.ref fa) = some (.type "function"))
    (F : FnOk X.prog X.w X.K X.mg X.base CX0 k fa fd ps (initSp C fl)) (hr : Room (k + 1) X.A) (hb : Binds X.K fd ps []) (hm : X.mg N = some (.ref C)) (ha : PA X (a :: es) (LA X.K g)) (hps : ps.length ≤ 1000) (hg : Gl X N := by rfl) (hc : X.calm = true := by rfl) (hx : X.xe = fun _ _ => False := by rfl)
    (hdb : (N == ("__debug__" : Str)) = false := by decide) (he : starEach (a :: es) X.env = (false, eval a X.env) :: starEach es X.env := by rfl) (hpl : (backTo cpos (starEach es X.env)).any (·.1) = false := by rfl) :
    PSx X (.Raise (some (.Call (.Name N p) (a :: es) [] cpos)) none pos) (LSx X.K (dRaise N fl g)) := PSx.imp (psx_raise (E := fun _ _ _ => False) hx hc ck.1.toXCl m kp hi hf F hr hb hg hm ha hps hdb he hpl) fun E EX s H h => by
  obtain ⟨Z, d, m, R, ok, rs, h, _, _, _, _, kx⟩ := h
  refine ⟨Z, d, m, _, ok, rs, h, fun xs m1 vs H1 q e1 ok1 r1 e t he => ?_⟩
  obtain ⟨ps, hp, hl, q⟩ := q
  have rp := r1.pds hp
  refine ⟨e, t, vs, rfl, by rw [rp.length]; exact hl, upd_same, fun dd H2 hd de h1 h2 hb => ⟨rfl, some dd, h1, fun d' z => by cases z; exact ⟨de, _, h2⟩, ?_⟩⟩
  have hd1 : H1 dd = none := by rw [upd_ne de] at hd; exact hd
  have sm : Same H1 (dropH H2 e) := fun b u z => by
    have n1 : b ≠ e := fun w => by rw [w, he] at z; cases z
    have n2 : b ≠ dd := fun w => by rw [w, hd1] at z; cases z
    rw [drop_ne n1, hb b n1 n2, upd_ne n1]
    exact z
  have e2 : Ext X.K Z m1 H1 m1 (dropH H2 e) := ok1.ext sm
  refine kx d N _ C (some dd) m1 s _ q (e1.trans e2) (ok1.grow sm) ((rs.ext e1).ext e2) ck (.inr ⟨dd, _, rfl, fun z => (ok1.z dd z).2 hd1, by rw [drop_ne de]; exact h2, ?_⟩)
  exact RKV.lift (fun p v h => RP.ext e2 p v h) (RDs.kv rp)
@[simp] def dRaise0 (N : Str) (g : DA) : DS := fun E d m => g d m fun xs m1 => xs.length ≤ 1000 ∧ E.xc d N [] m1
theorem lsx_raise0 (ck : XKn X.K C N) (m : XMk0 X.K C) (kp : PySem.W.keepIn X.K (.ref C) = true) (hm : X.mg N = some (.ref C)) (ha : PA X (a :: es) (LA X.K g)) (hg : Gl X N := by rfl) (hc : X.calm = true := by rfl) (hx : X.xe = fun _ _ => False := by rfl)
    (hdb : (N == ("__debug__" : Str)) = false := by decide) (he : starEach (a :: es) X.env = (false, eval a X.env) :: starEach es X.env := by rfl) (hpl : (backTo cpos (starEach es X.env)).any (·.1) = false := by rfl) :
    PSx X (.Raise (some (.Call (.Name N p) (a :: es) [] cpos)) none pos) (LSx X.K (dRaise0 N g)) := PSx.imp (psx_raise0 hx hc ck.1.toXCl m kp hg hm ha hdb he hpl) fun E EX s H h => by
  obtain ⟨Z, d, m, R, ok, rs, h, _, _, _, _, kx⟩ := h
  refine ⟨Z, d, m, _, ok, rs, h, fun xs m1 vs H1 q e1 ok1 r1 => ⟨by rw [r1.length]; exact q.1, kx d N [] C none m1 s H1 q.2 e1 ok1 (rs.ext e1) ck (.inl ⟨rfl, rfl⟩)⟩⟩
end
def LSpx (K : PySem.W.Frag) (n : Nat) (sp : DCx) : Sp := fun vs H Q E => ∃ (Z : Addr → Prop) (ds : List D) (m : Mu) (R : DK) (RX : DXK), Ok K Z m H ∧ RDs K Z m H ds vs ∧ ds.length = n ∧ sp ds m R RX ∧
  (∀ d m' v' H', R d m' → Ext K Z m H m' H' → Ok K Z m' H' → RD K Z m' H' d v' → Q v' H') ∧ ∀ N fs C dx m' H', RX N fs m' → Ext K Z m H m' H' → Ok K Z m' H' → XKn K C N → XFs K Z m' H' fs dx → E (.ref C) dx H'
section
variable {X : Cx} {pos p : Pos} {nm : Str} {st : Stmt} {a : Addr} {ps : List Str} {k j n : Nat} {sp : DCx} {e : Expr} {es : List Expr} {ga : DA}
structure CalX (P : Program) (w : World) (K : PySem.W.Frag) (mg : Str → Option Value) (base : Heap) (nm : Str) (st : Stmt) (a : Addr) (ps : List Str) (k : Nat) (sp : DCx) : Prop where
  ex : ∃ fd, Fun K nm nm st a fd ∧ Binds K fd ps [] ∧ mg nm = some (.ref a) ∧ FnOk P w K mg base (CXr P w) k a fd ps (LSpx K ps.length sp)
abbrev VcX (ps N : List Str) (sp : DCx) (b : DS) : Prop := ∀ ds m R RX, ds.length = ps.length → sp ds m R RX → b { nx := fun _ m => R (.dat .none) m, rt := R, xc := fun _ N fs m => RX N fs m } (start2 N ds) m
@[simp] def dCallX (n : Nat) (sp : DCx) (g : DA) : DXK → DE := fun RX d m Q => g d m fun xs m1 => xs.length = n ∧ sp xs m1 Q RX
theorem lex_call (C : CalX X.prog X.w X.K X.mg X.base nm st a ps k sp) (hr : Room j X.A) (ha : PA X (e :: es) (LA X.K ga)) (hk : k ≤ j := by decide) (hx : X.xe = fun _ _ => False := by rfl) (hg : Gl X nm := by rfl) (hdb : (nm == ("__debug__" : Str)) = false := by decide) (he : starEach (e :: es) X.env = (false, eval e X.env) :: starEach es X.env := by rfl) (hpl : (backTo pos (starEach es X.env)).any (·.1) = false := by rfl) (hn : ps.length = n := by rfl) :
    PEx X (.Call (.Name nm p) (e :: es) [] pos) (LEx X.K (dCallX n sp ga)) := by
  subst hn
  obtain ⟨fd, F, B, M, C⟩ := C.ex
  refine PEx.imp (pex_call hx C (hr.mono hk) hg M F.kp B ha hdb he hpl) fun s H Q EX h => ?_
  obtain ⟨Z, d, m, R, RX, ok, rs, h, kq, kx⟩ := h
  refine ⟨Z, d, m, _, ok, rs, h, fun xs m1 vs H1 ⟨hl, q⟩ e1 ok1 rd => ⟨Z, xs, m1, R, RX, ok1, rd, hl, q, fun d' m' v' H' h1 h2 h3 h4 => kq d' m' v' H' h1 (e1.trans h2) h3 h4, fun N fs C dx m' H' h1 h2 h3 a b => kx N fs C dx m' H' h1 (e1.trans h2) h3 a b⟩⟩
end
section
variable {P : Program} {w : World} {K : PySem.W.Frag} {mg : Str → Option Value} {base : Heap}
theorem fn_bodyx {x qual : Str} {st : Stmt} {fa : Addr} {fd : FuncData} {N ps : List Str} {k : Nat} {sp : DCx} {body : DS} (F : Fun K x qual st fa fd) (S : FnScope N ps (defScope st))
    (hb : ∀ (cdv : Value) (A : Around) (outer : List Env) (s : Shared) (H : Hp) (E : XK), Room k (A.deeper (envOfC qual (defScope st) s.heap.objs.size fa cdv)) →
      PSsx (cxOf CX0 P w K mg base N qual (defScope st) fa cdv A outer s H E).nox (defBody st) (LSx K body))
    (hv : VcX ps N sp body) : FnOk P w K mg base (CXr P w) (k + 1) fa fd ps (LSpx K ps.length sp) := by
  obtain ⟨oc, od, kV, doc, pm, an, cdv, ct, osl, rfl, lk, hcd⟩ := F.ex
  refine fn_ofx lk hcd S (fun vs H Q E h => ?_) fun A outer s H vs Q E hr h => ?_
  · obtain ⟨Z, ds, m, R, RX, _, rd, hl, _⟩ := h
    rw [rd.length]; exact hl
  · obtain ⟨Z, ds, m, R, RX, ok, rd, hl, h, kk, kx⟩ := h
    refine ⟨_, hb cdv A outer s H E hr, Z, start2 N ds, m, _, ok, rs_start rd, hv ds m R RX hl h, ?_, ?_, ?_, ?_, ?_⟩
    · intro d' m' s' H' q e1 ok1 _
      exact kk _ m' _ H' q e1 ok1 (by simp only [RD, RP])
    · exact fun x m' v H' q e1 ok1 r1 => kk x m' v H' q e1 ok1 r1
    · exact fun _ _ _ _ q _ _ _ => q.elim
    · exact fun _ _ _ _ q _ _ _ => q.elim
    · exact fun d' N fs C dx m' s' H' q e1 ok1 _ a b => kx N fs C dx m' H' q e1 ok1 a b
end
end DL
set_option Elab.async false
set_option linter.all false
set_option maxRecDepth 100000
set_option maxHeartbeats 4000000
namespace DL
open PySem PySem.Spec PyProof.Rows L2
section
variable {K : PySem.W.Frag} {Z : Addr → Prop} {m : Mu} {H : Hp} {e C : Addr} {oe od : Obj} {dx : Option Addr} {fs : List (Str × V)} {N : Str} {ps : List (Str × PyData)}
theorem frx_old (he : H e = none) (hd : ∀ d, dx = some d → H d = some (.xd fs)) {b : Addr} {u : HO} (h : H b = some u) (n : ∀ g, u ≠ .xd g) : frx H e oe dx od fs b = some u := by
  unfold frx
  rw [if_neg (fun z => by rw [z, he] at h; cases h), if_neg (fun z => by rw [hd b z] at h; cases h; exact n _ rfl)]
  exact h
theorem frx_ext (ok : Ok K Z m H) (he : H e = none) (hd : ∀ d, dx = some d → H d = some (.xd fs)) (hz : ∀ d, dx = some d → ¬ Z d) : Ext K Z m H m (frx H e oe dx od fs) := by
  have old := @frx_old H e oe od dx fs he hd
  refine ⟨fun a vs h => ?_, fun a vs h1 h2 => ⟨h1.1, ?_⟩, fun a h => ?_, fun _ h => h, fun a o u h => old h (fun _ z => nomatch z), fun _ _ => rfl, fun a vs _ h => old h (fun _ z => nomatch z)⟩
  · rcases h with (h | ⟨o, h⟩) | h
    · exact .inl (.inl (old h (fun _ z => nomatch z)))
    · exact .inl (.inr ⟨o, old h (fun _ z => nomatch z)⟩)
    · exact .inr h
  · rcases h2 with (h | ⟨o, h⟩) | h
    · exact .inl (.inl (old h (fun _ z => nomatch z)))
    · exact .inl (.inr ⟨o, old h (fun _ z => nomatch z)⟩)
    · exact .inr h
  · unfold frx
    rw [if_neg (fun z => (ok.z a h).2 (by rw [z]; exact he)), if_neg (fun z => hz a z h)]
theorem RC.noxd {c : Cel} {g : List (Str × V)} : ¬ RC K Z m H c (.xd g) := by cases c <;> exact fun h => h
theorem frx_ok (ok : Ok K Z m H) (he : H e = none) (hd : ∀ d, dx = some d → H d = some (.xd fs)) (hz : ∀ d, dx = some d → ¬ Z d) : Ok K Z m (frx H e oe dx od fs) := by
  have x : Ext K Z m H m (frx H e oe dx od fs) := frx_ext ok he hd hz
  refine ⟨fun a c h => ?_, fun a h => ⟨(ok.z a h).1, by rw [x.z a h]; exact (ok.z a h).2⟩⟩
  obtain ⟨o, h1, h2⟩ := ok.g a c h
  exact ⟨o, frx_old he hd h1 (fun g z => by subst z; exact RC.noxd h2), h2.ext x⟩
theorem frx_rp (ck : XKn K C N) (ok : Ok K Z m H) (he : H e = none) (ho : ∃ ws sl, oe = ⟨.ref C, dx, .fields ws, sl⟩) (hd : ∀ d, dx = some d → H d = some (.xd fs) ∧ d ≠ e) (h0 : dx = none → fs = []) (xf : XFs K Z m H ps dx) :
    (∀ d, dx = some d → ¬ Z d) ∧ RP K Z m (frx H e oe dx od fs) (exc N ps) (.ref e) := by
  have hz : ∀ d, dx = some d → ¬ Z d := fun d z => by
    rcases xf with ⟨q, _⟩ | ⟨d', vs, q, q2, _⟩
    · rw [q] at z; cases z
    · rw [q] at z; cases z; exact q2
  refine ⟨hz, ?_⟩
  have x : Ext K Z m H m (frx H e oe dx od fs) := frx_ext ok he (fun d z => (hd d z).1) hz
  obtain ⟨ws, sl, ho⟩ := ho
  simp only [exc, RP, RPd]
  refine ⟨e, oe, _, _, rfl, by unfold frx; rw [if_pos rfl], .inr ⟨C, N, fs, dx, ws, sl, ck.1, ck.2, ho, rfl, ?_⟩, .str N, _, rfl, rfl, ?_⟩
  · cases dx with
    | none => exact .inl ⟨rfl, h0 rfl⟩
    | some d => exact .inr ⟨d, od, rfl, by unfold frx; rw [if_neg (hd d rfl).2, if_pos rfl]⟩
  · have kv : RKV K Z m H ps fs := by
      rcases xf with ⟨q, q2⟩ | ⟨d', vs, q, _, q2, q3⟩
      · rw [h0 q, q2]; rfl
      · have := (hd d' q).1
        rw [q2] at this
        cases this
        exact q3
    exact (RKV.lift (fun p v h => RP.ext x p v h) kv).rpd PyData.str
end
section
variable {X : Cx} {body suite : List Stmt} {b0 : Stmt} {cn n : Str} {np hpos pos : Pos} {S : Addr} {tb ts : DS} {i : Nat}
def DnE (i : Nat) (E : Ends2) : Ends2 := { E with nx := fun d m => E.nx (d.set i none) m, bk := fun d m => E.bk (d.set i none) m, ct := fun d m => E.ct (d.set i none) m }
@[simp] def dTry (L : List Str) (i : Nat) (b h : DS) : DS := fun E d m => b { E with xc := fun d' N fs m' => N ∈ L ∧ h (DnE i E) (d'.set i (some (.dat (exc N fs)))) m' } d m
theorem RS.setN {K : PySem.W.Frag} {Z : Addr → Prop} {m : Mu} {H : Hp} {d : St2} {s : L2.St} {i : Nat} (r : RS K Z m H d s) : RS K Z m H (d.set i none) (s.set i none) := by
  refine ⟨by rw [List.length_set, List.length_set]; exact r.1, fun j y q => ?_⟩
  by_cases e : j = i
  · subst e
    rw [List.getElem?_set] at q
    simp only [if_true] at q
    split at q <;> cases q
  · rw [List.getElem?_set_ne (Ne.symm e)] at q
    obtain ⟨w, h1, h2⟩ := r.2 j y q
    exact ⟨w, by rw [List.getElem?_set_ne (Ne.symm e)]; exact h1, h2⟩
def xsub (K : PySem.W.Frag) (S : Addr) (L : List Str) : Bool := L.all fun N => match PySem.W.nsIn K mainGlobals N with
  | some (some (.ref C)) => PySem.W.mroIn K C (.ref S) == some true
  | _ => false
theorem xsub_of {K : PySem.W.Frag} {S C : Addr} {L : List Str} {N : Str} (h : xsub K S L = true) (hN : N ∈ L) (g : PySem.W.nsIn K mainGlobals N = some (some (.ref C))) : PySem.W.mroIn K C (.ref S) = some true := by
  have := List.all_eq_true.mp h N hN
  rw [g] at this
  exact beq_iff_eq.mp this
theorem ls_try (L : List Str) (hN : X.N.Nodup) (hb : PSsx X body (LSx X.K tb)) (hs : ∀ e, PSs (hold X e) (b0 :: suite) (LS X.K ts)) (hm : X.mg cn = some (.ref S)) (cs : XCl X.K S) (hL : xsub X.K S L = true) (hi : X.N[i]? = some n := by rfl) (hl : X.env.scope.names.lookup n = some .local := by rfl) (hg : Gl X cn := by rfl)
    (hx : X.xe = fun _ _ => False := by rfl) (ot : OnTop X := by exact ⟨rfl, rfl⟩) (hdb : (cn == ("__debug__" : Str)) = false := by decide) :
    PS X (.Try body [.ExceptHandler (some (.Name cn np)) (some n) (b0 :: suite) hpos] [] [] pos) (LS X.K (dTry L i tb ts)) := PS.imp (ps_tryN hx ot hN hi hl hb hs hg hm cs hdb) fun E s H h => by
  obtain ⟨Z, d, m, R, ok, rs, h, kn, kr, kb, kc⟩ := h
  refine ⟨Z, d, m, _, ok, rs, h, kn, kr, kb, kc, ?_⟩
  intro d' N fs C dx m' s' H' ⟨hL', q⟩ e1 ok1 rs1 ck xf
  refine ⟨C, rfl, ck.1.toXCl, xsub_of hL hL' ck.2, fun e oe od fs' he ho hd h0 => ?_⟩
  obtain ⟨hz, rp⟩ := frx_rp (od := od) ck ok1 he ho hd h0 xf
  have x : Ext X.K Z m' H' m' (frx H' e oe dx od fs') := frx_ext ok1 he (fun d z => (hd d z).1) hz
  refine ⟨Z, _, m', _, frx_ok ok1 he (fun d z => (hd d z).1) hz, (rs1.ext x).set (x := .dat (exc N fs)) (v := .ref e) rp, q, ?_, ?_, ?_, ?_⟩
  · exact fun d2 m2 s2 H2 q2 e2 ok2 rs2 => kn _ m2 _ H2 q2 (e1.trans (x.trans e2)) ok2 rs2.setN
  · exact fun y m2 v H2 q2 e2 ok2 r2 => kr y m2 v H2 q2 (e1.trans (x.trans e2)) ok2 r2
  · exact fun d2 m2 s2 H2 q2 e2 ok2 rs2 => kb _ m2 _ H2 q2 (e1.trans (x.trans e2)) ok2 rs2.setN
  · exact fun d2 m2 s2 H2 q2 e2 ok2 rs2 => kc _ m2 _ H2 q2 (e1.trans (x.trans e2)) ok2 rs2.setN
end
theorem exc_out {K : PySem.W.Frag} {Z : Addr → Prop} {m : Mu} {H : Hp} {N : Str} {ps : List (Str × PyData)} {v : V} (h : RP K Z m H (exc N ps) v) :
    ∃ a o u C fs dx ws sl, v = .ref a ∧ H a = some (.frz o u) ∧ XCk K C ∧ PySem.W.nsIn K mainGlobals N = some (some (.ref C)) ∧ o = ⟨.ref C, dx, .fields ws, sl⟩ ∧ ((dx = none ∧ fs = []) ∨ ∃ d od, dx = some d ∧ H d = some (.frz od (.xd fs))) ∧ RPd K Z m H (ps.map fun kv => (.str kv.1, kv.2)) (fs.map fun kv : Str × V => (PyData.str kv.1, kv.2)) := by
  simp only [exc, RP, RPd] at h
  obtain ⟨a, o, u, vs, h1, h2, h3, v', r, h4, h5, h6⟩ := h
  subst h4 h5
  rcases h3 with ⟨r', q, _⟩ | ⟨C, N', fs, dx, ws, sl, q1, q2, q3, q4, q5⟩
  · cases q
  · cases q4
    exact ⟨a, o, u, C, fs, dx, ws, sl, h1, h2, q1, q2, q3, q5, h6⟩
def xall (K : PySem.W.Frag) (L : List Str) (t : Addr → Option Bool) (p : Str → Bool) : Bool := L.all fun N => match PySem.W.nsIn K mainGlobals N with
  | some (some (.ref C)) => t C == some (p N)
  | _ => false
theorem xall_of {K : PySem.W.Frag} {C : Addr} {L : List Str} {N : Str} {t : Addr → Option Bool} {p : Str → Bool} (h : xall K L t p = true) (hN : N ∈ L) (g : PySem.W.nsIn K mainGlobals N = some (some (.ref C))) : t C = some (p N) := by
  have := List.all_eq_true.mp h N hN
  rw [g] at this
  exact beq_iff_eq.mp this
section
variable {X : Cx} {a : Expr} {f : DE} {p1 p2 p3 pos : Pos}
@[simp] def dIsE (L : List Str) (p : Str → Bool) (f : DE) : DE := fun d m Q => f d m fun x m1 => ∃ N fs, x = .dat (exc N fs) ∧ N ∈ L ∧ Q (.dat (.bool (p N))) m1
theorem isi_exc {c : Value} {L : List Str} {p : Str → Bool} (ht : xall X.K L (fun C => PySem.W.kitOne X.K (.ref C) c) p = true) (vc : V) (rc : ∀ w, RelV vc w → w = c) :
    CallR X (.builtin "isinstance") (fun vs H Q => ∃ Z m N fs v, RP X.K Z m H (exc N fs) v ∧ N ∈ L ∧ vs = [v, vc] ∧ Q (.bl (p N)) H) := by
  intro pins s σ H xs us Q I rv ⟨Z, m, N, fs, v, rp, hN, e, h⟩
  subst e
  obtain ⟨u, w, rfl, r1, r2⟩ := vals2 rv
  cases rc w r2
  obtain ⟨a', o, u', C, fs', dx, ws, sl, rfl, h2, xk, ns, h3, h5, _⟩ := exc_out rp
  cases r1
  obtain ⟨od, J⟩ := xk_inst I h2 h3 h5
  exact PySem.W.kia_one (kitx_exc (ox := o) (od := od) xk) I.kIn J (xall_of ht hN ns) (fun z => nomatch z) fun tk => ⟨.bl _, H, I.tok _, rfl, h⟩
theorem le_isE {T : Str} {S : Addr} {L : List Str} {p : Str → Bool} (hm : X.mg "isinstance" = none) (hmT : X.mg T = some (.ref S)) (ht : xall X.K L (fun C => PySem.W.kitOne X.K (.ref C) (.ref S)) p = true) (ha : PE X a (LE X.K f)) (hg : Gl X "isinstance" := by rfl) (hgT : Gl X T := by rfl) (hd : (T == ("__debug__" : Str)) = false := by decide)
    (he : starEach [a, .Name T p2] X.env = (false, eval a X.env) :: starEach [.Name T p2] X.env := by rfl) : PE X (.Call (.Name "isinstance" p1) [a, .Name T p2] [] pos) (LE X.K (dIsE L p f)) := by
  refine PE.imp (pe_callB (isi_exc ht (.ref S) (fun w r => r)) hg hm boot_isi (pa_cons ha (pa_cons (pe_glob (v := .ref S) hgT hmT rfl hd) pa_nil) he) (he := he) (hpl := rfl)) fun s H Q h => ?_
  obtain ⟨Z, d, m, R, ok, rs, h, k⟩ := h
  refine ⟨Z, d, m, _, ok, rs, h, fun x m1 v H1 ⟨N, fs, e, hN, h1⟩ e1 ok1 rd => ?_⟩
  subst e
  exact ⟨Z, m1, N, fs, v, rd, hN, rfl, k _ m1 _ H1 h1 e1 ok1 .ofBl⟩
theorem le_isEb {T : Str} {c : String} {L : List Str} {p : Str → Bool} (hm : X.mg "isinstance" = none) (hmT : X.mg T = none) (hv : bootBuiltins T = some (.type c)) (ht : xall X.K L (fun C => PySem.W.kitOne X.K (.ref C) (.type c)) p = true) (ha : PE X a (LE X.K f)) (hg : Gl X "isinstance" := by rfl) (hgT : Gl X T := by rfl) (hn : T ≠ "__name__" := by decide) (hd : (T == ("__debug__" : Str)) = false := by decide)
    (he : starEach [a, .Name T p2] X.env = (false, eval a X.env) :: starEach [.Name T p2] X.env := by rfl) : PE X (.Call (.Name "isinstance" p1) [a, .Name T p2] [] pos) (LE X.K (dIsE L p f)) := by
  refine PE.imp (pe_callB (isi_exc ht (.ty c) (fun w r => by cases r; rfl)) hg hm boot_isi (pa_cons ha (pa_cons (pe_bltn (v := .ty c) hgT hmT hv rfl hn hd) pa_nil) he) (he := he) (hpl := rfl)) fun s H Q h => ?_
  obtain ⟨Z, d, m, R, ok, rs, h, k⟩ := h
  refine ⟨Z, d, m, _, ok, rs, h, fun x m1 v H1 ⟨N, fs, e, hN, h1⟩ e1 ok1 rd => ?_⟩
  subst e
  exact ⟨Z, m1, N, fs, v, rd, hN, rfl, k _ m1 _ H1 h1 e1 ok1 .ofBl⟩
@[simp] def dXFld (L : List Str) (f : Str) (fo : DE) : DE := fun d m Q => fo d m fun x m1 => ∃ N fs y, x = .dat (exc N fs) ∧ N ∈ L ∧ fs.lookup f = some y ∧ Q (.dat y) m1
theorem rpd_look {K : PySem.W.Frag} {Z : Addr → Prop} {m : Mu} {H : Hp} {f : Str} {y : PyData} : ∀ {ps : List (Str × PyData)} {fs : List (Str × V)}, RPd K Z m H (ps.map fun kv => (.str kv.1, kv.2)) (fs.map fun kv : Str × V => (PyData.str kv.1, kv.2)) → ps.lookup f = some y → ∃ v, fs.lookup f = some v ∧ RP K Z m H y v
  | [], _, _, h => nomatch h
  | (g, p) :: ps, [], h, _ => by simp [RPd] at h
  | (g, p) :: ps, (g', v) :: fs, h, q => by
    simp only [List.map_cons, RPd] at h
    obtain ⟨v', r, h1, h2, h3⟩ := h
    cases h1
    by_cases z : f = g
    · subst z
      simp only [List.lookup, beq_self_eq_true] at q ⊢
      cases q
      exact ⟨v, rfl, h2⟩
    · have b : (f == g) = false := beq_eq_false_iff_ne.mpr z
      simp only [List.lookup, b] at q ⊢
      exact rpd_look h3 q
def xna (K : PySem.W.Frag) (f : Str) (C : Addr) : Option Bool := some (match PySem.W.findIn K (.ref C) f with | some none => true | _ => false)
theorem xna_of {K : PySem.W.Frag} {f : Str} {C : Addr} (h : xna K f C = some true) : NoAttr K C f := by
  unfold xna at h
  split at h
  · assumption
  · cases h
theorem le_xfld {o : Expr} {fo : DE} {f : Str} {L : List Str} (ht : xall X.K L (xna X.K f) (fun _ => true) = true) (ho : PE X o (LE X.K fo)) (hb : attributeBase o f X.env (eval o X.env) = eval o X.env := by rfl) : PE X (.Attribute o f pos) (LE X.K (dXFld L f fo)) := by
  have h0 : PE X (.Attribute o f pos) (fun σ H Q => LE X.K fo σ H fun x H1 => ∃ Z m N ps y, RP X.K Z m H1 (exc N ps) x ∧ N ∈ L ∧ ps.lookup f = some y ∧ ∀ v, RP X.K Z m H1 y v → Q v H1) := by
    intro pins s σ H Q I h
    refine attr_of hb (thn (ho pins s σ H _ I h) fun u s1 ⟨x, H1, I1, rx, Z, m, N, ps, y, rp, hN, hl, q⟩ => ?_)
    obtain ⟨a', o', u', C, fs', dx, ws, sl, rfl, h2, xk, ns, h3, h5, h6⟩ := exc_out rp
    obtain rfl : u = Value.ref a' := rx
    obtain ⟨v, hv, rv⟩ := rpd_look h6 hl
    rcases h5 with ⟨_, z⟩ | ⟨d, od, z, hd⟩
    · subst z; cases hv
    · have g := (show ObjOk X.prog X.w H1 s1.heap a' (.frz o' u') from I1.hok a' _ h2).1
      obtain ⟨mA, hn, r⟩ := (show ObjOk X.prog X.w H1 s1.heap d (.frz od (.xd fs')) from I1.hok d _ hd).2
      rw [h3, z] at g
      obtain ⟨w, hw, rw'⟩ := RelO.some_of (v := v) (o := mA f) (by rw [← hv]; exact r f)
      exact xget xk.toXCl I1.kIn g (xna_of (xall_of ht hN ns)) hn hw (handed_of rw') fun t' => ⟨v, H1, I1.tok _, rw', q v rv⟩
  refine PE.imp h0 fun s H Q h => ?_
  obtain ⟨Z, d, m, R, ok, rs, h, k⟩ := h
  refine ⟨Z, d, m, _, ok, rs, h, fun x m1 v H1 ⟨N, fs, y, e, hN, hl, h1⟩ e1 ok1 rd => ?_⟩
  subst e
  exact ⟨Z, m1, N, fs, y, rd, hN, hl, fun v' rv => k _ m1 v' H1 h1 e1 ok1 rv⟩
end
end DL
set_option Elab.async false
set_option linter.all false
set_option maxRecDepth 100000
set_option maxHeartbeats 4000000
namespace DL
open PySem PySem.Spec PyProof.Rows L2
def tgL : Nat → Expr → List Str
  | 0, .Name x _ => [x]
  | k + 1, .Tuple es _ _ => es.flatMap (tgL k)
  | _, _ => []
def tgN (e : Expr) : List Str := tgL 0 e ++ (tgL 1 e ++ (tgL 2 e ++ tgL 3 e))
def ncT (tgs : List Expr) (src : List (Option Nat)) (N : List Str) : List Str := tgs.flatMap tgN ++ src.filterMap fun o => o.bind fun i => N[i]?
structure QE (X : Cx) (e : Expr) (t : TE) : Prop where
  pe : PE X e t
structure QA (X : Cx) (e : List Expr) (t : TA) : Prop where
  pe : PA X e t
structure QT (X : Cx) (e : Expr) (t : TT) : Prop where
  pe : PT X e t
structure QW (X : Cx) (e : Expr) (t : TT) : Prop where
  pe : PW X e t
structure QS (X : Cx) (e : Stmt) (t : TS) : Prop where
  pe : PS X e t
structure QSs (X : Cx) (e : List Stmt) (t : TS) : Prop where
  pe : PSs X e t
structure QG (X : Cx) (e : Expr) (t : TG) : Prop where
  pe : PG X e t
structure QSx (X : Cx) (e : Stmt) (t : TSx) : Prop where
  pe : PSx X e t
structure QSsx (X : Cx) (e : List Stmt) (t : TSx) : Prop where
  pe : PSsx X e t
structure QEx (X : Cx) (e : Expr) (t : TEx) : Prop where
  pe : PEx X e t
structure QF (X : Cx) (e : List Expr) (t : TT) : Prop where
  pe : PF X e t
structure QI (X : Cx) (tg e : Expr) (t : TI) : Prop where
  pe : PI X tg e t
theorem QW.pt {X : Cx} {e : Expr} {t : TT} (h : QW X e t) : QT X e t := ⟨h.pe.pt⟩
section
variable {X : Cx} {pos : Pos}
theorem qle_var (i : Nat) {x : Str} (hN : X.N[i]? = some x := by rfl) (hv : Vis X.env.scope x := by first | exact Or.inl rfl | exact Or.inr (Or.inl rfl) | exact Or.inr (Or.inr rfl)) (hd : (x == ("__debug__" : Str)) = false := by decide) (hcd : (x == ("__classdict__" : Str)) = false := by decide) : QE X (.Name x pos) (LE X.K (dVar i)) := ⟨le_var (i := i) (hN := hN) (hv := hv) (hd := hd) (hcd := hcd)⟩
end
section
variable {X : Cx} {pos : Pos}
theorem qle_int {i : Int} {j : Nat} : QE X (.Constant (.int i) j pos) (LE X.K (dCon (.int i))) := ⟨le_int ⟩
end
section
variable {X : Cx} {pos : Pos}
theorem qle_bl {b : Bool} {j : Nat} : QE X (.Constant (.bool b) j pos) (LE X.K (dCon (.bool b))) := ⟨le_bl ⟩
end
section
variable {X : Cx} {pos : Pos}
theorem qle_non {j : Nat} : QE X (.Constant .none j pos) (LE X.K (dCon .none)) := ⟨le_non ⟩
end
section
variable {X : Cx} {pos : Pos}
theorem qle_str {x : Str} {j : Nat} : QE X (.Constant (.str x) j pos) (LE X.K (dCon (.str x))) := ⟨le_str ⟩
end
section
variable {X : Cx} {a b c : Expr} {f g : DE} {pos : Pos}
theorem qle_bin {op : Operator} {r : D2} (ho : OpD X (binaryOp op) r) (ha : QE X a (LE X.K f)) (hb : QE X b (LE X.K g)) : QE X (.BinOp a op b pos) (LE X.K (dBin r f g)) := ⟨le_bin (ho := ho) (ha := ha.pe) (hb := hb.pe)⟩
end
section
variable {X : Cx} {a b c : Expr} {f g : DE} {pos : Pos}
theorem qle_cmp {op : CmpOp} {r : D2} (ho : OpD X (compareOp op) r) (ha : QE X a (LE X.K f)) (hb : QE X b (LE X.K g)) (hm : behindInMarks op b = false := by exact nomark _) : QE X (.Compare a [op] [b] pos) (LE X.K (dBin r f g)) := ⟨le_cmp (ho := ho) (ha := ha.pe) (hb := hb.pe) (hm := hm)⟩
end
section
variable {X : Cx} {a b c : Expr} {f g : DE} {pos : Pos}
theorem qlt_cmp {op : CmpOp} {r : D2} (ho : OpD X (compareOp op) r) (ha : QE X a (LE X.K f)) (hb : QE X b (LE X.K g)) (hm : behindInMarks op b = false := by exact nomark _) : QT X (.Compare a [op] [b] pos) (LT X.K (dTst (dBin r f g))) := ⟨lt_cmp (ho := ho) (ha := ha.pe) (hb := hb.pe) (hm := hm)⟩
end
section
variable {X : Cx} {a b c : Expr} {f g : DE} {pos : Pos}
theorem qlt_val (h : QE X a (LE X.K f)) (he : ∀ whole, isTrue a X.env whole = (do let v ← whole; standAt a.pos; holding [v] (truthy v)) := by intro _; rfl) : QT X a (LT X.K (dTst f)) := ⟨lt_val (h := h.pe) (he := he)⟩
end
section
variable {X : Cx} {a b c : Expr} {rest : List Expr} {f g : DE} {t u : DT} {pos : Pos}
end
section
variable {X : Cx} {a b c : Expr} {rest : List Expr} {f g : DE} {t u : DT} {pos : Pos}
theorem qlw_or1 (ha : QT X a (LT X.K t)) : QW X (.BoolOp .Or [a] pos) (LT X.K t) := ⟨lw_or1 (ha := ha.pe)⟩
end
section
variable {X : Cx} {a b c : Expr} {rest : List Expr} {f g : DE} {t u : DT} {pos : Pos}
end
section
variable {X : Cx} {a b c : Expr} {rest : List Expr} {f g : DE} {t u : DT} {pos : Pos}
theorem qlw_or (ha : QT X a (LT X.K t)) (hb : QW X (.BoolOp .Or (b :: rest) pos) (LT X.K u)) : QW X (.BoolOp .Or (a :: b :: rest) pos) (LT X.K (dOrT t u)) := ⟨lw_or (ha := ha.pe) (hb := hb.pe)⟩
end
section
variable {X : Cx} {a b c : Expr} {rest : List Expr} {f g : DE} {t u : DT} {pos : Pos}
theorem qlt_not (ha : QT X a (LT X.K t)) : QT X (.UnaryOp .Not a pos) (LT X.K (dNotT t)) := ⟨lt_not (ha := ha.pe)⟩
end
section
variable {X : Cx} {a b c : Expr} {rest : List Expr} {f g : DE} {t u : DT} {pos : Pos}
end
section
variable {X : Cx} {a b c : Expr} {rest : List Expr} {f g : DE} {t u : DT} {pos : Pos}
end
section
variable {X : Cx} {a b c : Expr} {rest : List Expr} {f g : DE} {t u : DT} {pos : Pos}
end
section
variable {X : Cx} {a b c : Expr} {rest : List Expr} {f g : DE} {t u : DT} {pos : Pos}
end
section
variable {X : Cx} {a b c : Expr} {rest : List Expr} {f g : DE} {t u : DT} {pos : Pos}
theorem qle_ite (hc : QT X c (LT X.K t)) (ha : QE X a (LE X.K f)) (hb : QE X b (LE X.K g)) : QE X (.IfExp c a b pos) (LE X.K (dIte t f g)) := ⟨le_ite (hc := hc.pe) (ha := ha.pe) (hb := hb.pe)⟩
end
section
variable {X : Cx} {e : Expr} {es : List Expr} {f : DE} {g : DA} {pos : Pos}
theorem qla_nil  : QA X [] (LA X.K dNil) := ⟨la_nil ⟩
end
section
variable {X : Cx} {e : Expr} {es : List Expr} {f : DE} {g : DA} {pos : Pos}
theorem qla_cons (ha : QE X e (LE X.K f)) (hr : QA X es (LA X.K g)) (hs : starEach (e :: es) X.env = (false, eval e X.env) :: starEach es X.env := by rfl) : QA X (e :: es) (LA X.K (dCons f g)) := ⟨la_cons (ha := ha.pe) (hr := hr.pe) (hs := hs)⟩
end
section
variable {X : Cx} {e : Expr} {es : List Expr} {f : DE} {g : DA} {pos : Pos}
theorem qle_tup {j : Nat} (h : QA X es (LA X.K g)) : QE X (.Tuple es j pos) (LE X.K (dTup g)) := ⟨le_tup (h := h.pe)⟩
end
section
variable {X : Cx} {e : Expr} {es : List Expr} {f : DE} {g : DA} {pos : Pos}
theorem qle_lst (h : QA X es (LA X.K g)) : QE X (.List es pos) (LE X.K (dLst g)) := ⟨le_lst (h := h.pe)⟩
end
section
variable {X : Cx} {e : Expr} {es : List Expr} {f : DE} {g : DA} {pos : Pos}
end
section
variable {X : Cx} {a b c e : Expr} {es : List Expr} {f g : DE} {ga : DA} {pos p2 p : Pos}
end
section
variable {X : Cx} {a b c e : Expr} {es : List Expr} {f g : DE} {ga : DA} {pos p2 p : Pos}
theorem qle_ix (ha : QE X a (LE X.K f)) (hb : QE X b (LE X.K g)) (hs : PlainIx b := by exact fun _ _ => rfl) : QE X (.Subscript a b pos) (LE X.K (dBin aIx f g)) := ⟨le_ix (ha := ha.pe) (hb := hb.pe) (hs := hs)⟩
end
section
variable {X : Cx} {a b c e : Expr} {es : List Expr} {f g : DE} {ga : DA} {pos p2 p : Pos}
end
section
variable {X : Cx} {a b c e : Expr} {es : List Expr} {f g : DE} {ga : DA} {pos p2 p : Pos}
end
section
variable {X : Cx} {a b c e : Expr} {es : List Expr} {f g : DE} {ga : DA} {pos p2 p : Pos}
end
section
variable {X : Cx} {a b c e : Expr} {es : List Expr} {f g : DE} {ga : DA} {pos p2 p : Pos}
theorem qle_callB {x : Str} {id : String} {r : DC} (hc : CallD X (.builtin id) r) (hg : Gl X x) (hm : X.mg x = none) (hv : bootBuiltins x = some (.builtin id)) (ha : QA X (e :: es) (LA X.K ga)) (hn : x ≠ "__name__" := by decide) (hdb : (x == ("__debug__" : Str)) = false := by decide) (he : starEach (e :: es) X.env = (false, eval e X.env) :: starEach es X.env := by rfl) (hpl : (backTo pos (starEach es X.env)).any (·.1) = false := by rfl) : QE X (.Call (.Name x p) (e :: es) [] pos) (LE X.K (dCallB r ga)) := ⟨le_callB (hc := hc) (hg := hg) (hm := hm) (hv := hv) (ha := ha.pe) (hn := hn) (hdb := hdb) (he := he) (hpl := hpl)⟩
end
section
variable {X : Cx} {a b c e : Expr} {es : List Expr} {f g : DE} {ga : DA} {pos p2 p : Pos}
theorem qle_callTy {x : Str} {T : String} {r : DC} (hc : CallD X (.type T) r) (hg : Gl X x) (hm : X.mg x = none) (hv : bootBuiltins x = some (.type T)) (ha : QA X (e :: es) (LA X.K ga)) (hn : x ≠ "__name__" := by decide) (hdb : (x == ("__debug__" : Str)) = false := by decide) (he : starEach (e :: es) X.env = (false, eval e X.env) :: starEach es X.env := by rfl) (hpl : (backTo pos (starEach es X.env)).any (·.1) = false := by rfl) : QE X (.Call (.Name x p) (e :: es) [] pos) (LE X.K (dCallB r ga)) := ⟨le_callTy (hc := hc) (hg := hg) (hm := hm) (hv := hv) (ha := ha.pe) (hn := hn) (hdb := hdb) (he := he) (hpl := hpl)⟩
end
section
variable {X : Cx} {st : Stmt} {rest body orelse : List Stmt} {t u b : DS} {e c tg iter : Expr} {f : DE} {tc : DT} {pos : Pos}
theorem qlss_nil  : QSs X [] (LS X.K dNext) := ⟨lss_nil ⟩
end
section
variable {X : Cx} {st : Stmt} {rest body orelse : List Stmt} {t u b : DS} {e c tg iter : Expr} {f : DE} {tc : DT} {pos : Pos}
theorem qlss_cons (h1 : QS X st (LS X.K t)) (h2 : QSs X rest (LS X.K u)) : QSs X (st :: rest) (LS X.K (dSeq t u)) := ⟨lss_cons (h1 := h1.pe) (h2 := h2.pe)⟩
end
section
variable {X : Cx} {st : Stmt} {rest body orelse : List Stmt} {t u b : DS} {e c tg iter : Expr} {f : DE} {tc : DT} {pos : Pos}
end
section
variable {X : Cx} {st : Stmt} {rest body orelse : List Stmt} {t u b : DS} {e c tg iter : Expr} {f : DE} {tc : DT} {pos : Pos}
end
section
variable {X : Cx} {st : Stmt} {rest body orelse : List Stmt} {t u b : DS} {e c tg iter : Expr} {f : DE} {tc : DT} {pos : Pos}
theorem qls_ret (he : QE X e (LE X.K f)) : QS X (.Return (some e) pos) (LS X.K (dRet f)) := ⟨ls_ret (he := he.pe)⟩
end
section
variable {X : Cx} {st : Stmt} {rest body orelse : List Stmt} {t u b : DS} {e c tg iter : Expr} {f : DE} {tc : DT} {pos : Pos}
theorem qls_if (hc : QT X c (LT X.K tc)) (h1 : QSs X body (LS X.K t)) (h2 : QSs X orelse (LS X.K u)) : QS X (.If c body orelse pos) (LS X.K (dIf tc t u)) := ⟨ls_if (hc := hc.pe) (h1 := h1.pe) (h2 := h2.pe)⟩
end
section
variable {X : Cx} {st : Stmt} {rest body orelse : List Stmt} {t u b : DS} {e c tg iter : Expr} {f : DE} {tc : DT} {pos : Pos}
theorem qls_set (i : Nat) {x : Str} {pos' : Pos} (hN : X.N.Nodup) (he : QE X e (LE X.K f)) (hi : X.N[i]? = some x := by rfl) (hx : Loc X.env.scope x := by first | exact Or.inl rfl | exact Or.inr rfl) (hs : swapsWith e (some (.Name x pos')) pos.line X.env = pure false := by rfl) (hf : X.fn x = true ∨ X.env.scope.names.lookup x = some .local := by first | exact .inl rfl | exact .inr rfl) : QS X (.Assign [.Name x pos'] e pos) (LS X.K (dSet i f)) := ⟨ls_set (i := i) (hN := hN) (he := he.pe) (hi := hi) (hx := hx) (hs := hs) (hf := hf)⟩
end
section
variable {X : Cx} {st : Stmt} {rest body orelse : List Stmt} {t u b : DS} {e c tg iter : Expr} {f : DE} {tc : DT} {pos : Pos}
theorem qlg_name (i : Nat) {x : Str} (hN : X.N.Nodup) (hi : X.N[i]? = some x := by rfl) (hx : Loc X.env.scope x := by first | exact Or.inl rfl | exact Or.inr rfl) (hf : X.fn x = true ∨ X.env.scope.names.lookup x = some .local := by first | exact .inl rfl | exact .inr rfl) : QG X (.Name x pos) (LG X.K (gN i)) := ⟨lg_name (i := i) (hN := hN) (hi := hi) (hx := hx) (hf := hf)⟩
end
section
variable {X : Cx} {st : Stmt} {rest body orelse : List Stmt} {t u b : DS} {e c tg iter : Expr} {f : DE} {tc : DT} {pos : Pos}
end
section
variable {X : Cx} {st : Stmt} {rest body orelse : List Stmt} {t u b : DS} {e c tg iter : Expr} {f : DE} {tc : DT} {pos : Pos}
end
section
variable {X : Cx} {st : Stmt} {rest body orelse : List Stmt} {t u b : DS} {e c tg iter : Expr} {f : DE} {tc : DT} {pos : Pos}
end
section
variable {X : Cx} {st : Stmt} {rest body orelse : List Stmt} {t u b : DS} {e c tg iter : Expr} {f : DE} {tc : DT} {pos : Pos}
end
section
variable {X : Cx} {st : Stmt} {rest body orelse : List Stmt} {t u b : DS} {e c tg iter : Expr} {f : DE} {tc : DT} {pos : Pos}
end
section
variable {X : Cx} {st : Stmt} {rest body orelse : List Stmt} {t u b : DS} {e c tg iter : Expr} {f : DE} {tc : DT} {pos : Pos}
end
section
variable {X : Cx} {st : Stmt} {rest body orelse : List Stmt} {t u b : DS} {e c tg iter : Expr} {f : DE} {tc : DT} {pos : Pos}
end
section
variable {X : Cx} {st : Stmt} {rest body orelse : List Stmt} {t u b : DS} {e c tg iter : Expr} {f : DE} {tc : DT} {pos : Pos}
end
section
variable {X : Cx} {st : Stmt} {rest body orelse : List Stmt} {t u b : DS} {e c tg iter : Expr} {f : DE} {tc : DT} {pos : Pos}
theorem qli_range {p : Pos} (hg : Gl X "range") (hm : X.mg "range" = none) (ha : QE X e (LE X.K f)) (hs : starEach [e] X.env = [(false, eval e X.env)] := by rfl) : QI X tg (.Call (.Name "range" p) [e] [] pos) (LI X.K (dRngI f)) := ⟨li_range (hg := hg) (hm := hm) (ha := ha.pe) (hs := hs)⟩
end
section
variable {X : Cx} {st : Stmt} {rest body orelse : List Stmt} {t u b : DS} {e c tg iter : Expr} {f : DE} {tc : DT} {pos : Pos}
theorem qls_for {fi : DI} {g : DG} (hp : PassesOwn (model X.prog X.w) X.A X.env X.xe) (hc : X.calm = true) (hi : QI X tg iter (LI X.K fi)) (hg : QG X tg (LG X.K g)) (hb : QSs X body (LS X.K b)) (hs : ∀ x, foldedSetIterable iter X.env x = pure x := by intro _; rfl) : QS X (.For tg iter body [] pos) (LS X.K (dFor fi g b)) := ⟨ls_for (hp := hp) (hc := hc) (hi := hi.pe) (hg := hg.pe) (hb := hb.pe) (hs := hs)⟩
end
section
variable {X : Cx} {a e : Expr} {es : List Expr} {f : DE} {ga : DA} {pos p p1 p2 p3 p4 : Pos}
end
section
variable {X : Cx} {a e : Expr} {es : List Expr} {f : DE} {ga : DA} {pos p p1 p2 p3 p4 : Pos}
end
section
variable {X : Cx} {a e : Expr} {es : List Expr} {f : DE} {ga : DA} {pos p p1 p2 p3 p4 : Pos}
end
section
variable {X : Cx} {a e : Expr} {es : List Expr} {f : DE} {ga : DA} {pos p p1 p2 p3 p4 : Pos}
theorem qle_call {k n : Nat} {fa : Addr} {fd : FuncData} {ps : List Str} {sp : DC} {x : Str} (F : FnOk X.prog X.w X.K X.mg X.base CX0 k fa fd ps (LSp X.K n sp)) (hr : Room k X.A) (hm : X.mg x = some (.ref fa)) (hk : PySem.W.keepIn X.K (.ref fa) = true) (hb : Binds X.K fd ps []) (hx : X.xe = fun _ _ => False) (ha : QA X (e :: es) (LA X.K ga)) (hg : Gl X x := by rfl) (hdb : (x == ("__debug__" : Str)) = false := by decide) (he : starEach (e :: es) X.env = (false, eval e X.env) :: starEach es X.env := by rfl) (hpl : (backTo pos (starEach es X.env)).any (·.1) = false := by rfl) : QE X (.Call (.Name x p) (e :: es) [] pos) (LE X.K (dCall n sp ga)) := ⟨le_call (F := F) (hr := hr) (hm := hm) (hk := hk) (hb := hb) (hx := hx) (ha := ha.pe) (hg := hg) (hdb := hdb) (he := he) (hpl := hpl)⟩
end
section
theorem qpf_nil {Y : Cx} : QF Y [] (LT Y.K dTrue) := ⟨pf_nil ⟩
end
section
end
section
variable {X : Cx} {a e o : Expr} {es : List Expr} {f g : DE} {ga : DA} {pos p p1 p2 : Pos}
end
section
variable {X : Cx} {a e o : Expr} {es : List Expr} {f g : DE} {ga : DA} {pos p p1 p2 : Pos}
end
section
variable {X : Cx} {a e o : Expr} {es : List Expr} {f g : DE} {ga : DA} {pos p p1 p2 : Pos}
end
section
variable {X : Cx} {tg iter elt : Expr} {ifs : List Expr} {scope : Scope} {fi : DI} {g : DG} {t : DT} {f : DE} {pos : Pos}
theorem qle_lcB {NC : List Str} {src : List (Option Nat)} (hc : X.calm = true) (hi : QI X tg iter (LI X.K fi)) (hg : ∀ cl C s2 H2 pins fp, QG (cyOf X scope cl C NC s2 H2 pins fp) tg (LG X.K g)) (ht : ∀ cl C s2 H2 pins fp, QF (cyOf X scope cl C NC s2 H2 pins fp) ifs (LT X.K t)) (he : ∀ cl C s2 H2 pins fp, QE (cyOf X scope cl C NC s2 H2 pins fp) elt (LE X.K f)) (hNC : NC = ncT [tg] src X.N := by rfl) (hkind : scope.kind = .function := by rfl) (hB : chkB scope X.env = true := by rfl) (hS : chkS X.N scope X.env NC src = true := by rfl) (hs : ∀ x, foldedSetIterable iter X.env x = pure x := by intro _; rfl) : QE X (.ListComp elt [⟨tg, iter, ifs, 0⟩] scope pos) (LE X.K (dLC src fi g t f)) := ⟨le_lcB (NC := NC) (src := src) (hc := hc) (hi := hi.pe) (hg := fun cl C s2 H2 pins fp => (hg cl C s2 H2 pins fp).pe) (ht := fun cl C s2 H2 pins fp => (ht cl C s2 H2 pins fp).pe) (he := fun cl C s2 H2 pins fp => (he cl C s2 H2 pins fp).pe) (hkind := hkind) (hB := hB) (hS := hS) (hs := hs)⟩
end
section
variable {X : Cx} {tg iter elt : Expr} {ifs : List Expr} {scope : Scope} {fi : DI} {g : DG} {t : DT} {f : DE} {pos : Pos}
end
section
variable {X : Cx} {tg iter elt : Expr} {ifs : List Expr} {scope : Scope} {fi : DI} {g : DG} {t : DT} {f : DE} {pos : Pos}
theorem qls_lcB (i : Nat) {y : Str} {py spos : Pos} {NC : List Str} {src : List (Option Nat)} (hc : X.calm = true) (hN : X.N.Nodup) (hi : QI X tg iter (LI X.K fi)) (hg : ∀ cl C s2 H2 pins fp, QG (cyOf X scope cl C NC s2 H2 pins fp) tg (LG X.K g)) (ht : ∀ cl C s2 H2 pins fp, QF (cyOf X scope cl C NC s2 H2 pins fp) ifs (LT X.K t)) (he : ∀ cl C s2 H2 pins fp, QE (cyOf X scope cl C NC s2 H2 pins fp) elt (LE X.K f)) (hNC : NC = ncT [tg] src X.N := by rfl) (hkind : scope.kind = .function := by rfl) (hB : chkB scope X.env = true := by rfl) (hS : chkS X.N scope X.env NC src = true := by rfl) (hi2 : X.N[i]? = some y := by rfl) (hx : Loc X.env.scope y := by first | exact Or.inl rfl | exact Or.inr rfl) (hf : X.fn y = true ∨ X.env.scope.names.lookup y = some .local := by first | exact .inl rfl | exact .inr rfl) (hsw : swapsWith (.ListComp elt [⟨tg, iter, ifs, 0⟩] scope pos) (some (.Name y py)) spos.line X.env = pure true := by rfl) (hs : ∀ x, foldedSetIterable iter X.env x = pure x := by intro _; rfl) : QS X (.Assign [.Name y py] (.ListComp elt [⟨tg, iter, ifs, 0⟩] scope pos) spos) (LS X.K (dSet i (dLC src fi g t f))) := ⟨ls_lcB (i := i) (NC := NC) (src := src) (hc := hc) (hN := hN) (hi := hi.pe) (hg := fun cl C s2 H2 pins fp => (hg cl C s2 H2 pins fp).pe) (ht := fun cl C s2 H2 pins fp => (ht cl C s2 H2 pins fp).pe) (he := fun cl C s2 H2 pins fp => (he cl C s2 H2 pins fp).pe) (hkind := hkind) (hB := hB) (hS := hS) (hi2 := hi2) (hx := hx) (hf := hf) (hsw := hsw) (hs := hs)⟩
end
section
variable {X : Cx} {a b : Expr} {elts : List Expr} {j : Nat} {f g : DE} {pos p p2 : Pos}
end
section
variable {X : Cx} {a e o : Expr} {es : List Expr} {f g : DE} {ga : DA} {pos p p1 p2 : Pos}
end
section
variable {X : Cx} {a e o : Expr} {es : List Expr} {f g : DE} {ga : DA} {pos p p1 p2 : Pos}
end
section
variable {X : Cx} {a e o : Expr} {es : List Expr} {f g : DE} {ga : DA} {pos p p1 p2 : Pos}
end
section
variable {X : Cx} {o i e : Expr} {fo fi f : DE} {pos tpos : Pos}
end
section
variable {X : Cx} {o i e : Expr} {fo fi f : DE} {pos tpos : Pos}
end
section
variable {X : Cx} {o i e : Expr} {fo fi f : DE} {pos tpos : Pos}
end
section
variable {X : Cx} {e : Expr} {f : DE} {pos p p2 pos2 : Pos}
end
section
variable {X : Cx} {i e g : Expr} {fi f fg : DE} {p pos apos cpos : Pos}
end
section
variable {X : Cx} {i e g : Expr} {fi f fg : DE} {p pos apos cpos : Pos}
end
section
variable {X : Cx} {e g : Expr} {f fg : DE} {tg : Expr} {pos : Pos}
end
section
variable {X : Cx} {o i e : Expr} {es : List Expr} {fo f : DE} {fa : DA} {pos tpos ipos : Pos} {j : Nat}
end
section
variable {X : Cx} {o i e : Expr} {es : List Expr} {fo f : DE} {fa : DA} {pos tpos ipos : Pos} {j : Nat}
end
section
variable {X : Cx} {o i e : Expr} {es : List Expr} {fo f : DE} {fa : DA} {pos tpos ipos : Pos} {j : Nat}
end
section
variable {X : Cx} {e : Expr} {f : DE} {pos p : Pos}
end
section
variable {X : Cx} {tg iter tg2 iter2 elt : Expr} {ifs ifs2 : List Expr} {scope : Scope} {NC : List Str} {fi fi2 : DI} {g g2 : DG} {t t2 : DT} {f : DE} {pos : Pos}
end
section
variable {X : Cx} {tg iter tg2 iter2 elt : Expr} {ifs ifs2 : List Expr} {scope : Scope} {NC : List Str} {fi fi2 : DI} {g g2 : DG} {t t2 : DT} {f : DE} {pos : Pos}
end
section
variable {X : Cx} {e g : Expr} {fi fg : DE} {p apos cpos : Pos}
end
section
variable {X : Cx} {o e : Expr} {f g : DE} {apos cpos : Pos}
end
section
variable {X : Cx} {o e : Expr} {f g : DE} {apos cpos : Pos}
end
section
variable {X : Cx} {a : Expr} {f : DE} {pos p2 : Pos}
end
section
variable {X : Cx} {a : Expr} {elts : List Expr} {j : Nat} {f : DE} {pos p p2 : Pos}
end
section
variable {X : Cx} {a : Expr} {elts : List Expr} {j : Nat} {f : DE} {pos p p2 : Pos}
end
section
variable {X : Cx} {a b : Expr} {elts : List Expr} {j : Nat} {f g : DE} {pos p p2 : Pos}
end
section
variable {X : Cx} {a : Expr} {f : DE} {pos p2 : Pos}
end
section
variable {X : Cx} {e : Expr} {f : DE} {pos p : Pos}
end
section
variable {X : Cx} {a b : Expr} {f g : DE} {pos p p2 pos2 : Pos}
end
section
variable {X : Cx} {o e : Expr} {f g : DE}
end
section
variable {X : Cx} {o e : Expr} {f g : DE}
end
section
variable {X : Cx} {e : Expr} {f : DE}
end
section
variable {X : Cx} {pos : Pos}
end
section
variable {X : Cx} {pos : Pos}
end
section
variable {X : Cx} {pos : Pos}
end
section
variable {X : Cx} {pos : Pos}
variable {o e : Expr} {f g : DE}
end
section
variable {X : Cx} {o i : Expr} {fo fi : DE} {pos : Pos}
end
section
variable {X : Cx} {e : Expr} {f : DE} {pos p p2 pos2 : Pos}
end
section
variable {X : Cx} {e : Expr} {f : DE} {pos p p2 pos2 : Pos}
variable {e2 : Expr} {f2 : DE}
end
section
variable {X : Cx} {a b c : Expr} {f g h : DE} {pos : Pos}
end
section
variable {X : Cx} {a b c : Expr} {f g h : DE} {pos : Pos}
end
section
variable {X : Cx} {a b c : Expr} {f g h : DE} {pos : Pos}
end
section
variable {X : Cx} {a b c : Expr} {f g h : DE} {pos : Pos}
end
section
variable {X : Cx} {a : Expr} {tg : Expr} {f : DE}
end
section
variable {X : Cx} {o : Expr} {es : List Expr} {fo : DE} {fa : DA} {pos ipos : Pos} {j : Nat}
end
section
variable {X : Cx} {o i e : Expr} {fo fi f : DE} {pos tpos : Pos}
end
section
variable {X : Cx} {o i e : Expr} {fo fi f : DE} {pos tpos : Pos}
end
section
variable {X : Cx} {o i e : Expr} {fo fi f : DE} {pos tpos : Pos}
end
section
variable {X : Cx} {a lo st : Expr} {f g h : DE} {pos p2 : Pos}
end
section
variable {X : Cx} {e : Expr} {f : DE} {pos p p2 pos2 : Pos}
end
section
variable {X : Cx} {a : Expr} {tg : Expr} {f : DE}
end
section
variable {X : Cx} {o e : Expr} {es : List Expr} {fo fe : DE} {ga : DA} {pos pos' tpos apos p : Pos} {N f : Str} {C : Addr}
end
section
variable {X : Cx} {o e : Expr} {es : List Expr} {fo fe : DE} {ga : DA} {pos pos' tpos apos p : Pos} {N f : Str} {C : Addr}
end
section
variable {X : Cx} {o e : Expr} {es : List Expr} {fo fe : DE} {ga : DA} {pos pos' tpos apos p : Pos} {N f : Str} {C : Addr}
end
section
variable {X : Cx} {o e : Expr} {es : List Expr} {fo fe : DE} {ga : DA} {pos pos' tpos apos p : Pos} {N f : Str} {C : Addr}
end
section
variable {X : Cx} {o e : Expr} {es : List Expr} {fo fe : DE} {ga : DA} {pos pos' tpos apos p : Pos} {N f : Str} {C : Addr}
end
section
variable {X : Cx} {o e : Expr} {es : List Expr} {fo fe : DE} {ga : DA} {pos pos' tpos apos p : Pos} {N f : Str} {C : Addr}
end
section
variable {X : Cx} {o i e : Expr} {fo fi f : DE} {pos tpos : Pos}
end
section
variable {X : Cx} {o i e : Expr} {fo fi f : DE} {pos tpos : Pos}
end
section
variable {X : Cx} {o i e : Expr} {fo fi f : DE} {pos tpos : Pos}
end
section
variable {X : Cx} {o e : Expr} {f g : DE} {pos : Pos}
end
section
variable {X : Cx} {elt tg iter : Expr} {ifs : List Expr} {scope : Scope} {NC : List Str} {fi : DI} {g : DG} {t : DT} {f : DE} {pos : Pos}
end
section
variable {X : Cx} {a : Expr} {f : DE} {pos p2 p3 : Pos}
end
section
variable {X : Cx} {a b : Expr} {elts : List Expr} {j : Nat} {f g : DE} {pos p p2 : Pos}
end
section
variable {X : Cx} {ek ev tg iter : Expr} {ifs : List Expr} {scope : Scope} {NC : List Str} {fi : DI} {g : DG} {t : DT} {fk fv : DE} {pos : Pos}
end
section
variable {X : Cx} {o i a tg : Expr} {fo fi f : DE} {pos : Pos}
end
section
variable {X : Cx} {o i a tg : Expr} {fo fi f : DE} {pos : Pos}
end
section
variable {X : Cx} {a tg : Expr} {f : DE}
end
section
variable {X : Cx} {a tg : Expr} {f : DE}
end
section
variable {X : Cx} {o i : Expr} {fo fi : DE} {pos : Pos}
end
section
variable {X : Cx} {e : Expr} {f : DE} {pos p pos2 p2 : Pos}
end
section
variable {X : Cx} {o i e g ek : Expr} {fo fi f fg fk : DE} {pos apos cpos : Pos}
end
section
variable {X : Cx} {o i e g ek : Expr} {fo fi f fg fk : DE} {pos apos cpos : Pos}
end
section
variable {X : Cx} {a e : Expr} {f g : DE} {pos p2 : Pos}
end
section
variable {X : Cx} {e : Expr} {f : DE} {pos p pos2 p2 : Pos}
end
section
variable {X : Cx} {elt tg : Expr} {ifs : List Expr} {scope : Scope} {NC : List Str} {g : DG} {t : DT} {f : DE} {pos npos : Pos}
end
section
variable {X : Cx} {elt tg iter : Expr} {ifs : List Expr} {scope : Scope} {NC : List Str} {fi : DI} {g : DG} {t : DT} {f : DE} {pos : Pos}
end
section
variable {X : Cx} {e : Expr} {f : DE} {pos p : Pos}
end
section
variable {X : Cx} {e : Expr} {f : DE} {pos p pos2 p2 : Pos}
end
section
variable {X : Cx} {e i : Expr} {es : List Expr} {fi : DE} {ga : DA} {pos pos2 pos3 p p4 p6 pos' : Pos}
end
section
variable {X : Cx} {e : Expr} {f : DE} {pos p : Pos}
end
section
variable {X : Cx} {e : Expr} {f : DE} {pos p : Pos}
end
section
end
section
variable {X : Cx} {o : Expr} {fo : DE} {pos p cpos apos : Pos}
end
section
variable {X : Cx} {o : Expr} {elts : List Expr} {j : Nat} {fo : DE} {pos p2 apos : Pos}
end
section
variable {X : Cx} {a b : Expr} {f g : DE} {pos p p2 pos2 : Pos}
end
section
variable {X : Cx} {pos : Pos}
end
section
variable {X : Cx} {o e : Expr} {f g : DE} {apos cpos : Pos}
end
section
variable {X : Cx} {o e : Expr} {f g : DE} {apos cpos : Pos}
end
section
variable {X : Cx} {o e : Expr} {f g : DE} {apos cpos : Pos}
end
section
variable {X : Cx} {o e : Expr} {f g : DE} {apos cpos : Pos}
end
section
variable {X : Cx} {e : Expr} {f : DE} {pos : Pos}
end
section
variable {X : Cx} {e : Expr} {f : DE} {pos : Pos}
end
section
variable {X : Cx} {e : Expr} {f : DE} {pos : Pos}
end
section
variable {X : Cx} {e : Expr} {f : DE} {pos : Pos}
end
section
variable {X : Cx} {e : Expr} {f : DE} {pos : Pos}
end
section
variable {X : Cx} {st : Stmt} {o e : Expr} {f g : DE} {p apos cpos : Pos}
end
section
variable {X : Cx} {st : Stmt} {o e : Expr} {f g : DE} {p apos cpos : Pos}
end
section
variable {X : Cx} {st : Stmt} {o e : Expr} {f g : DE} {p apos cpos : Pos}
end
section
variable {X : Cx} {e : Expr} {f g : DE}
end
section
variable {X : Cx} {e : Expr} {f g : DE}
end
section
variable {X : Cx} {o e i : Expr} {f g h : DE}
end
section
variable {X : Cx} {tg iter tg2 iter2 elt : Expr} {ifs ifs2 : List Expr} {scope : Scope} {fi fi2 : DI} {g g2 : DG} {t t2 : DT} {f : DE} {pos : Pos}
end
section
variable {X : Cx} {o e : Expr} {f g : DE}
end
section
variable {X : Cx} {o e : Expr} {f fo : DE} {lo hi : Option Expr} {tl th : DO} {tpos p2 pos : Pos}
end
section
variable {X : Cx} {es : List Expr} {e : Expr} {g : DA} {f : DE} {pos : Pos}
end
section
variable {X : Cx} {es : List Expr} {e : Expr} {g : DA} {f : DE} {pos : Pos}
end
section
variable {X : Cx} {a e : Expr} {f g : DE} {p p1 p2 pos : Pos}
end
section
variable {X : Cx} {a e : Expr} {f g : DE} {p p1 p2 pos : Pos}
end
section
variable {X : Cx} {st : Stmt} {rest body orelse : List Stmt} {t u : DS} {e c : Expr} {f : DXK → DE} {tc : DT} {pos : Pos}
end
section
variable {X : Cx} {st : Stmt} {rest body orelse : List Stmt} {t u : DS} {e c : Expr} {f : DXK → DE} {tc : DT} {pos : Pos}
theorem qlssx_pure (h : QSs X rest (LS X.K t)) (hx : X.xe = fun _ _ => False := by rfl) : QSsx X rest (LSx X.K t) := ⟨lssx_pure (h := h.pe) (hx := hx)⟩
end
section
variable {X : Cx} {st : Stmt} {rest body orelse : List Stmt} {t u : DS} {e c : Expr} {f : DXK → DE} {tc : DT} {pos : Pos}
theorem qlssx_cons (h1 : QSx X st (LSx X.K t)) (h2 : QSsx X rest (LSx X.K u)) : QSsx X (st :: rest) (LSx X.K (dSeq t u)) := ⟨lssx_cons (h1 := h1.pe) (h2 := h2.pe)⟩
end
section
variable {X : Cx} {st : Stmt} {rest body orelse : List Stmt} {t u : DS} {e c : Expr} {f : DXK → DE} {tc : DT} {pos : Pos}
theorem qlsx_if (hc : QT X c (LT X.K tc)) (h1 : QSsx X body (LSx X.K t)) (h2 : QSsx X orelse (LSx X.K u)) (hx : X.xe = fun _ _ => False := by rfl) : QSx X (.If c body orelse pos) (LSx X.K (dIf tc t u)) := ⟨lsx_if (hc := hc.pe) (h1 := h1.pe) (h2 := h2.pe) (hx := hx)⟩
end
section
variable {X : Cx} {st : Stmt} {rest body orelse : List Stmt} {t u : DS} {e c : Expr} {f : DXK → DE} {tc : DT} {pos : Pos}
end
section
variable {X : Cx} {st : Stmt} {rest body orelse : List Stmt} {t u : DS} {e c : Expr} {f : DXK → DE} {tc : DT} {pos : Pos}
theorem qlsx_expr (he : QEx X e (LEx X.K f)) (hs : swapsWith e none pos.line X.env = pure false := by rfl) : QSx X (.Expr e pos) (LSx X.K (dExprX f)) := ⟨lsx_expr (he := he.pe) (hs := hs)⟩
end
section
variable {X : Cx} {st : Stmt} {rest body orelse : List Stmt} {t u : DS} {e c : Expr} {f : DXK → DE} {tc : DT} {pos : Pos}
end
section
variable {X : Cx} {x N : Str} {p pos cpos : Pos} {a : Expr} {es : List Expr} {g : DA} {C fa : Addr} {fl : List Str}
theorem qlsx_raise {k : Nat} {fd : FuncData} {ps : List Str} (ck : XKn X.K C N) (m : XMk X.K C) (kp : PySem.W.keepIn X.K (.ref C) = true) (hi : PySem.W.findIn X.K (.ref C) "__init__" = some (some (.ref fa))) (hf : PySem.W.typeIn X.K (.ref fa) = some (.type "function")) (F : FnOk X.prog X.w X.K X.mg X.base CX0 k fa fd ps (initSp C fl)) (hr : Room (k + 1) X.A) (hb : Binds X.K fd ps []) (hm : X.mg N = some (.ref C)) (ha : QA X (a :: es) (LA X.K g)) (hps : ps.length ≤ 1000) (hg : Gl X N := by rfl) (hc : X.calm = true := by rfl) (hx : X.xe = fun _ _ => False := by rfl) (hdb : (N == ("__debug__" : Str)) = false := by decide) (he : starEach (a :: es) X.env = (false, eval a X.env) :: starEach es X.env := by rfl) (hpl : (backTo cpos (starEach es X.env)).any (·.1) = false := by rfl) : QSx X (.Raise (some (.Call (.Name N p) (a :: es) [] cpos)) none pos) (LSx X.K (dRaise N fl g)) := ⟨lsx_raise (ck := ck) (m := m) (kp := kp) (hi := hi) (hf := hf) (F := F) (hr := hr) (hb := hb) (hm := hm) (ha := ha.pe) (hps := hps) (hg := hg) (hc := hc) (hx := hx) (hdb := hdb) (he := he) (hpl := hpl)⟩
end
section
variable {X : Cx} {x N : Str} {p pos cpos : Pos} {a : Expr} {es : List Expr} {g : DA} {C fa : Addr} {fl : List Str}
theorem qlsx_raise0 (ck : XKn X.K C N) (m : XMk0 X.K C) (kp : PySem.W.keepIn X.K (.ref C) = true) (hm : X.mg N = some (.ref C)) (ha : QA X (a :: es) (LA X.K g)) (hg : Gl X N := by rfl) (hc : X.calm = true := by rfl) (hx : X.xe = fun _ _ => False := by rfl) (hdb : (N == ("__debug__" : Str)) = false := by decide) (he : starEach (a :: es) X.env = (false, eval a X.env) :: starEach es X.env := by rfl) (hpl : (backTo cpos (starEach es X.env)).any (·.1) = false := by rfl) : QSx X (.Raise (some (.Call (.Name N p) (a :: es) [] cpos)) none pos) (LSx X.K (dRaise0 N g)) := ⟨lsx_raise0 (ck := ck) (m := m) (kp := kp) (hm := hm) (ha := ha.pe) (hg := hg) (hc := hc) (hx := hx) (hdb := hdb) (he := he) (hpl := hpl)⟩
end
section
variable {X : Cx} {body suite : List Stmt} {b0 : Stmt} {cn n : Str} {np hpos pos : Pos} {S : Addr} {tb ts : DS} {i : Nat}
theorem qls_try (L : List Str) (hN : X.N.Nodup) (hb : QSsx X body (LSx X.K tb)) (hs : ∀ e, QSs (hold X e) (b0 :: suite) (LS X.K ts)) (hm : X.mg cn = some (.ref S)) (cs : XCl X.K S) (hL : xsub X.K S L = true) (hi : X.N[i]? = some n := by rfl) (hl : X.env.scope.names.lookup n = some .local := by rfl) (hg : Gl X cn := by rfl) (hx : X.xe = fun _ _ => False := by rfl) (ot : OnTop X := by exact ⟨rfl, rfl⟩) (hdb : (cn == ("__debug__" : Str)) = false := by decide) : QS X (.Try body [.ExceptHandler (some (.Name cn np)) (some n) (b0 :: suite) hpos] [] [] pos) (LS X.K (dTry L i tb ts)) := ⟨ls_try (L := L) (hN := hN) (hb := hb.pe) (hs := fun e => (hs e).pe) (hm := hm) (cs := cs) (hL := hL) (hi := hi) (hl := hl) (hg := hg) (hx := hx) (ot := ot) (hdb := hdb)⟩
end
section
variable {X : Cx} {a : Expr} {f : DE} {p1 p2 p3 pos : Pos}
theorem qle_isE {T : Str} {S : Addr} {L : List Str} {p : Str → Bool} (hm : X.mg "isinstance" = none) (hmT : X.mg T = some (.ref S)) (ht : xall X.K L (fun C => PySem.W.kitOne X.K (.ref C) (.ref S)) p = true) (ha : QE X a (LE X.K f)) (hg : Gl X "isinstance" := by rfl) (hgT : Gl X T := by rfl) (hd : (T == ("__debug__" : Str)) = false := by decide) (he : starEach [a, .Name T p2] X.env = (false, eval a X.env) :: starEach [.Name T p2] X.env := by rfl) : QE X (.Call (.Name "isinstance" p1) [a, .Name T p2] [] pos) (LE X.K (dIsE L p f)) := ⟨le_isE (hm := hm) (hmT := hmT) (ht := ht) (ha := ha.pe) (hg := hg) (hgT := hgT) (hd := hd) (he := he)⟩
end
section
variable {X : Cx} {a : Expr} {f : DE} {p1 p2 p3 pos : Pos}
theorem qle_isEb {T : Str} {c : String} {L : List Str} {p : Str → Bool} (hm : X.mg "isinstance" = none) (hmT : X.mg T = none) (hv : bootBuiltins T = some (.type c)) (ht : xall X.K L (fun C => PySem.W.kitOne X.K (.ref C) (.type c)) p = true) (ha : QE X a (LE X.K f)) (hg : Gl X "isinstance" := by rfl) (hgT : Gl X T := by rfl) (hn : T ≠ "__name__" := by decide) (hd : (T == ("__debug__" : Str)) = false := by decide) (he : starEach [a, .Name T p2] X.env = (false, eval a X.env) :: starEach [.Name T p2] X.env := by rfl) : QE X (.Call (.Name "isinstance" p1) [a, .Name T p2] [] pos) (LE X.K (dIsE L p f)) := ⟨le_isEb (hm := hm) (hmT := hmT) (hv := hv) (ht := ht) (ha := ha.pe) (hg := hg) (hgT := hgT) (hn := hn) (hd := hd) (he := he)⟩
end
section
variable {X : Cx} {a : Expr} {f : DE} {p1 p2 p3 pos : Pos}
end
section
variable {X : Cx} {a : Expr} {f : DE} {p1 p2 p3 pos : Pos}
end
section
variable {X : Cx} {a : Expr} {f : DE} {p1 p2 p3 pos : Pos}
end
section
variable {X : Cx} {a : Expr} {f : DE} {p1 p2 p3 pos : Pos}
theorem qle_xfld {o : Expr} {fo : DE} {f : Str} {L : List Str} (ht : xall X.K L (xna X.K f) (fun _ => true) = true) (ho : QE X o (LE X.K fo)) (hb : attributeBase o f X.env (eval o X.env) = eval o X.env := by rfl) : QE X (.Attribute o f pos) (LE X.K (dXFld L f fo)) := ⟨le_xfld (ht := ht) (ho := ho.pe) (hb := hb)⟩
end
section
variable {P : Program} {w : World} {K : PySem.W.Frag} {mg : Str → Option Value} {base : Heap}
theorem qfn_body {x qual : Str} {st : Stmt} {fa : Addr} {fd : FuncData} {N ps : List Str} {k : Nat} {sp : DC} {body : DS} (F : Fun K x qual st fa fd) (S : FnScope N ps (defScope st))
    (hb : ∀ (cdv : Value) (A : Around) (outer : List Env) (s : Shared) (H : Hp) (E : XK), Room k (A.deeper (envOfC qual (defScope st) s.heap.objs.size fa cdv)) → QSs (cxOf CX0 P w K mg base N qual (defScope st) fa cdv A outer s H E).nox (defBody st) (LS K body))
    (hv : ∀ ds m R, ds.length = ps.length → sp ds m R → body { nx := fun _ m => R (.dat .none) m, rt := R } (start2 N ds) m) : FnOk P w K mg base CX0 (k + 1) fa fd ps (LSp K ps.length sp) := fn_body F S (fun cdv A outer s H E hr => (hb cdv A outer s H E hr).pe) hv
end
end DL
set_option Elab.async false
set_option linter.all false
set_option maxRecDepth 100000
set_option maxHeartbeats 4000000
namespace DL
open PySem PySem.Spec PyProof.Rows L2
section
variable {P : Program} {w : World} {K : PySem.W.Frag} {mg : Str → Option Value} {base : Heap}
def Df (K : PySem.W.Frag) (mg : Str → Option Value) (nm : Str) (st : Stmt) (a : Addr) : Prop := ∃ fd, Fun K nm nm st a fd ∧ mg nm = some (.ref a)
structure Cal (P : Program) (w : World) (K : PySem.W.Frag) (mg : Str → Option Value) (base : Heap) (nm : Str) (st : Stmt) (a : Addr) (ps : List Str) (k : Nat) (sp : DC) : Prop where
  ex : ∃ fd, Fun K nm nm st a fd ∧ Binds K fd ps [] ∧ mg nm = some (.ref a) ∧ FnOk P w K mg base CX0 k a fd ps (LSp K ps.length sp)
abbrev VcT (ps N : List Str) (sp : DC) (b : DS) : Prop := ∀ ds m R, ds.length = ps.length → sp ds m R → b { nx := fun _ m => R (.dat .none) m, rt := R } (start2 N ds) m
abbrev BndT (nm : Str) (st : Stmt) (ps : List Str) : Prop := ∀ (kV doc pm : Value) (an : Option Addr) (cdv ct : Value) (us : List Value), us.length = ps.length → bindArgs (PySem.W.fnOf nm nm (defArgs st) (defBody st) (defScope st) .none kV doc pm an cdv ct) ⟨us, []⟩ = pure (ps.zip us)
theorem cal_mk {nm : Str} {st : Stmt} {a : Addr} {N ps : List Str} {k : Nat} {sp : DC} {body : DS} (D : Df K mg nm st a) (hb : BndT nm st ps) (S : FnScope N ps (defScope st))
    (hq : ∀ (cdv : Value) (A : Around) (outer : List Env) (s : Shared) (H : Hp) (E : XK), Room k (A.deeper (envOfC nm (defScope st) s.heap.objs.size a cdv)) → N.Nodup → QSs (cxOf CX0 P w K mg base N nm (defScope st) a cdv A outer s H E).nox (defBody st) (LS K body))
    (hv : VcT ps N sp body) : Cal P w K mg base nm st a ps (k + 1) sp := by
  obtain ⟨fd, F, M⟩ := D
  exact ⟨⟨fd, F, F.binds hb, M, qfn_body F S (fun cdv A outer s H E hr => hq cdv A outer s H E hr S.nd) hv⟩⟩
theorem us_0 {fd : FuncData} {ps : List Str} (h : bindArgs fd { pos := [] } = pure (ps.zip [])) : ∀ us : List Value, us.length = 0 → bindArgs fd { pos := us } = pure (ps.zip us)
  | [], _ => h
theorem us_1 {fd : FuncData} {ps : List Str} (h : ∀ a0, bindArgs fd { pos := [a0] } = pure (ps.zip [a0])) : ∀ us : List Value, us.length = 1 → bindArgs fd { pos := us } = pure (ps.zip us)
  | [a0], _ => h a0
theorem us_2 {fd : FuncData} {ps : List Str} (h : ∀ a0 a1, bindArgs fd { pos := [a0, a1] } = pure (ps.zip [a0, a1])) : ∀ us : List Value, us.length = 2 → bindArgs fd { pos := us } = pure (ps.zip us)
  | [a0, a1], _ => h a0 a1
theorem us_3 {fd : FuncData} {ps : List Str} (h : ∀ a0 a1 a2, bindArgs fd { pos := [a0, a1, a2] } = pure (ps.zip [a0, a1, a2])) : ∀ us : List Value, us.length = 3 → bindArgs fd { pos := us } = pure (ps.zip us)
  | [a0, a1, a2], _ => h a0 a1 a2
theorem us_4 {fd : FuncData} {ps : List Str} (h : ∀ a0 a1 a2 a3, bindArgs fd { pos := [a0, a1, a2, a3] } = pure (ps.zip [a0, a1, a2, a3])) : ∀ us : List Value, us.length = 4 → bindArgs fd { pos := us } = pure (ps.zip us)
  | [a0, a1, a2, a3], _ => h a0 a1 a2 a3
theorem us_5 {fd : FuncData} {ps : List Str} (h : ∀ a0 a1 a2 a3 a4, bindArgs fd { pos := [a0, a1, a2, a3, a4] } = pure (ps.zip [a0, a1, a2, a3, a4])) : ∀ us : List Value, us.length = 5 → bindArgs fd { pos := us } = pure (ps.zip us)
  | [a0, a1, a2, a3, a4], _ => h a0 a1 a2 a3 a4
theorem us_6 {fd : FuncData} {ps : List Str} (h : ∀ a0 a1 a2 a3 a4 a5, bindArgs fd { pos := [a0, a1, a2, a3, a4, a5] } = pure (ps.zip [a0, a1, a2, a3, a4, a5])) : ∀ us : List Value, us.length = 6 → bindArgs fd { pos := us } = pure (ps.zip us)
  | [a0, a1, a2, a3, a4, a5], _ => h a0 a1 a2 a3 a4 a5
end
section
variable {X : Cx} {pos p : Pos} {nm : Str} {st : Stmt} {a : Addr} {ps : List Str} {k : Nat} {sp : DC}
theorem qca {n : Nat} {e : Expr} {es : List Expr} {ga : DA} (C : Cal X.prog X.w X.K X.mg X.base nm st a ps k sp) (hr : Room k X.A) (hx : X.xe = fun _ _ => False) (ha : QA X (e :: es) (LA X.K ga)) (hg : Gl X nm := by rfl) (hdb : (nm == ("__debug__" : Str)) = false := by decide) (he : starEach (e :: es) X.env = (false, eval e X.env) :: starEach es X.env := by rfl) (hpl : (backTo pos (starEach es X.env)).any (·.1) = false := by rfl) (hn : ps.length = n := by rfl) :
    QE X (.Call (.Name nm p) (e :: es) [] pos) (LE X.K (dCall n sp ga)) := by
  subst hn
  obtain ⟨fd, F, B, M, C⟩ := C.ex
  exact qle_call C hr M F.kp B hx ha hg hdb he hpl
end
section
variable {K : PySem.W.Frag} {h : Heap} {mg : Str → Option Value}
def DefIn (K : PySem.W.Frag) (d : Str × Stmt × Addr) : Prop := PySem.W.nsIn K mainGlobals d.1 = some (some (.ref d.2.2)) ∧ ∃ fd, Fun K d.1 d.1 d.2.1 d.2.2 fd
theorem di {nm : Str} {st : Stmt} {f : Addr} {oc : Value} {od an : Option Addr} {osl : Array (Option Value)} {kV doc pm cdv ct : Value} (n : PySem.W.nsIn K mainGlobals nm = some (some (.ref f))) (l : K.lookup f = some ⟨oc, od, .func (PySem.W.fnOf nm nm (defArgs st) (defBody st) (defScope st) .none kV doc pm an cdv ct), osl⟩)
    (c : PySem.W.codeIn K cdv nm = true) (k : PySem.W.keepIn K (.ref f) = true) : DefIn K (nm, st, f) := ⟨n, _, fun_mk l c k⟩
theorem law_ex {P : Program} {w : World} {st : Stmt} {a fa : Addr} {y : Str} {k : Nat} {sp : DC} (D : Df K mg "law" st a) (hfa : mg "law" = some (.ref fa)) (hb : BndT "law" st [y]) (C : ∀ base : Heap, Cal P w K mg base "law" st a [y] k sp) :
    ∃ fd : FuncData, (∀ (s : Shared) (v : Value), BindsTo s fd ⟨[v], []⟩ [(y, v)]) ∧ ∀ base : Heap, K.In base → base.Ns mainGlobals mg → FnOk P w K mg base CX0 k fa fd [y] (LSp K 1 sp) := by
  obtain ⟨fd, F, M⟩ := D
  have e := hfa.symm.trans M
  cases e
  have B : ∀ (s : Shared) (v : Value), BindsTo s fd ⟨[v], []⟩ [(y, v)] := fun s v => by
    obtain ⟨oc, od, kV, doc, pm, an, cdv, ct, osl, rfl, lk, hcd⟩ := F.ex
    exact .of_eq (hb kV doc pm an cdv ct [v] rfl)
  refine ⟨fd, B, fun base _ _ => ?_⟩
  obtain ⟨fd', F', _, _, C⟩ := (C base).ex
  obtain ⟨oc, od, kV, doc, pm, an, cdv, ct, osl, rfl, lk, hcd⟩ := F.ex
  obtain ⟨oc', od', kV', doc', pm', an', cdv', ct', osl', rfl, lk', hcd'⟩ := F'.ex
  rw [lk] at lk'
  cases lk'
  exact C
end
end DL
set_option Elab.async false
set_option linter.all false
set_option maxRecDepth 100000
set_option maxHeartbeats 4000000
namespace DL
open PySem PySem.Spec PyProof.Rows L2
structure En (kk : Params → PySem.W.Frag) (P : Program) (w : World) (mg : Str → Option Value) (base : Heap) : Prop where
  x : ∃ h : Heap, (kk w.params).In h ∧ h.Ns mainGlobals mg
theorem nd_of {l : List Str} (h : decide l.Nodup = true) : l.Nodup := of_decide_eq_true h
section
variable {kk : Params → PySem.W.Frag} {P : Program} {w : World} {mg : Str → Option Value} {base : Heap}
theorem En.m (E : En kk P w mg base) {x : Str} {v : Value} (h : PySem.W.nsIn (kk w.params) mainGlobals x = some (some v)) : mg x = some v := let ⟨_, X, G⟩ := E.x; PySem.W.mg_of X G h
theorem En.z (E : En kk P w mg base) {x : Str} (h : PySem.W.nsIn (kk w.params) mainGlobals x = some none) : mg x = none := let ⟨_, X, G⟩ := E.x; PySem.W.mg_none_of X G h
theorem En.d (E : En kk P w mg base) {nm : Str} {st : Stmt} {f : Addr} (d : DefIn (kk w.params) (nm, st, f)) : Df (kk w.params) mg nm st f := let ⟨n, fd, F⟩ := d; ⟨fd, F, E.m n⟩
abbrev BodyT (kk : Params → PySem.W.Frag) (P : Program) (w : World) (mg : Str → Option Value) (base : Heap) (k : Nat) (N : List Str) (nm : Str) (st : Stmt) (a : Addr) (body : DS) : Prop := ∀ (cdv : Value) (A : Around) (outer : List Env) (s : Shared) (H : Hp) (E : XK), Room k (A.deeper (envOfC nm (defScope st) s.heap.objs.size a cdv)) → N.Nodup → QSs (cxOf CX0 P w (kk w.params) mg base N nm (defScope st) a cdv A outer s H E).nox (defBody st) (LS (kk w.params) body)
theorem calE (E : En kk P w mg base) {k : Nat} {N : List Str} {body : DS} {nm : Str} {st : Stmt} {a : Addr} {ps : List Str} {sp : DC} (hv : VcT ps N sp body) (hq : BodyT kk P w mg base k N nm st a body)
    (D : DefIn (kk w.params) (nm, st, a) := by exact di (by kernel_rfl) rfl (by kernel_rfl) (by kernel_rfl))
    (hb : BndT nm st ps := by first | exact fun _ _ _ _ _ _ => us_1 (by intros; rfl) | exact fun _ _ _ _ _ _ => us_2 (by intros; rfl) | exact fun _ _ _ _ _ _ => us_3 (by intros; rfl) | exact fun _ _ _ _ _ _ => us_4 (by intros; rfl) | exact fun _ _ _ _ _ _ => us_5 (by intros; rfl) | exact fun _ _ _ _ _ _ => us_6 (by intros; rfl) | exact fun _ _ _ _ _ _ => us_0 (by intros; rfl))
    (S : FnScope N ps (defScope st) := by exact ⟨rfl, rfl, rfl, by decide +kernel, rfl, by decide +kernel, by decide +kernel⟩) : Cal P w (kk w.params) mg base nm st a ps (k + 1) sp := cal_mk (E.d D) hb S hq hv
end
section
variable {X : Cx} {pos p apos : Pos} {nm N qual : Str} {st : Stmt} {a C : Addr} {ps : List Str} {k j n : Nat} {sp : DC} {e o : Expr} {es : List Expr} {ga : DA} {fo : DE}
theorem qcc (C : Cal X.prog X.w X.K X.mg X.base nm st a ps k sp) (hr : Room j X.A) (ha : QA X (e :: es) (LA X.K ga)) (hk : k ≤ j := by first | decide | omega) (hx : X.xe = fun _ _ => False := by rfl) (hg : Gl X nm := by rfl) (hdb : (nm == ("__debug__" : Str)) = false := by decide) (he : starEach (e :: es) X.env = (false, eval e X.env) :: starEach es X.env := by rfl) (hpl : (backTo pos (starEach es X.env)).any (·.1) = false := by rfl) (hn : ps.length = n := by rfl) :
    QE X (.Call (.Name nm p) (e :: es) [] pos) (LE X.K (dCall n sp ga)) := qca C (hr.mono hk) hx ha hg hdb he hpl hn
end
end DL
set_option Elab.async false
set_option linter.all false
set_option maxRecDepth 100000
set_option maxHeartbeats 4000000
namespace DL
open PySem PySem.Spec PyProof.Rows L2
structure XC1 (P : Program) (w : World) (K : PySem.W.Frag) (mg : Str → Option Value) (base : Heap) (N : Str) (fl : List Str) : Prop where
  ex : ∃ C fa fd ps, XKn K C N ∧ XMk K C ∧ PySem.W.keepIn K (.ref C) = true ∧ PySem.W.findIn K (.ref C) "__init__" = some (some (.ref fa)) ∧ PySem.W.typeIn K (.ref fa) = some (.type "function") ∧
    FnOk P w K mg base CX0 1 fa fd ps (initSp C fl) ∧ Binds K fd ps [] ∧ mg N = some (.ref C) ∧ ps.length ≤ 1000
structure XC0 (K : PySem.W.Frag) (mg : Str → Option Value) (N : Str) : Prop where
  ex : ∃ C, XKn K C N ∧ XMk0 K C ∧ PySem.W.keepIn K (.ref C) = true ∧ mg N = some (.ref C)
structure XTr (K : PySem.W.Frag) (mg : Str → Option Value) (cn : Str) (L : List Str) : Prop where
  ex : ∃ S, mg cn = some (.ref S) ∧ XCl K S ∧ xsub K S L = true
structure XIs (K : PySem.W.Frag) (mg : Str → Option Value) (T : Str) (L : List Str) (p : Str → Bool) : Prop where
  ex : ∃ S, mg T = some (.ref S) ∧ xall K L (fun C => PySem.W.kitOne K (.ref C) (.ref S)) p = true
section
variable {X : Cx} {N cn n T : Str} {fl L : List Str} {p pos cpos np hpos p1 p2 p3 : Pos} {a : Expr} {es : List Expr} {g : DA} {j i : Nat} {body suite : List Stmt} {b0 : Stmt} {tb ts : DS} {f : DE} {pr : Str → Bool} {nm : Str} {st : Stmt} {fa : Addr} {ps : List Str} {k m : Nat} {sp : DCx}
theorem qxr (C : XC1 X.prog X.w X.K X.mg X.base N fl) (hr : Room j X.A) (ha : QA X (a :: es) (LA X.K g)) (hk : 2 ≤ j := by decide) (hg : Gl X N := by rfl) (hc : X.calm = true := by rfl) (hx : X.xe = fun _ _ => False := by rfl)
    (hdb : (N == ("__debug__" : Str)) = false := by decide) (he : starEach (a :: es) X.env = (false, eval a X.env) :: starEach es X.env := by rfl) (hpl : (backTo cpos (starEach es X.env)).any (·.1) = false := by rfl) :
    QSx X (.Raise (some (.Call (.Name N p) (a :: es) [] cpos)) none pos) (LSx X.K (dRaise N fl g)) := by
  obtain ⟨C, fa, fd, ps, h1, h2, h3, h4, h5, h6, h7, h8, h9⟩ := C.ex
  exact qlsx_raise h1 h2 h3 h4 h5 h6 (hr.mono hk) h7 h8 ha h9 hg hc hx hdb he hpl
theorem qxr0 (C : XC0 X.K X.mg N) (ha : QA X (a :: es) (LA X.K g)) (hg : Gl X N := by rfl) (hc : X.calm = true := by rfl) (hx : X.xe = fun _ _ => False := by rfl)
    (hdb : (N == ("__debug__" : Str)) = false := by decide) (he : starEach (a :: es) X.env = (false, eval a X.env) :: starEach es X.env := by rfl) (hpl : (backTo cpos (starEach es X.env)).any (·.1) = false := by rfl) :
    QSx X (.Raise (some (.Call (.Name N p) (a :: es) [] cpos)) none pos) (LSx X.K (dRaise0 N g)) := by
  obtain ⟨C, h1, h2, h3, h4⟩ := C.ex
  exact qlsx_raise0 h1 h2 h3 h4 ha hg hc hx hdb he hpl
theorem qxt (C : XTr X.K X.mg cn L) (hN : X.N.Nodup) (hb : QSsx X body (LSx X.K tb)) (hs : ∀ e, QSs (hold X e) (b0 :: suite) (LS X.K ts)) (hi : X.N[i]? = some n := by rfl) (hl : X.env.scope.names.lookup n = some .local := by rfl) (hg : Gl X cn := by rfl)
    (hx : X.xe = fun _ _ => False := by rfl) (ot : OnTop X := by exact ⟨rfl, rfl⟩) (hdb : (cn == ("__debug__" : Str)) = false := by decide) :
    QS X (.Try body [.ExceptHandler (some (.Name cn np)) (some n) (b0 :: suite) hpos] [] [] pos) (LS X.K (dTry L i tb ts)) := by
  obtain ⟨S, h1, h2, h3⟩ := C.ex
  exact qls_try L hN hb hs h1 h2 h3 hi hl hg hx ot hdb
theorem qxi (C : XIs X.K X.mg T L pr) (hm : X.mg "isinstance" = none) (ha : QE X a (LE X.K f)) (hg : Gl X "isinstance" := by rfl) (hgT : Gl X T := by rfl) (hd : (T == ("__debug__" : Str)) = false := by decide)
    (he : starEach [a, .Name T p2] X.env = (false, eval a X.env) :: starEach [.Name T p2] X.env := by rfl) : QE X (.Call (.Name "isinstance" p1) [a, .Name T p2] [] pos) (LE X.K (dIsE L pr f)) := by
  obtain ⟨S, h1, h2⟩ := C.ex
  exact qle_isE hm h1 h2 ha hg hgT hd he
theorem qxc (C : CalX X.prog X.w X.K X.mg X.base nm st fa ps k sp) (hr : Room j X.A) (ha : QA X (a :: es) (LA X.K g)) (hk : k ≤ j := by decide) (hx : X.xe = fun _ _ => False := by rfl) (hg : Gl X nm := by rfl) (hdb : (nm == ("__debug__" : Str)) = false := by decide) (he : starEach (a :: es) X.env = (false, eval a X.env) :: starEach es X.env := by rfl) (hpl : (backTo pos (starEach es X.env)).any (·.1) = false := by rfl) (hn : ps.length = m := by rfl) :
    QEx X (.Call (.Name nm p) (a :: es) [] pos) (LEx X.K (dCallX m sp g)) := ⟨lex_call C hr ha.pe hk hx hg hdb he hpl hn⟩
end
section
variable {kk : Params → PySem.W.Frag} {P : Program} {w : World} {mg : Str → Option Value} {base : Heap} {K : PySem.W.Frag}
abbrev BodyX (kk : Params → PySem.W.Frag) (P : Program) (w : World) (mg : Str → Option Value) (base : Heap) (k : Nat) (N : List Str) (nm : Str) (st : Stmt) (a : Addr) (body : DS) : Prop := ∀ (cdv : Value) (A : Around) (outer : List Env) (s : Shared) (H : Hp) (E : XK), Room k (A.deeper (envOfC nm (defScope st) s.heap.objs.size a cdv)) → N.Nodup → QSsx (cxOf CX0 P w (kk w.params) mg base N nm (defScope st) a cdv A outer s H E).nox (defBody st) (LSx (kk w.params) body)
theorem calX (E : En kk P w mg base) {k : Nat} {N : List Str} {body : DS} {nm : Str} {st : Stmt} {a : Addr} {ps : List Str} {sp : DCx} (hv : VcX ps N sp body) (hq : BodyX kk P w mg base k N nm st a body)
    (D : DefIn (kk w.params) (nm, st, a) := by exact di (by kernel_rfl) rfl (by kernel_rfl) (by kernel_rfl))
    (hb : BndT nm st ps := by first | exact fun _ _ _ _ _ _ => us_1 (by intros; rfl) | exact fun _ _ _ _ _ _ => us_2 (by intros; rfl) | exact fun _ _ _ _ _ _ => us_3 (by intros; rfl) | exact fun _ _ _ _ _ _ => us_4 (by intros; rfl) | exact fun _ _ _ _ _ _ => us_5 (by intros; rfl) | exact fun _ _ _ _ _ _ => us_6 (by intros; rfl) | exact fun _ _ _ _ _ _ => us_0 (by intros; rfl))
    (S : FnScope N ps (defScope st) := by exact ⟨rfl, rfl, rfl, by decide +kernel, rfl, by decide +kernel, by decide +kernel⟩) : CalX P w (kk w.params) mg base nm st a ps (k + 1) sp := by
  obtain ⟨fd, F, M⟩ := E.d D
  exact ⟨fd, F, F.binds hb, M, fn_bodyx F S (fun cdv A outer s H E hr => (hq cdv A outer s H E hr S.nd).pe) hv⟩
theorem xkn {C : Addr} {N : Str} (c : (PySem.W.clsIn K C).any (fun cd => cd.hasDict && onlyV cd.mro) = true) (sa : PySem.W.findIn K (.ref C) "__setattr__" = some (some (.builtin "object.__setattr__"))) (ga : PySem.W.findIn K (.ref C) "__getattribute__" = some (some (.builtin "BaseException.__getattribute__")))
    (gh : PySem.W.findIn K (.ref C) "__getattr__" = some none) (ty : PySem.W.typeIn K (.ref C) = some (.type "type")) (ca : PySem.W.findIn K (.ref C) "__class__" = some (some (.builtin "object.__class__")))
    (cg : PySem.W.specialIn K (.builtin "object.__class__") "__get__" = some (some (.builtin "getset_descriptor.__get__"))) (ct : PySem.W.takesIn K (.builtin "object.__class__") = some true) (g : PySem.W.nsIn K mainGlobals N = some (some (.ref C))) : XKn K C N := by
  refine ⟨⟨⟨?_, sa, ga, gh, ty⟩, ca, cg, ct⟩, g⟩
  cases q : PySem.W.clsIn K C with
  | none => rw [q] at c; cases c
  | some cd =>
    rw [q] at c
    simp only [Option.any_some, Bool.and_eq_true] at c
    exact ⟨cd, rfl, c.1, c.2⟩
theorem xc1 {C fa : Addr} {N qual : Str} {fl : List Str} {st : Stmt} {oc : Value} {od an : Option Addr} {osl : Array (Option Value)} {kV doc pm cdv ct : Value} (E : En kk P w mg base) (c : XKn (kk w.params) C N) (m : XMk (kk w.params) C) {ps : List Str}
    (hF : Fun (kk w.params) "__init__" qual st fa (PySem.W.fnOf "__init__" qual (defArgs st) (defBody st) (defScope st) .none kV doc pm an cdv ct) → FnOk P w (kk w.params) mg base CX0 1 fa (PySem.W.fnOf "__init__" qual (defArgs st) (defBody st) (defScope st) .none kV doc pm an cdv ct) ps (initSp C fl))
    (hb : ∀ us : List Value, us.length = ps.length → bindArgs (PySem.W.fnOf "__init__" qual (defArgs st) (defBody st) (defScope st) .none kV doc pm an cdv ct) ⟨us, []⟩ = pure (ps.zip us)) (hl : ps.length ≤ 1000)
    (l : (kk w.params).lookup fa = some ⟨oc, od, .func (PySem.W.fnOf "__init__" qual (defArgs st) (defBody st) (defScope st) .none kV doc pm an cdv ct), osl⟩ := by exact rfl) (cc : PySem.W.codeIn (kk w.params) cdv qual = true := by kernel_rfl) (q : PySem.W.keepIn (kk w.params) (.ref fa) = true := by kernel_rfl)
    (kp : PySem.W.keepIn (kk w.params) (.ref C) = true := by kernel_rfl) (hi : PySem.W.findIn (kk w.params) (.ref C) "__init__" = some (some (.ref fa)) := by kernel_rfl) (hf : PySem.W.typeIn (kk w.params) (.ref fa) = some (.type "function") := by kernel_rfl) : XC1 P w (kk w.params) mg base N fl :=
  ⟨C, fa, _, ps, c, m, kp, hi, hf, hF (fun_mk l cc q), .all hb, E.m c.2, hl⟩
theorem xc0 {C : Addr} {N : Str} (E : En kk P w mg base) (c : XKn (kk w.params) C N) (m : XMk0 (kk w.params) C) (kp : PySem.W.keepIn (kk w.params) (.ref C) = true := by kernel_rfl) : XC0 (kk w.params) mg N := ⟨C, c, m, kp, E.m c.2⟩
end
theorem bootE_ValueError : bootBuiltins "ValueError" = some (.type "ValueError") := by decide +kernel
end DL
set_option Elab.async false
set_option linter.all false
set_option maxRecDepth 100000
set_option maxHeartbeats 4000000
namespace DL
open PySem PySem.Spec PyProof.Rows L2
section
variable {prog : Program} {w : World} {A : Around} {E : Value → Shared → Prop} {s : Shared}
end
section
variable {X : Cx} {a lo st : Expr} {f g h : DE} {pos p2 : Pos}
end
section
variable {X : Cx}
end
end DL
set_option linter.all false
set_option maxHeartbeats 1000000
namespace K01
open PySem PySem.Spec PyProof.Rows L2 DL
theorem log2_lt {n k : Nat} (h : n < 2 ^ k) (hk : 0 < k) : n.log2 < k := by
  by_cases hn : n = 0
  · subst hn
    simpa using hk
  · exact (Nat.log2_lt hn).mpr h
def Bd (n : Nat) (i : Int) : Prop := i.natAbs < 2 ^ n
theorem Bd.mono {m n : Nat} {i : Int} (h : Bd m i) (hl : m ≤ n) : Bd n i := Nat.lt_of_lt_of_le h (Nat.pow_le_pow_right (by decide) hl)
theorem Bd.add {n : Nat} {i j : Int} (h : Bd n i) (g : Bd n j) : Bd (n + 1) (i + j) := by
  unfold Bd at *
  have := Int.natAbs_add_le i j
  rw [Nat.pow_succ]
  omega
theorem Bd.neg {n : Nat} {i : Int} (h : Bd n i) : Bd n (-i) := by
  unfold Bd at *
  rw [Int.natAbs_neg]
  exact h
theorem Bd.sub {n : Nat} {i j : Int} (h : Bd n i) (g : Bd n j) : Bd (n + 1) (i - j) := by
  rw [Int.sub_eq_add_neg]
  exact h.add g.neg
theorem Bd.log {n : Nat} {i : Int} (h : Bd n i) (hn : 0 < n) : i.natAbs.log2 < n := log2_lt h hn
def fr (t b : Int) : PyData := .tuple [.int (t / (Int.gcd t b : Int)), .int (b / (Int.gcd t b : Int))]
end K01
set_option Elab.async false
set_option linter.all false
set_option maxRecDepth 100000
set_option maxHeartbeats 4000000
namespace K01
open PySem PySem.Spec PyProof.Rows L2 DL
section
variable {κ : Type} [DecidableEq κ]
end
def Sv (B w e : Nat) (p : PyData) : Prop := p.showable = true ∧ p.leavesShort B = true ∧ p.weight ≤ w ∧ p.depth ≤ e
theorem Sv.mono {B w e w' e' : Nat} {p : PyData} (h : Sv B w e p) (h1 : w ≤ w') (h2 : e ≤ e') : Sv B w' e' p := ⟨h.1, h.2.1, Nat.le_trans h.2.2.1 h1, Nat.le_trans h.2.2.2 h2⟩
theorem sv_all {B w e : Nat} : ∀ {xs : List PyData}, (∀ x ∈ xs, Sv B w e x) → PyData.showableAll xs = true ∧ PyData.leavesShortAll B xs = true ∧ PyData.weightAll xs ≤ (w + 1) * xs.length ∧ PyData.depthAll xs ≤ e
  | [], _ => by simp [PyData.showableAll, PyData.leavesShortAll, PyData.weightAll, PyData.depthAll]
  | x :: xs, h => by
    obtain ⟨i1, i2, i3, i4⟩ := sv_all fun y hy => h y (List.mem_cons_of_mem _ hy)
    obtain ⟨s1, s2, s3, s4⟩ := h x List.mem_cons_self
    refine ⟨?_, ?_, ?_, ?_⟩
    · simp only [PyData.showableAll, i1, s1, Bool.and_self]
    · simp only [PyData.leavesShortAll, i2, s2, Bool.and_self]
    · simp only [PyData.weightAll, List.length_cons]
      rw [Nat.mul_add]
      omega
    · simp only [PyData.depthAll]
      omega
theorem sv_tup {B w e n : Nat} {xs : List PyData} (h : ∀ x ∈ xs, Sv B w e x) (hn : xs.length ≤ n) : Sv B ((w + 1) * n) (e + 1) (.tuple xs) := by
  obtain ⟨i1, i2, i3, i4⟩ := sv_all h
  refine ⟨by simpa only [PyData.showable] using i1, by rw [PyData.leavesShort]; exact i2, ?_, ?_⟩
  · simp only [PyData.weight]
    exact Nat.le_trans i3 (Nat.mul_le_mul_left _ hn)
  · simp only [PyData.depth]
    omega
theorem sv_list {B w e n : Nat} {xs : List PyData} (h : ∀ x ∈ xs, Sv B w e x) (hn : xs.length ≤ n) : Sv B ((w + 1) * n) (e + 1) (.list xs) := by
  obtain ⟨i1, i2, i3, i4⟩ := sv_all h
  refine ⟨by simpa only [PyData.showable] using i1, by rw [PyData.leavesShort]; exact i2, ?_, ?_⟩
  · simp only [PyData.weight]
    exact Nat.le_trans i3 (Nat.mul_le_mul_left _ hn)
  · simp only [PyData.depth]
    omega
theorem sv_str {B w : Nat} {z : Str} (h1 : z.cps.toList.all (fun c => decide (c < 1114112)) = true) (h2 : z.length ≤ w) : Sv B w 1 (.str z) := by
  refine ⟨by simp [PyData.showable], ?_, by simp only [PyData.weight]; exact h2, by simp [PyData.depth]⟩
  unfold PyData.leavesShort
  rw [List.all_eq_true]
  intro c hc
  have := List.all_eq_true.mp h1 c hc
  simp at this
  exact decide_eq_true (Nat.lt_trans this (by decide))
theorem sv_bool {B w : Nat} (b : Bool) : Sv B w 1 (.bool b) := ⟨by cases b <;> rfl, by rw [PyData.leavesShort], by simp [PyData.weight], by simp [PyData.depth]⟩
theorem sv_none {B w : Nat} : Sv B w 1 .none := ⟨rfl, by rw [PyData.leavesShort], by simp [PyData.weight], by simp [PyData.depth]⟩
theorem sv_int {n B w : Nat} {i : Int} (h : Bd n i) (n0 : 0 < n) (hn : n ≤ 1900) (hw : n ≤ w) (hB : n ≤ 3 * B - 3) (hB1 : 2 ≤ B) : Sv B w 1 (.int i) := by
  have lg := h.log n0
  refine ⟨?_, ?_, ?_, by simp [PyData.depth]⟩
  · simp only [PyData.showable, decide_eq_true_eq]
    exact Nat.lt_of_lt_of_le lg (Nat.le_trans hn (by decide))
  · simp only [PyData.leavesShort, decide_eq_true_eq]
    have q : i.natAbs < 10 ^ (B - 1) := by
      refine Nat.lt_of_lt_of_le h (Nat.le_trans (Nat.pow_le_pow_right (by decide) (show n ≤ 3 * (B - 1) by omega)) ?_)
      rw [Nat.pow_mul]
      exact Nat.pow_le_pow_left (by decide) _
    have e := int_text_length_le10 (k := B - 1) (by omega) q
    show (Str.ofString (toString i)).length ≤ B
    rw [PySem.ofString_length]
    omega
  · simp only [PyData.weight]
    split <;> omega
theorem sv_fits {B w e : Nat} {p : PyData} (h : Sv B w e p) (hB : 8 ≤ B) (hw : (B + 2) * w + B ≤ 16777216) (he : e ≤ 100) : p.showable = true ∧ p.shown.length ≤ sizeLine ∧ p.depth ≤ 100 := by
  refine ⟨h.1, ?_, Nat.le_trans h.2.2.2 he⟩
  have q := PyData.shown_le B hB p h.2.1
  have q2 := Nat.mul_le_mul_left (B + 2) h.2.2.1
  rw [sizeLine_eq]
  omega
end K01
set_option Elab.async false
set_option linter.all false
set_option maxRecDepth 100000
set_option maxHeartbeats 4000000
namespace K97
open PySem PySem.Spec PyProof.Rows L2 DL K01
abbrev I (i : Int) : D := .dat (.int i)
abbrev sI (ns : List Int) : D := .dat (.list (ns.map .int))
def exN : Nat → Str
  | 0 => "NoText"
  | 1 => "NoPaper"
  | 2 => "NoPlain"
  | 3 => "TooMany"
  | 4 => "NoSpan"
  | 5 => "NoClash"
  | 6 => "NoThing"
  | 7 => "NoSaying"
  | 8 => "NoLevel"
  | 9 => "NoNumber"
  | _ => "NoRow"
def exF (n wd p : PyData) : Nat → List (Str × PyData)
  | 0 => [("row", n), ("word", wd)]
  | 1 => [("path", p), ("word", wd)]
  | 2 => [("number", n)]
  | 3 => [("word", wd)]
  | 4 => [("word", wd)]
  | 5 => [("word", wd), ("number", n)]
  | 6 => [("name", wd)]
  | _ => []
def exD (n wd p : PyData) (w : Nat) : PyData := exc (exN w) (exF n wd p w)
def knd (w : Nat) : PyData := .list ((List.range 11).map fun j => .bool (decide (j = w)))
def sp__law_cell : DC := fun ds m R => ∃ (ns : List Int) (k : Int), ds = [sI ns, I k] ∧ ns.length ≤ 63 ∧ ∀ i, R (I i) m
def sp__law_raise : DCx := fun ds m R RX => ∃ (w : Nat) (n wd p : PyData), ds = [I (w : Nat), .dat n, .dat wd, .dat p] ∧ w < 11 ∧ RX (exN w) (exF n wd p w) m
def sp__law_taken : DC := fun ds m R => ∃ (w : Nat) (n wd p : PyData), ds = [I (w : Nat), .dat n, .dat wd, .dat p] ∧ w < 11 ∧ R (.dat (exD n wd p w)) m
def sp__law_kinds : DC := fun ds m R => ∃ (w : Nat) (n wd p : PyData), ds = [.dat (exD n wd p w)] ∧ w < 11 ∧ R (.dat (knd w)) m
def sp_law : DC := fun ds m R => ∃ ns : List Int, ds = [sI ns] ∧ ns.length ≤ 63 ∧ ∀ m', R (.dat (.bool true)) m'
end K97
set_option Elab.async false
set_option linter.all false
set_option maxRecDepth 100000
set_option maxHeartbeats 4000000
namespace K97
open PySem PySem.Spec PyProof.Rows L2 DL
-- ranks: _law_cell 1, _law_raise 3, _law_taken 4, _law_kinds 1, law 5
def top (i : Nat) : Stmt := PySem.Challenge.pw_whens_k97_refusals_apart.main.body.getD i (.Pass ⟨0, 0, 0, 0⟩)
abbrev xL : List Str := ["NoRow", "NoText", "NoPaper", "NoPlain", "TooMany", "NoSpan", "NoClash", "NoThing", "NoSaying", "NoLevel", "NoNumber"]
def px_NoPlain (N : Str) : Bool := (["NoPlain"] : List Str).contains N
def px_NoPaper (N : Str) : Bool := (["NoPaper"] : List Str).contains N
def px_NoText (N : Str) : Bool := (["NoText"] : List Str).contains N
def px_NoClash (N : Str) : Bool := (["NoClash"] : List Str).contains N
def px_NoSpan (N : Str) : Bool := (["NoSpan"] : List Str).contains N
def px_TooMany (N : Str) : Bool := (["TooMany"] : List Str).contains N
def px_NoLevel (N : Str) : Bool := (["NoLevel"] : List Str).contains N
def px_NoSaying (N : Str) : Bool := (["NoSaying"] : List Str).contains N
def px_NoThing (N : Str) : Bool := (["NoThing"] : List Str).contains N
def px_NoRow (N : Str) : Bool := (["NoRow"] : List Str).contains N
def px_NoNumber (N : Str) : Bool := (["NoNumber"] : List Str).contains N
abbrev s__law_cell : Stmt := top 14
abbrev N__law_cell : List Str := ["_law_script", "_law_k"]
abbrev p__law_cell : List Str := ["_law_script", "_law_k"]
def b__law_cell : DS := (dSeq (dRet (dIte (dTst (dBin aGt (dCallB bLen (dCons (dVar 0) dNil)) (dCon (.int 0)))) (dBin aIx (dVar 0) (dBin aMod (dVar 1) (dCallB bLen (dCons (dVar 0) dNil)))) (dVar 1))) dNext)
abbrev s__law_raise : Stmt := top 15
abbrev N__law_raise : List Str := ["_law_way", "_law_number", "_law_word", "_law_path"]
abbrev p__law_raise : List Str := ["_law_way", "_law_number", "_law_word", "_law_path"]
def b__law_raise_10 : DS := (dSeq (dRaise0 "NoRow" (dCons (dCon (.str "z")) dNil)) dNext)
def b__law_raise_9 : DS := (dSeq (dIf (dTst (dBin aEq (dVar 0) (dCon (.int 9)))) (dSeq (dRaise0 "NoNumber" (dCons (dCon (.str "")) dNil)) dNext) dNext) b__law_raise_10)
def b__law_raise_8 : DS := (dSeq (dIf (dTst (dBin aEq (dVar 0) (dCon (.int 8)))) (dSeq (dRaise0 "NoLevel" (dCons (dCon (.str "y")) dNil)) dNext) dNext) b__law_raise_9)
def b__law_raise_7 : DS := (dSeq (dIf (dTst (dBin aEq (dVar 0) (dCon (.int 7)))) (dSeq (dRaise0 "NoSaying" (dCons (dCon (.str "x")) dNil)) dNext) dNext) b__law_raise_8)
def b__law_raise_6 : DS := (dSeq (dIf (dTst (dBin aEq (dVar 0) (dCon (.int 6)))) (dSeq (dRaise "NoThing" ["name"] (dCons (dVar 2) dNil)) dNext) dNext) b__law_raise_7)
def b__law_raise_5 : DS := (dSeq (dIf (dTst (dBin aEq (dVar 0) (dCon (.int 5)))) (dSeq (dRaise "NoClash" ["word", "number"] (dCons (dVar 2) (dCons (dVar 1) dNil))) dNext) dNext) b__law_raise_6)
def b__law_raise_4 : DS := (dSeq (dIf (dTst (dBin aEq (dVar 0) (dCon (.int 4)))) (dSeq (dRaise "NoSpan" ["word"] (dCons (dVar 2) dNil)) dNext) dNext) b__law_raise_5)
def b__law_raise_3 : DS := (dSeq (dIf (dTst (dBin aEq (dVar 0) (dCon (.int 3)))) (dSeq (dRaise "TooMany" ["word"] (dCons (dVar 2) dNil)) dNext) dNext) b__law_raise_4)
def b__law_raise_2 : DS := (dSeq (dIf (dTst (dBin aEq (dVar 0) (dCon (.int 2)))) (dSeq (dRaise "NoPlain" ["number"] (dCons (dVar 1) dNil)) dNext) dNext) b__law_raise_3)
def b__law_raise_1 : DS := (dSeq (dIf (dTst (dBin aEq (dVar 0) (dCon (.int 1)))) (dSeq (dRaise "NoPaper" ["path", "word"] (dCons (dVar 3) (dCons (dVar 2) dNil))) dNext) dNext) b__law_raise_2)
def b__law_raise : DS := (dSeq (dIf (dTst (dBin aEq (dVar 0) (dCon (.int 0)))) (dSeq (dRaise "NoText" ["row", "word"] (dCons (dVar 1) (dCons (dVar 2) dNil))) dNext) dNext) b__law_raise_1)
abbrev s__law_taken : Stmt := top 16
abbrev N__law_taken : List Str := ["_law_way", "_law_number", "_law_word", "_law_path", "_law_caught", "_law_e"]
abbrev p__law_taken : List Str := ["_law_way", "_law_number", "_law_word", "_law_path"]
def b__law_taken_2 : DS := (dSeq (dRet (dVar 4)) dNext)
def b__law_taken_1 : DS := (dSeq (dTry xL 5 (dSeq (dExprX (dCallX 4 sp__law_raise (dCons (dVar 0) (dCons (dVar 1) (dCons (dVar 2) (dCons (dVar 3) dNil)))))) dNext) (dSeq (dSet 4 (dVar 5)) dNext)) b__law_taken_2)
def b__law_taken : DS := (dSeq (dSet 4 (dCon .none)) b__law_taken_1)
abbrev s__law_kinds : Stmt := top 17
abbrev N__law_kinds : List Str := ["_law_e", "_law_some"]
abbrev p__law_kinds : List Str := ["_law_e"]
def b__law_kinds_3 : DS := (dSeq (dRet (dBin aAdd (dVar 1) (dLst (dCons (dIsE xL px_NoNumber (dVar 0)) (dCons (dIsE xL px_NoRow (dVar 0)) dNil))))) dNext)
def b__law_kinds_2 : DS := (dSeq (dSet 1 (dBin aAdd (dVar 1) (dLst (dCons (dIsE xL px_NoThing (dVar 0)) (dCons (dIsE xL px_NoSaying (dVar 0)) (dCons (dIsE xL px_NoLevel (dVar 0)) dNil)))))) b__law_kinds_3)
def b__law_kinds_1 : DS := (dSeq (dSet 1 (dBin aAdd (dVar 1) (dLst (dCons (dIsE xL px_TooMany (dVar 0)) (dCons (dIsE xL px_NoSpan (dVar 0)) (dCons (dIsE xL px_NoClash (dVar 0)) dNil)))))) b__law_kinds_2)
def b__law_kinds : DS := (dSeq (dSet 1 (dLst (dCons (dIsE xL px_NoText (dVar 0)) (dCons (dIsE xL px_NoPaper (dVar 0)) (dCons (dIsE xL px_NoPlain (dVar 0)) dNil))))) b__law_kinds_1)
abbrev s_law : Stmt := top 18
abbrev N_law : List Str := ["_law_script", "_law_number", "_law_word", "_law_path", "_law_made", "_law_k", "_law_found"]
abbrev p_law : List Str := ["_law_script"]
def b_law_B0_1 : DS := (dSeq (dSet 3 (dBin aIx (dLst (dCons (dCon .none) (dCons (dCon (.str "at")) (dCons (dCon (.int 7)) (dCons (dLst (dCons (dCon (.str "a")) dNil)) dNil))))) (dBin aMod (dCall 2 sp__law_cell (dCons (dVar 0) (dCons (dCon (.int 5)) dNil))) (dCon (.int 4))))) dNext)
def b_law_B0 : DS := (dSeq (dSet 1 (dBin aIx (dLst (dCons (dCon .none) (dCons (dCon (.str "at")) (dCons (dTup dNil) (dCons (dLst (dCons (dCon (.str "a")) dNil)) dNil))))) (dBin aMod (dCall 2 sp__law_cell (dCons (dVar 0) (dCons (dCon (.int 4)) dNil))) (dCon (.int 4))))) b_law_B0_1)
def b_law_L0 : DS := (dSeq (dIf (dOrT (dNotT (dTst (dIsE xL (fun _ => true) (dBin aIx (dVar 4) (dVar 5))))) (dTst (dBin aNe (dCall 1 sp__law_kinds (dCons (dBin aIx (dVar 4) (dVar 5)) dNil)) (dLC [none, some 5] (dRngI (dCon (.int 11))) (gN 0) dTrue (dBin aEq (dVar 0) (dVar 1)))))) (dSeq (dRet (dCon (.bool false))) dNext) dNext) dNext)
def b_law_9 : DS := (dSeq (dRet (dBin aEq (dCallB bRepr (dCons (dVar 6) dNil)) (dCallB bRepr (dCons (dLst (dCons (dVar 3) (dCons (dVar 2) (dCons (dVar 2) (dCons (dVar 2) (dCons (dVar 2) (dCons (dVar 2) dNil))))))) dNil)))) dNext)
def b_law_8 : DS := (dSeq (dSet 6 (dLst (dCons (dXFld ["NoPaper"] "path" (dBin aIx (dVar 4) (dCon (.int 1)))) (dCons (dXFld ["NoThing"] "name" (dBin aIx (dVar 4) (dCon (.int 6)))) (dCons (dXFld ["NoText", "NoPaper", "TooMany", "NoSpan", "NoClash"] "word" (dBin aIx (dVar 4) (dCon (.int 1)))) (dCons (dXFld ["NoText", "NoPaper", "TooMany", "NoSpan", "NoClash"] "word" (dBin aIx (dVar 4) (dCon (.int 3)))) (dCons (dXFld ["NoText", "NoPaper", "TooMany", "NoSpan", "NoClash"] "word" (dBin aIx (dVar 4) (dCon (.int 4)))) (dCons (dXFld ["NoText", "NoPaper", "TooMany", "NoSpan", "NoClash"] "word" (dBin aIx (dVar 4) (dCon (.int 5)))) dNil)))))))) b_law_9)
def b_law_7 : DS := (dSeq (dIf (dTst (dBin aNe (dCallB bRepr (dCons (dVar 6) dNil)) (dCallB bRepr (dCons (dLst (dCons (dVar 1) (dCons (dVar 2) (dCons (dVar 1) (dCons (dVar 1) dNil))))) dNil)))) (dSeq (dRet (dCon (.bool false))) dNext) dNext) b_law_8)
def b_law_6 : DS := (dSeq (dSet 6 (dLst (dCons (dXFld ["NoText"] "row" (dBin aIx (dVar 4) (dCon (.int 0)))) (dCons (dXFld ["NoText", "NoPaper", "TooMany", "NoSpan", "NoClash"] "word" (dBin aIx (dVar 4) (dCon (.int 0)))) (dCons (dXFld ["NoPlain", "NoClash"] "number" (dBin aIx (dVar 4) (dCon (.int 2)))) (dCons (dXFld ["NoPlain", "NoClash"] "number" (dBin aIx (dVar 4) (dCon (.int 5)))) dNil)))))) b_law_7)
def b_law_5 : DS := (dSeq (dFor (dRngI (dCon (.int 11))) (gN 5) b_law_L0) b_law_6)
def b_law_4 : DS := (dSeq (dSet 4 (dLC [none, some 1, some 2, some 3] (dRngI (dCon (.int 11))) (gN 0) dTrue (dCall 4 sp__law_taken (dCons (dVar 0) (dCons (dVar 1) (dCons (dVar 2) (dCons (dVar 3) dNil))))))) b_law_5)
def b_law_3 : DS := (dSeq (dIf (dTst (dBin aEq (dBin aMod (dCall 2 sp__law_cell (dCons (dVar 0) (dCons (dCon (.int 3)) dNil))) (dCon (.int 3))) (dCon (.int 0)))) b_law_B0 dNext) b_law_4)
def b_law_2 : DS := (dSeq (dSet 3 (dCallB bTuple (dCons (dLC [none, some 0] (dRngI (dBin aMod (dCall 2 sp__law_cell (dCons (dVar 0) (dCons (dCon (.int 2)) dNil))) (dCon (.int 5)))) (gN 0) dTrue (dBin aMod (dCall 2 sp__law_cell (dCons (dVar 1) (dCons (dVar 0) dNil))) (dCon (.int 7)))) dNil))) b_law_3)
def b_law_1 : DS := (dSeq (dSet 2 (dBin aIx (dLst (dCons (dCon (.str "shape")) (dCons (dCon (.str "step")) (dCons (dCon (.str "open")) (dCons (dCon (.str "answer")) (dCons (dCon (.str "")) (dCons (dCon .none) (dCons (dLst (dCons (dCon (.str "a")) dNil)) (dCons (dCon (.bool true)) dNil))))))))) (dBin aMod (dCall 2 sp__law_cell (dCons (dVar 0) (dCons (dCon (.int 1)) dNil))) (dCon (.int 8))))) b_law_2)
def b_law : DS := (dSeq (dSet 1 (dBin aMod (dCall 2 sp__law_cell (dCons (dVar 0) (dCons (dCon (.int 0)) dNil))) (dCon (.int 1000)))) b_law_1)
end K97
namespace K97
open PySem PySem.Spec PyProof.Rows L2 DL
section
variable {P : Program} {w : World} {K : PySem.W.Frag} {mg : Str → Option Value} {base : Heap}
end
end K97
set_option Elab.async false
set_option linter.all false
set_option maxRecDepth 100000
set_option maxHeartbeats 4000000
namespace K97
open PySem PySem.Spec PyProof.Rows L2 DL K01
abbrev EN (R : DK) : Ends2 := { nx := fun _ m => R (.dat .none) m, rt := R }
theorem sz {n : Nat} (h : n ≤ 1000) : n ≤ sizeLine := Nat.le_trans h (by rw [sizeLine_eq]; decide)
theorem at_ints {ns : List Int} {i : Int} (h0 : 0 ≤ i) (h : i < (ns.length : Int)) : ∃ v : Int, atI (ns.map PyData.int) i = some (.int v) := by
  obtain ⟨k, rfl⟩ : ∃ k : Nat, i = k := ⟨i.toNat, by omega⟩
  have hk : k < ns.length := by omega
  exact ⟨ns[k], atI_nat (by rw [List.getElem?_map, List.getElem?_eq_getElem hk] <;> rfl)⟩
theorem vc__law_cell : VcT p__law_cell N__law_cell sp__law_cell b__law_cell := by
  rintro ds m R hl ⟨ns, k, rfl, hn, h⟩
  by_cases hz : ns = []
  · subst hz
    simp [b__law_cell]
    exact h _
  · have hp : (0 : Int) < ns.length := by
      have : ns.length ≠ 0 := fun e => hz (List.length_eq_zero_iff.mp e)
      omega
    obtain ⟨v, hv⟩ := at_ints (ns := ns) (i := k.fmod ns.length) (Int.fmod_nonneg_of_pos _ hp) (Int.fmod_lt_of_pos _ hp)
    have hp' : 0 < ns.length := by omega
    simp [b__law_cell, hp', hz]
    exact ⟨_, hv, h _⟩
theorem exN_mem : ∀ w < 11, exN w ∈ xL := by decide
theorem vc__law_raise : VcX p__law_raise N__law_raise sp__law_raise b__law_raise := by
  rintro ds m R RX hl ⟨w, n, wd, p, rfl, hw, h⟩
  match w, hw, h with
  | 0, _, h => simp [b__law_raise, PyData.eqv, PyData.canLay0, PyData.depth]; exact h
  | 1, _, h => simp [b__law_raise, b__law_raise_1, PyData.eqv, PyData.canLay0, PyData.depth]; exact h
  | 2, _, h => simp [b__law_raise, b__law_raise_1, b__law_raise_2, PyData.eqv, PyData.canLay0, PyData.depth]; exact h
  | 3, _, h => simp [b__law_raise, b__law_raise_1, b__law_raise_2, b__law_raise_3, PyData.eqv, PyData.canLay0, PyData.depth]; exact h
  | 4, _, h => simp [b__law_raise, b__law_raise_1, b__law_raise_2, b__law_raise_3, b__law_raise_4, PyData.eqv, PyData.canLay0, PyData.depth]; exact h
  | 5, _, h => simp [b__law_raise, b__law_raise_1, b__law_raise_2, b__law_raise_3, b__law_raise_4, b__law_raise_5, PyData.eqv, PyData.canLay0, PyData.depth]; exact h
  | 6, _, h => simp [b__law_raise, b__law_raise_1, b__law_raise_2, b__law_raise_3, b__law_raise_4, b__law_raise_5, b__law_raise_6, PyData.eqv, PyData.canLay0, PyData.depth]; exact h
  | 7, _, h => simp [b__law_raise, b__law_raise_1, b__law_raise_2, b__law_raise_3, b__law_raise_4, b__law_raise_5, b__law_raise_6, b__law_raise_7, PyData.eqv, PyData.canLay0, PyData.depth]; exact h
  | 8, _, h => simp [b__law_raise, b__law_raise_1, b__law_raise_2, b__law_raise_3, b__law_raise_4, b__law_raise_5, b__law_raise_6, b__law_raise_7, b__law_raise_8, PyData.eqv, PyData.canLay0, PyData.depth]; exact h
  | 9, _, h => simp [b__law_raise, b__law_raise_1, b__law_raise_2, b__law_raise_3, b__law_raise_4, b__law_raise_5, b__law_raise_6, b__law_raise_7, b__law_raise_8, b__law_raise_9, PyData.eqv, PyData.canLay0, PyData.depth]; exact h
  | 10, _, h => simp [b__law_raise, b__law_raise_1, b__law_raise_2, b__law_raise_3, b__law_raise_4, b__law_raise_5, b__law_raise_6, b__law_raise_7, b__law_raise_8, b__law_raise_9, b__law_raise_10, PyData.eqv, PyData.canLay0, PyData.depth]; exact h
theorem vc__law_taken : VcT p__law_taken N__law_taken sp__law_taken b__law_taken := by
  rintro ds m R hl ⟨w, n, wd, p, rfl, hw, h⟩
  show b__law_taken_1 (EN R) [some (I w), some (.dat n), some (.dat wd), some (.dat p), some (.dat .none), none] m
  refine ⟨_, rfl, _, rfl, _, rfl, _, rfl, rfl, w, n, wd, p, rfl, hw, exN_mem w hw, _, rfl, ?_⟩
  show b__law_taken_2 (EN R) [some (I w), some (.dat n), some (.dat wd), some (.dat p), some (.dat (exD n wd p w)), none] m
  exact ⟨_, rfl, h⟩
theorem knd_is : ∀ w < 11, [px_NoText (exN w), px_NoPaper (exN w), px_NoPlain (exN w), px_TooMany (exN w), px_NoSpan (exN w), px_NoClash (exN w), px_NoThing (exN w), px_NoSaying (exN w), px_NoLevel (exN w), px_NoNumber (exN w), px_NoRow (exN w)] = (List.range 11).map fun j => decide (j = w) := by decide
theorem vc__law_kinds : VcT p__law_kinds N__law_kinds sp__law_kinds b__law_kinds := by
  rintro ds m R hl ⟨w, n, wd, p, rfl, hw, h⟩
  have mw := exN_mem w hw
  refine ⟨_, rfl, _, _, rfl, mw, _, rfl, _, _, rfl, mw, _, rfl, _, _, rfl, mw, _, rfl, (sz (by decide) : 3 ≤ sizeLine), ?_⟩
  refine ⟨_, rfl, _, rfl, _, _, rfl, mw, _, rfl, _, _, rfl, mw, _, rfl, _, _, rfl, mw, _, rfl, (sz (by decide) : 3 ≤ sizeLine), (sz (by decide) : 3 + 3 ≤ sizeLine), ?_⟩
  refine ⟨_, rfl, _, rfl, _, _, rfl, mw, _, rfl, _, _, rfl, mw, _, rfl, _, _, rfl, mw, _, rfl, (sz (by decide) : 3 ≤ sizeLine), (sz (by decide) : 6 + 3 ≤ sizeLine), ?_⟩
  refine ⟨_, rfl, _, rfl, _, _, rfl, mw, _, rfl, _, _, rfl, mw, _, rfl, (sz (by decide) : 2 ≤ sizeLine), (sz (by decide) : 9 + 2 ≤ sizeLine), ?_⟩
  have e := congrArg (List.map PyData.bool) (knd_is w hw)
  rw [List.map_map] at e
  unfold knd at h
  rw [show ((fun j => PyData.bool (decide (j = w))) : Nat → PyData) = PyData.bool ∘ fun j => decide (j = w) from rfl, ← e] at h
  exact h
end K97
set_option Elab.async false
set_option linter.all false
set_option maxRecDepth 100000
set_option maxHeartbeats 4000000
namespace K97
open PySem PySem.Spec PyProof.Rows L2 DL K01
theorem ints_drop {n i : Nat} (h : i < n) : (intsD 0 n).drop i = I (i : Int) :: (intsD 0 n).drop (i + 1) := by
  have hl : i < (intsD 0 n).length := by unfold intsD; simpa using h
  rw [List.drop_eq_getElem_cons hl]
  congr 1
  unfold intsD
  simp
theorem ints_end {n : Nat} : (intsD 0 n).drop n = [] := by
  rw [List.drop_eq_nil_iff]
  unfold intsD
  simp
theorem loopC_by {g : DG} {t : DT} {f : DE} {Q : List PyData → Mu → Prop} (J : List D → List PyData → St2 → Mu → Prop) (fin : ∀ acc d m, J [] acc d m → Q acc m)
    (step : ∀ x xs acc d m (k : List PyData → St2 → Mu → Prop), J (x :: xs) acc d m → (∀ acc' d' m', J xs acc' d' m' → k acc' d' m') → g x d m fun d1 m1 => t d1 m1 fun b m2 => if b = true then f d1 m2 fun y m3 => ∃ p, y = .dat p ∧ acc.length < sizeLine ∧ k (acc ++ [p]) d1 m3 else k acc d1 m2) :
    ∀ xs acc d m, J xs acc d m → loopC g t f xs acc d m Q
  | [], acc, d, m, h => fin acc d m h
  | x :: xs, acc, d, m, h => step x xs acc d m (fun acc' d' m' => loopC g t f xs acc' d' m' Q) h (loopC_by J fin step xs)
theorem loopC_rng {g : DG} {t : DT} {f : DE} {Q : List PyData → Mu → Prop} {n : Nat} (J : Nat → List PyData → St2 → Mu → Prop) (fin : ∀ acc d m, J n acc d m → Q acc m)
    (step : ∀ i acc d m (k : List PyData → St2 → Mu → Prop), i < n → J i acc d m → (∀ acc' d' m', J (i + 1) acc' d' m' → k acc' d' m') → g (I (i : Int)) d m fun d1 m1 => t d1 m1 fun b m2 => if b = true then f d1 m2 fun y m3 => ∃ p, y = .dat p ∧ acc.length < sizeLine ∧ k (acc ++ [p]) d1 m3 else k acc d1 m2) :
    ∀ acc d m, J 0 acc d m → loopC g t f (intsD 0 n) acc d m Q := by
  intro acc d m h
  refine loopC_by (fun rest acc d m => ∃ i, i ≤ n ∧ rest = (intsD 0 n).drop i ∧ J i acc d m) ?_ ?_ _ _ _ _ ⟨0, Nat.zero_le _, rfl, h⟩
  · rintro acc d m ⟨i, hi, e, hj⟩
    have : i = n := by
      have := congrArg List.length e
      unfold intsD at this
      simp at this
      omega
    subst this
    exact fin _ _ _ hj
  · rintro x xs acc d m k ⟨i, hi, e, hj⟩ hk
    have hlt : i < n := by
      have := congrArg List.length e
      unfold intsD at this
      simp at this
      omega
    rw [ints_drop hlt] at e
    obtain ⟨rfl, rfl⟩ := List.cons.inj e
    exact step i acc d m k hlt hj fun acc' d' m' h' => hk _ _ _ ⟨i + 1, hlt, rfl, h'⟩
theorem loopL_rng {g : DG} {b : DS} {E : Ends2} {n : Nat} (J : Nat → St2 → Mu → Prop) (hd : ∀ d m, J n d m → E.nx d m)
    (step : ∀ i, i < n → ∀ (k : St2 → Mu → Prop), (∀ d m, J (i + 1) d m → k d m) → ∀ d m, J i d m → g (I (i : Int)) d m fun d' m' => b { E with nx := k, ct := k, bk := E.nx } d' m') : ∀ d m, J 0 d m → loopL g b E (intsD 0 n) d m := by
  have key : ∀ (r i : Nat), r + i = n → ∀ d m, J i d m → loopL g b E ((intsD 0 n).drop i) d m := by
    intro r
    induction r with
    | zero =>
      intro i hi d m hj
      have : i = n := by omega
      subst this
      rw [ints_end]
      exact hd d m hj
    | succ r ih =>
      intro i hi d m hj
      rw [ints_drop (by omega)]
      exact step i (by omega) _ (ih (i + 1) (by omega)) d m hj
  intro d m h
  have := key n 0 (by omega) d m h
  simpa using this
theorem iteB {c : Bool} {a b : Prop} (ha : a) (hb : b) : if c = true then a else b := by cases c <;> simpa
theorem ite_f {c : Bool} {a b : Prop} (h : c = false) (hb : b) : if c = true then a else b := by rw [h]; exact hb
theorem at_mem {xs : List PyData} {k : Int} (h0 : 0 ≤ k) (h1 : k < (xs.length : Int)) : ∃ x, x ∈ xs ∧ atI xs k = some x := by
  obtain ⟨j, rfl⟩ : ∃ j : Nat, k = j := ⟨k.toNat, by omega⟩
  have hj : j < xs.length := by omega
  exact ⟨xs[j], List.getElem_mem hj, atI_nat (List.getElem?_eq_getElem hj)⟩
abbrev Ok1 (p : PyData) : Prop := Sv 8 100 3 p
theorem ok_str {z : Str} (h : z ∈ (["shape", "step", "open", "answer", "", "at", "a"] : List Str)) : Sv 8 20 1 (.str z) := by
  have key : ∀ z ∈ (["shape", "step", "open", "answer", "", "at", "a"] : List Str), z.cps.toList.all (fun c => decide (c < 1114112)) = true ∧ z.length ≤ 20 := by decide
  exact sv_str (key z h).1 (key z h).2
theorem ok_int {i : Int} (h0 : 0 ≤ i) (h1 : i < 1000) : Sv 8 20 1 (.int i) := sv_int (n := 10) (by unfold Bd; omega) (by decide) (by decide) (by decide) (by decide) (by decide)
theorem Sv.up {p : PyData} (h : Sv 8 20 1 p) : Ok1 p := h.mono (by decide) (by decide)
theorem ok_la : Ok1 (.list [.str "a"]) := (sv_list (n := 1) (fun x hx => by rw [List.mem_singleton.mp hx]; exact ok_str (by decide)) (by decide)).mono (by decide) (by decide)
theorem ok_t0 : Ok1 (.tuple []) := (sv_tup (w := 20) (e := 1) (n := 1) (fun x hx => absurd hx (by simp)) (by decide)).mono (by decide) (by decide)
theorem ok_path {ks : List Int} (h : ∀ k ∈ ks, 0 ≤ k ∧ k < 7) (hl : ks.length ≤ 4) : Ok1 (.tuple (ks.map .int)) := by
  refine (sv_tup (w := 20) (e := 1) (n := 4) (fun x hx => ?_) (by simpa using hl)).mono (by decide) (by decide)
  obtain ⟨k, hk, rfl⟩ := List.mem_map.mp hx
  exact ok_int (h k hk).1 (by have := (h k hk).2; omega)
theorem show4 {a b c d : PyData} (ha : Ok1 a) (hb : Ok1 b) (hc : Ok1 c) (hd : Ok1 d) : (PyData.list [a, b, c, d]).showable = true ∧ (PyData.list [a, b, c, d]).shown.length ≤ sizeLine ∧ (PyData.list [a, b, c, d]).depth ≤ 100 :=
  sv_fits (sv_list (n := 4) (fun x hx => by simp only [List.mem_cons, List.not_mem_nil, or_false] at hx; rcases hx with rfl | rfl | rfl | rfl <;> assumption) (by simp)) (by decide) (by decide) (by decide)
theorem show6 {a b : PyData} (ha : Ok1 a) (hb : Ok1 b) : (PyData.list [a, b, b, b, b, b]).showable = true ∧ (PyData.list [a, b, b, b, b, b]).shown.length ≤ sizeLine ∧ (PyData.list [a, b, b, b, b, b]).depth ≤ 100 :=
  sv_fits (sv_list (n := 6) (fun x hx => by simp only [List.mem_cons, List.not_mem_nil, or_false] at hx; rcases hx with rfl | rfl | rfl | rfl | rfl | rfl <;> assumption) (by simp)) (by decide) (by decide) (by decide)
theorem law_rest {R : DK} {s : D} {n wd p : PyData} (hn : Ok1 n) (hw : Ok1 wd) (hp : Ok1 p) (h : ∀ m', R (.dat (.bool true)) m') (o5 o6 : Option D) (m : Mu) : b_law_4 (EN R) [some s, some (.dat n), some (.dat wd), some (.dat p), none, o5, o6] m := by
  have ge : ∀ k < 11, atI ((List.range 11).map (exD n wd p)) ((k : Nat) : Int) = some (exD n wd p k) := fun k hk => atI_nat (by rw [List.getElem?_map, List.getElem?_range hk]; rfl)
  refine ⟨11, rfl, by decide, by decide, loopC_rng (n := 11) (fun i acc d m' => acc = (List.range i).map (exD n wd p) ∧ ∃ o0, d = [o0, some (.dat n), some (.dat wd), some (.dat p)]) ?_ ?_ _ _ _ ⟨rfl, _, rfl⟩⟩
  · rintro acc d m' ⟨rfl, o0, rfl⟩
    refine ⟨11, rfl, by decide, by decide, ?_⟩
    refine loopL_rng (n := 11) (fun i d m' => ∃ o5 o6, d = [some s, some (.dat n), some (.dat wd), some (.dat p), some (.dat (.list ((List.range 11).map (exD n wd p)))), o5, o6]) ?_ ?_ _ _ ⟨_, _, rfl⟩
    · rintro d m' ⟨o5, o6, rfl⟩
      show b_law_6 (EN R) [some s, some (.dat n), some (.dat wd), some (.dat p), some (.dat (.list ((List.range 11).map (exD n wd p)))), o5, o6] m'
      refine ⟨_, rfl, _, ge 0 (by decide), _, _, _, rfl, by decide, rfl, _, rfl, _, ge 0 (by decide), _, _, _, rfl, by decide, rfl, _, rfl, _, ge 2 (by decide), _, _, _, rfl, by decide, rfl, _, rfl, _, ge 5 (by decide), _, _, _, rfl, by decide, rfl, _, rfl, (sz (by decide) : 4 ≤ sizeLine), ?_⟩
      have q4 := show4 hn hw hn hn
      show b_law_7 (EN R) [some s, some (.dat n), some (.dat wd), some (.dat p), some (.dat (.list ((List.range 11).map (exD n wd p)))), o5, some (.dat (.list [n, wd, n, n]))] m'
      refine ⟨_, rfl, q4.1, q4.2.1, q4.2.2, _, rfl, _, rfl, _, rfl, _, rfl, _, rfl, (sz (by decide) : 4 ≤ sizeLine), q4.1, q4.2.1, q4.2.2, _, rfl, ite_f (by simp) ?_⟩
      show b_law_8 (EN R) [some s, some (.dat n), some (.dat wd), some (.dat p), some (.dat (.list ((List.range 11).map (exD n wd p)))), o5, some (.dat (.list [n, wd, n, n]))] m'
      refine ⟨_, rfl, _, ge 1 (by decide), _, _, _, rfl, by decide, rfl, _, rfl, _, ge 6 (by decide), _, _, _, rfl, by decide, rfl, _, rfl, _, ge 1 (by decide), _, _, _, rfl, by decide, rfl, _, rfl, _, ge 3 (by decide), _, _, _, rfl, by decide, rfl, _, rfl, _, ge 4 (by decide), _, _, _, rfl, by decide, rfl, _, rfl, _, ge 5 (by decide), _, _, _, rfl, by decide, rfl, _, rfl, (sz (by decide) : 6 ≤ sizeLine), ?_⟩
      have q6 := show6 hp hw
      show b_law_9 (EN R) [some s, some (.dat n), some (.dat wd), some (.dat p), some (.dat (.list ((List.range 11).map (exD n wd p)))), o5, some (.dat (.list [p, wd, wd, wd, wd, wd]))] m'
      refine ⟨_, rfl, q6.1, q6.2.1, q6.2.2, _, rfl, _, rfl, _, rfl, _, rfl, _, rfl, _, rfl, _, rfl, (sz (by decide) : 6 ≤ sizeLine), q6.1, q6.2.1, q6.2.2, ?_⟩
      have e : ∀ z : Str, decide (z = z) = true := fun z => by simp
      show R (.dat (.bool (decide ((PyData.list [p, wd, wd, wd, wd, wd]).shown = (PyData.list [p, wd, wd, wd, wd, wd]).shown)))) m'
      rw [e]
      exact h _
    · rintro i hi k hk d m' ⟨o5, o6, rfl⟩
      show b_law_L0 _ [some s, some (.dat n), some (.dat wd), some (.dat p), some (.dat (.list ((List.range 11).map (exD n wd p)))), some (I (i : Nat)), o6] m'
      have mi := exN_mem i hi
      refine ⟨_, rfl, _, rfl, _, ge i hi, _, _, rfl, mi, _, rfl, ite_f rfl ?_⟩
      refine ⟨_, rfl, _, rfl, _, ge i hi, rfl, i, n, wd, p, rfl, hi, 11, rfl, by decide, by decide, ?_⟩
      refine loopC_rng (n := 11) (fun j acc d m'' => m'' = m' ∧ acc = (List.range j).map (fun j => .bool (decide (j = i))) ∧ ∃ o0, d = [o0, some (I (i : Nat))]) ?_ ?_ _ _ _ ⟨rfl, rfl, _, rfl⟩
      · rintro acc d m'' ⟨rfl, rfl, o0, rfl⟩
        have lay : ∀ xs : List Bool, PyData.canLayAll0 (xs.map .bool) = true ∧ PyData.depthAll (xs.map .bool) ≤ 1 := fun xs => by
          induction xs with
          | nil => simp [PyData.canLayAll0, PyData.depthAll]
          | cons x xs ih => simp only [List.map_cons, PyData.canLayAll0, PyData.depthAll, PyData.canLay0, PyData.depth, ih.1, Bool.and_self, true_and]; omega
        have l := lay ((List.range 11).map fun j => decide (j = i))
        rw [List.map_map] at l
        have c0 : (knd i).canLay0 = true := by unfold knd; simp only [PyData.canLay0]; exact l.1
        refine ⟨c0, c0, by unfold knd; simp only [PyData.depth]; exact Nat.le_trans (Nat.succ_le_succ l.2) (by decide), _, rfl, ite_f ?_ (hk _ _ ⟨_, _, rfl⟩)⟩
        have eb : ∀ xs : List Bool, PyData.eqvAll (xs.map .bool) (xs.map .bool) = true := fun xs => by
          induction xs with
          | nil => simp [PyData.eqvAll]
          | cons x xs ih => simp only [List.map_cons, PyData.eqvAll, ih, Bool.and_true]; cases x <;> rfl
        have e2 := eb ((List.range 11).map fun j => decide (j = i))
        rw [List.map_map] at e2
        unfold knd
        simp only [PyData.eqv]
        show (!PyData.eqvAll _ _) = false
        rw [show PyData.eqvAll (List.map (fun j => PyData.bool (decide (j = i))) (List.range 11)) (List.map (fun j => PyData.bool (decide (j = i))) (List.range 11)) = true from e2]
        rfl
      · rintro j acc d m'' k' hj ⟨rfl, rfl, o0, rfl⟩ hk'
        refine ⟨_, rfl, _, rfl, rfl, rfl, by simp [PyData.depth], _, rfl, by rw [List.length_map, List.length_range]; exact Nat.lt_of_lt_of_le hj (sz (by decide)), hk' _ _ _ ⟨rfl, ?_, _, rfl⟩⟩
        rw [List.range_succ, List.map_append]
        congr 2
        simp [PyData.eqv]
        rw [Bool.eq_iff_iff]
        simp
        omega
  · rintro i acc d m' k hi ⟨rfl, o0, rfl⟩ hk
    refine ⟨_, rfl, _, rfl, _, rfl, _, rfl, rfl, i, n, wd, p, rfl, hi, _, rfl, by rw [List.length_map, List.length_range]; exact Nat.lt_of_lt_of_le hi (sz (by decide)), hk _ _ _ ⟨?_, _, rfl⟩⟩
    rw [List.range_succ, List.map_append]
    rfl
end K97
set_option Elab.async false
set_option linter.all false
set_option maxRecDepth 100000
set_option maxHeartbeats 4000000
namespace K97
open PySem PySem.Spec PyProof.Rows L2 DL K01
theorem fm {i n : Int} (h : 0 < n) : 0 ≤ i.fmod n ∧ i.fmod n < n := ⟨Int.fmod_nonneg_of_pos _ h, Int.fmod_lt_of_pos _ h⟩
theorem vc_law : VcT p_law N_law sp_law b_law := by
  rintro ds m R hl ⟨ns, rfl, hn, h⟩
  refine ⟨_, rfl, rfl, ns, 0, rfl, hn, fun i0 => ⟨by decide, ?_⟩⟩
  have f0 := fm (i := i0) (n := 1000) (by decide)
  show b_law_1 (EN R) [some (sI ns), some (I (i0.fmod 1000)), none, none, none, none, none] m
  refine ⟨[.str "a"], rfl, (sz (by decide) : 1 ≤ sizeLine), [.str "shape", .str "step", .str "open", .str "answer", .str "", .none, .list [.str "a"], .bool true], rfl, (sz (by decide) : 8 ≤ sizeLine), _, rfl, rfl, ns, 1, rfl, hn, fun i1 => ⟨by decide, ?_⟩⟩
  have f1 := fm (i := i1) (n := 8) (by decide)
  obtain ⟨wd, hwd, e1⟩ := at_mem (xs := [.str "shape", .str "step", .str "open", .str "answer", .str "", .none, .list [.str "a"], .bool true]) f1.1 f1.2
  refine ⟨wd, e1, ?_⟩
  have ow : Ok1 wd := by
    simp only [List.mem_cons, List.not_mem_nil, or_false] at hwd
    rcases hwd with rfl | rfl | rfl | rfl | rfl | rfl | rfl | rfl
    · exact Sv.up (ok_str (by decide))
    · exact Sv.up (ok_str (by decide))
    · exact Sv.up (ok_str (by decide))
    · exact Sv.up (ok_str (by decide))
    · exact Sv.up (ok_str (by decide))
    · exact Sv.up sv_none
    · exact ok_la
    · exact Sv.up (sv_bool _)
  show b_law_2 (EN R) [some (sI ns), some (I (i0.fmod 1000)), some (.dat wd), none, none, none, none] m
  refine ⟨_, rfl, rfl, ns, 2, rfl, hn, fun i2 => ⟨by decide, ?_⟩⟩
  have f2 := fm (i := i2) (n := 5) (by decide)
  refine ⟨_, rfl, by omega, by omega, ?_⟩
  refine loopC_rng (n := (i2.fmod 5).toNat) (fun i acc d m' => (∃ ks : List Int, acc = ks.map .int ∧ (∀ k ∈ ks, 0 ≤ k ∧ k < 7) ∧ ks.length = i) ∧ ∃ o0, d = [o0, some (sI ns)]) ?_ ?_ _ _ _ ⟨⟨[], rfl, fun k hk => absurd hk (by simp), rfl⟩, _, rfl⟩
  · rintro acc d m2 ⟨⟨ks, rfl, hk, kl⟩, o0, rfl⟩
    have op : Ok1 (.tuple (ks.map .int)) := ok_path hk (by omega)
    show b_law_3 (EN R) [some (sI ns), some (I (i0.fmod 1000)), some (.dat wd), some (.dat (.tuple (ks.map .int))), none, none, none] m2
    refine ⟨_, rfl, rfl, ns, 3, rfl, hn, fun i3 => ⟨by decide, rfl, rfl, by simp [PyData.depth], _, rfl, iteB ?_ ?_⟩⟩
    · show b_law_B0 _ [some (sI ns), some (I (i0.fmod 1000)), some (.dat wd), some (.dat (.tuple (ks.map .int))), none, none, none] m2
      refine ⟨[], rfl, (sz (by decide) : 0 ≤ sizeLine), [.str "a"], rfl, (sz (by decide) : 1 ≤ sizeLine), [.none, .str "at", .tuple [], .list [.str "a"]], rfl, (sz (by decide) : 4 ≤ sizeLine), _, rfl, rfl, ns, 4, rfl, hn, fun i4 => ⟨by decide, ?_⟩⟩
      have f4 := fm (i := i4) (n := 4) (by decide)
      obtain ⟨n2, hn2, e4⟩ := at_mem (xs := [.none, .str "at", .tuple [], .list [.str "a"]]) f4.1 f4.2
      refine ⟨n2, e4, ?_⟩
      have on : Ok1 n2 := by
        simp only [List.mem_cons, List.not_mem_nil, or_false] at hn2
        rcases hn2 with rfl | rfl | rfl | rfl
        · exact Sv.up sv_none
        · exact Sv.up (ok_str (by decide))
        · exact ok_t0
        · exact ok_la
      show b_law_B0_1 _ [some (sI ns), some (.dat n2), some (.dat wd), some (.dat (.tuple (ks.map .int))), none, none, none] m2
      refine ⟨[.str "a"], rfl, (sz (by decide) : 1 ≤ sizeLine), [.none, .str "at", .int 7, .list [.str "a"]], rfl, (sz (by decide) : 4 ≤ sizeLine), _, rfl, rfl, ns, 5, rfl, hn, fun i5 => ⟨by decide, ?_⟩⟩
      have f5 := fm (i := i5) (n := 4) (by decide)
      obtain ⟨p2, hp2, e5⟩ := at_mem (xs := [.none, .str "at", .int 7, .list [.str "a"]]) f5.1 f5.2
      refine ⟨p2, e5, ?_⟩
      have op2 : Ok1 p2 := by
        simp only [List.mem_cons, List.not_mem_nil, or_false] at hp2
        rcases hp2 with rfl | rfl | rfl | rfl
        · exact Sv.up sv_none
        · exact Sv.up (ok_str (by decide))
        · exact Sv.up (ok_int (by decide) (by decide))
        · exact ok_la
      exact law_rest on ow op2 h _ _ _
    · exact law_rest (Sv.up (ok_int f0.1 f0.2)) ow op h _ _ _
  · rintro i acc d m2 k hi ⟨⟨ks, rfl, hk, kl⟩, o0, rfl⟩ hk2
    refine ⟨_, rfl, _, rfl, rfl, ns, _, rfl, hn, fun j => ⟨by decide, _, rfl, ?_, hk2 _ _ _ ⟨⟨ks ++ [j.fmod 7], by rw [List.map_append]; rfl, fun k hk' => ?_, by rw [List.length_append, kl]; rfl⟩, _, rfl⟩⟩⟩
    · rw [List.length_map, kl]
      exact Nat.lt_of_lt_of_le (show i < 1000 by omega) (sz (by decide))
    · rcases List.mem_append.mp hk' with z | z
      · exact hk k z
      · rw [List.mem_singleton.mp z]
        exact fm (by decide)
end K97
set_option Elab.async false
set_option linter.all false
set_option maxRecDepth 100000
namespace HD
open PySem PySem.W
section
variable {α β : Type} {tb : String → Option Builtin} {p : Program} {w : World} {n₀ : Nat} {ann : Option Value} {c : Code} {B : List Frame}
theorem go_go {b : Nat} : ∀ {n m : Nat} {s s1 s2 : Shared} {t t1 t2 : Thread}, segGo tb p w n₀ ann b n s t = some (s1, t1) → segGo tb p w n₀ ann b m s1 t1 = some (s2, t2) → segGo tb p w n₀ ann b (n + m) s t = some (s2, t2)
  | 0, m, s, s1, s2, t, t1, t2, h, k => by
    obtain ⟨rfl, rfl⟩ : s = s1 ∧ t = t1 := by simpa [segGo] using h
    rw [Nat.zero_add]
    exact k
  | n + 1, m, s, s1, s2, t, t1, t2, h, k => by
    rw [show n + 1 + m = n + m + 1 by omega]
    unfold segGo at h ⊢
    cases he : endAt b t with
    | some f => rw [he] at h; cases h
    | none =>
      rw [he] at h
      cases hk : stepOk n₀ ann t with
      | false => rw [hk] at h; cases h
      | true =>
        rw [hk] at h
        cases hs : step (denote tb) p w s t with
        | halt o s' => rw [hs] at h; cases h
        | go s' t' => rw [hs] at h; exact go_go h k
def R (N : Nat) (tb : String → Option Builtin) (p : Program) (w : World) (n₀ : Nat) (ann : Option Value) (c : Code) (B : List Frame) (m : Sem α) (s : Shared) (pos : Pos) (a : α) (s' : Shared) (pos' : Pos) : Prop :=
  ∀ (K : α → Sem Fin) (H : Value → Sem Fin) (gd : Bool → Bool) (lv : List Value → List Value), ∃ n, n ≤ N ∧ segGo tb p w n₀ ann B.length n s ⟨m.wrap K H gd lv, c, pos, B⟩ = some (s', ⟨K a, c, pos', B⟩)
variable {s s1 s' : Shared} {pos pos1 pos' : Pos} {N N1 N2 : Nat}
theorem R.pure {a : α} : R 0 tb p w n₀ ann c B (Pure.pure a) s pos a s pos := fun K H gd lv => ⟨0, Nat.le_refl _, rfl⟩
theorem R.mono {m : Sem α} {a : α} (hN : N1 ≤ N) (h : R N1 tb p w n₀ ann c B m s pos a s' pos') : R N tb p w n₀ ann c B m s pos a s' pos' := fun K H gd lv => let ⟨n, l, e⟩ := h K H gd lv; ⟨n, Nat.le_trans l hN, e⟩
theorem R.bind {m : Sem α} {f : α → Sem β} {a : α} {b : β} (h : R N1 tb p w n₀ ann c B m s pos a s1 pos1) (k : R N2 tb p w n₀ ann c B (f a) s1 pos1 b s' pos') : R (N1 + N2) tb p w n₀ ann c B (m >>= f) s pos b s' pos' := fun K H gd lv => by
  obtain ⟨n1, l1, e1⟩ := h (fun a => (f a).wrap K H gd lv) H gd lv
  obtain ⟨n2, l2, e2⟩ := k K H gd lv
  refine ⟨n1 + n2, Nat.add_le_add l1 l2, ?_⟩
  have e : (m >>= f).wrap K H gd lv = m.wrap (fun a => (f a).wrap K H gd lv) H gd lv := by
    rw [Sem.bind_eq_wrap', Sem.wrap_wrap]
    rfl
  rw [e]
  exact go_go e1 e2
theorem R.hold {m : Sem α} {vs : List Value} {a : α} (h : R N tb p w n₀ ann c B m s pos a s' pos') : R N tb p w n₀ ann c B (holding vs m) s pos a s' pos' := by
  unfold holding
  split
  · exact h
  · intro K H gd lv
    rw [Sem.keep_eq_wrap, Sem.wrap_wrap]
    exact h K H _ _
end
end HD
namespace HD
open PySem PySem.W
section
variable {α β : Type} {tb : String → Option Builtin} {p : Program} {w : World} {n₀ : Nat} {ann : Option Value} {c : Code} {B : List Frame} {s s1 s' : Shared} {pos pos1 pos' : Pos}
end
end HD
set_option maxRecDepth 100000
set_option maxHeartbeats 0
set_option Elab.async false
namespace H97
open PySem PySem.W HD
abbrev prog : Program := PySem.Challenge.pw_whens_k97_refusals_apart
abbrev q0 : Pos := ⟨0, 0, 0, 0⟩
def mf (k : Nat) (cl : Value) (g : Addr) (clo : List (Str × Addr)) (d kd dc pm : Value) (an : Option Addr) (cd ct : Value) (bi : Addr) : Obj := match prog.main.body.getD k (.Pass q0) with
  | .FunctionDef n a b _ _ _ s _ _ _ => ⟨cl, none, .func ⟨n, n, a, .stmts b, s, g, clo, d, kd, dc, pm, an, cd, ct, bi⟩, #[]⟩
  | _ => ⟨cl, none, .plain, #[]⟩
def mm (k j : Nat) (q : Str) (cl : Value) (g : Addr) (clo : List (Str × Addr)) (d kd dc pm : Value) (an : Option Addr) (cd ct : Value) (bi : Addr) : Obj := match prog.main.body.getD k (.Pass q0) with
  | .ClassDef _ _ _ bo _ _ _ _ _ _ _ => match bo.getD j (.Pass q0) with
    | .FunctionDef n a b _ _ _ s _ _ _ => ⟨cl, none, .func ⟨n, q, a, .stmts b, s, g, clo, d, kd, dc, pm, an, cd, ct, bi⟩, #[]⟩
    | _ => ⟨cl, none, .plain, #[]⟩
  | _ => ⟨cl, none, .plain, #[]⟩
def tq (xs : List Value) : Obj := ⟨.type "tuple", none, .seq xs.toArray, #[]⟩
def lf (o : Obj) : BT := .node o .nil .nil
def ts (t : Nat) (xs : List Str) : Obj := tq (xs.mapIdx fun i x => .str x (t + i))
def fo (k : Nat) (m : Str) (t c : Nat) : Obj := mf k (.type "function") 3 [] .none .none .none (.str m t) none (.ref c) .none 0
def mz (k : Nat) : Obj := mf k .none 0 [] .none .none .none .none none .none .none 0
def oz : Obj := ⟨.none, none, .fields #[], #[]⟩
def cc (n : Str) (t : Nat) (L c : Int) (a b e : Nat) (x y : Value) : Obj := ⟨.type "code", none, .fields #[.str n t, .str n (t + 1), .str "/claim/cut.py" (t + 2), .int L 0, .int c 0, .int 0 0, .int 0 0, .int 3 0, .ref a, .bool true, .int 181 0, .ref (a + 1), .none, x, y, .ref b, .int (.ofNat e) 0, .int L 0, .str "/claim/cut.py" (e + 1)], #[]⟩
def c0 (n : Str) (t : Nat) (L c : Int) (a e : Nat) : Obj := cc n t L c a (a + 2) e .none .none
def c1 (n : Str) (t : Nat) (L c : Int) (a e : Nat) : Obj := cc n t L c a (a + 4) e (.ref (a + 2)) (.ref (a + 3))
def er (P : Params) (x : Str) (t a : Nat) : DictEntry := ⟨PyData.keyHash P x, .str x t, .ref a⟩
def o3 (P : Params) : Obj := ⟨.type "dict", none, .dict #[⟨PyData.keyHash P "__name__", .str "__name__" 165, .str "law_whens_k97_refusals_apart" 452⟩, ⟨PyData.keyHash P "__doc__", .str "__doc__" 166, .none⟩, ⟨PyData.keyHash P "__package__", .str "__package__" 167, .none⟩, ⟨PyData.keyHash P "__loader__", .str "__loader__" 168, Value.builtin "__main__.__loader__#opaque"⟩, ⟨PyData.keyHash P "__spec__", .str "__spec__" 169, .none⟩, er P "__annotations__" 170 6, er P "__builtins__" 171 4, ⟨PyData.keyHash P "__file__", .str "__file__" 173, .str "/claim/cut.py" 172⟩, ⟨PyData.keyHash P "__cached__", .str "__cached__" 174, .none⟩, er P "SayError" 206 24, er P "NoText" 233 44, er P "NoPaper" 260 63, er P "NoPlain" 285 82, er P "TooMany" 310 101, er P "NoSpan" 335 120, er P "NoClash" 362 139, er P "NoThing" 387 158, er P "NoSaying" 403 170, er P "NoLevel" 419 182, er P "NoNumber" 435 194, er P "NoRow" 451 206, er P "_law_cell" 461 215, er P "_law_raise" 471 222, er P "_law_taken" 483 229, er P "_law_kinds" 491 236, er P "law" 497 241] 26, #[]⟩
def o15 : Obj := tq [.type "ValueError"]
def o22 : Obj := tq []
def o23 (P : Params) : Obj := ⟨.type "dict", none, .dict #[⟨PyData.keyHash P "__module__", .str "__module__" 196, .str "whens.errors" 187⟩, ⟨PyData.keyHash P "__firstlineno__", .str "__firstlineno__" 200, .int 2 199⟩, er P "__static_attributes__" 201 22, er P "__weakref__" 203 25, ⟨PyData.keyHash P "__doc__", .str "__doc__" 204, .none⟩] 3, #[]⟩
def o24 : Obj := ⟨.type "type", none, .cls { name := Str.ofString "SayError", bases := [.type "ValueError"], mro := [.ref 24, .type "ValueError", .type "Exception", .type "BaseException", .type "object"], ns := 23, qualname := Str.ofString "SayError", subclasses := [.ref 44, .ref 63, .ref 82, .ref 101, .ref 120, .ref 139, .ref 158, .ref 170, .ref 182, .ref 194, .ref 206] }, #[some (.ref 15), none, some (.str "SayError" 189), some (.str "SayError" 197), some (Value.builtin "ValueError.__new__"), some (.bool true)]⟩
def o25 : Obj := ⟨.type "getset_descriptor", none, .fields #[.str "__weakref__" 202, .ref 24, Value.builtin "ExceptionGroup.__weakref__", .none], #[]⟩
def o28 : Obj := tq [.ref 24]
def o35 : Obj := tq []
def o37 : Obj := ts 222 ["self", "row", "word"]
def o38 : Obj := tq []
def o40 : Obj := ⟨.type "code", none, .fields #[.str "__init__" 219, .str "NoText.__init__" 220, .str "/claim/cut.py" 221, .int 6 0, .int 3 0, .int 0 0, .int 0 0, .int 3 0, .ref 35, .bool true, .int 181 0, .ref 36, .none, .ref 37, .ref 38, .ref 39, .int 225 0, .int 6 0, .str "/claim/cut.py" 226], #[]⟩
def o41 : Obj := mm 2 0 "NoText.__init__" (.type "function") 3 [] .none .none .none (.str "whens.errors" 187) none (.ref 40) .none 0
def o42 : Obj := ts 228 ["row", "word"]
def o43 (P : Params) : Obj := ⟨.type "dict", none, .dict #[⟨PyData.keyHash P "__module__", .str "__module__" 214, .str "whens.errors" 187⟩, ⟨PyData.keyHash P "__firstlineno__", .str "__firstlineno__" 218, .int 4 217⟩, er P "__init__" 227 41, er P "__static_attributes__" 230 42, ⟨PyData.keyHash P "__doc__", .str "__doc__" 231, .none⟩] 2, #[]⟩
def o44 : Obj := ⟨.type "type", none, .cls { name := Str.ofString "NoText", bases := [.ref 24], mro := [.ref 44, .ref 24, .type "ValueError", .type "Exception", .type "BaseException", .type "object"], ns := 43, qualname := Str.ofString "NoText" }, #[some (.ref 28), none, some (.str "NoText" 207), some (.str "NoText" 215), some (Value.builtin "ValueError.__new__"), some (.bool true)]⟩
def o47 : Obj := tq [.ref 24]
def o54 : Obj := tq []
def o56 : Obj := ts 249 ["self", "path", "word"]
def o57 : Obj := tq []
def o59 : Obj := ⟨.type "code", none, .fields #[.str "__init__" 246, .str "NoPaper.__init__" 247, .str "/claim/cut.py" 248, .int 11 0, .int 3 0, .int 0 0, .int 0 0, .int 3 0, .ref 54, .bool true, .int 181 0, .ref 55, .none, .ref 56, .ref 57, .ref 58, .int 252 0, .int 11 0, .str "/claim/cut.py" 253], #[]⟩
def o60 : Obj := mm 3 0 "NoPaper.__init__" (.type "function") 3 [] .none .none .none (.str "whens.errors" 187) none (.ref 59) .none 0
def o61 : Obj := ts 255 ["path", "word"]
def o62 (P : Params) : Obj := ⟨.type "dict", none, .dict #[⟨PyData.keyHash P "__module__", .str "__module__" 241, .str "whens.errors" 187⟩, ⟨PyData.keyHash P "__firstlineno__", .str "__firstlineno__" 245, .int 9 244⟩, er P "__init__" 254 60, er P "__static_attributes__" 257 61, ⟨PyData.keyHash P "__doc__", .str "__doc__" 258, .none⟩] 2, #[]⟩
def o63 : Obj := ⟨.type "type", none, .cls { name := Str.ofString "NoPaper", bases := [.ref 24], mro := [.ref 63, .ref 24, .type "ValueError", .type "Exception", .type "BaseException", .type "object"], ns := 62, qualname := Str.ofString "NoPaper" }, #[some (.ref 47), none, some (.str "NoPaper" 234), some (.str "NoPaper" 242), some (Value.builtin "ValueError.__new__"), some (.bool true)]⟩
def o66 : Obj := tq [.ref 24]
def o73 : Obj := tq []
def o75 : Obj := ts 276 ["self", "number"]
def o76 : Obj := tq []
def o78 : Obj := ⟨.type "code", none, .fields #[.str "__init__" 273, .str "NoPlain.__init__" 274, .str "/claim/cut.py" 275, .int 16 0, .int 2 0, .int 0 0, .int 0 0, .int 3 0, .ref 73, .bool true, .int 181 0, .ref 74, .none, .ref 75, .ref 76, .ref 77, .int 278 0, .int 16 0, .str "/claim/cut.py" 279], #[]⟩
def o79 : Obj := mm 4 0 "NoPlain.__init__" (.type "function") 3 [] .none .none .none (.str "whens.errors" 187) none (.ref 78) .none 0
def o80 : Obj := tq [.str "number" 281]
def o81 (P : Params) : Obj := ⟨.type "dict", none, .dict #[⟨PyData.keyHash P "__module__", .str "__module__" 268, .str "whens.errors" 187⟩, ⟨PyData.keyHash P "__firstlineno__", .str "__firstlineno__" 272, .int 14 271⟩, er P "__init__" 280 79, er P "__static_attributes__" 282 80, ⟨PyData.keyHash P "__doc__", .str "__doc__" 283, .none⟩] 2, #[]⟩
def o82 : Obj := ⟨.type "type", none, .cls { name := Str.ofString "NoPlain", bases := [.ref 24], mro := [.ref 82, .ref 24, .type "ValueError", .type "Exception", .type "BaseException", .type "object"], ns := 81, qualname := Str.ofString "NoPlain" }, #[some (.ref 66), none, some (.str "NoPlain" 261), some (.str "NoPlain" 269), some (Value.builtin "ValueError.__new__"), some (.bool true)]⟩
def o85 : Obj := tq [.ref 24]
def o92 : Obj := tq []
def o94 : Obj := ts 301 ["self", "word"]
def o95 : Obj := tq []
def o97 : Obj := ⟨.type "code", none, .fields #[.str "__init__" 298, .str "TooMany.__init__" 299, .str "/claim/cut.py" 300, .int 20 0, .int 2 0, .int 0 0, .int 0 0, .int 3 0, .ref 92, .bool true, .int 181 0, .ref 93, .none, .ref 94, .ref 95, .ref 96, .int 303 0, .int 20 0, .str "/claim/cut.py" 304], #[]⟩
def o98 : Obj := mm 5 0 "TooMany.__init__" (.type "function") 3 [] .none .none .none (.str "whens.errors" 187) none (.ref 97) .none 0
def o99 : Obj := tq [.str "word" 306]
def o100 (P : Params) : Obj := ⟨.type "dict", none, .dict #[⟨PyData.keyHash P "__module__", .str "__module__" 293, .str "whens.errors" 187⟩, ⟨PyData.keyHash P "__firstlineno__", .str "__firstlineno__" 297, .int 18 296⟩, er P "__init__" 305 98, er P "__static_attributes__" 307 99, ⟨PyData.keyHash P "__doc__", .str "__doc__" 308, .none⟩] 2, #[]⟩
def o101 : Obj := ⟨.type "type", none, .cls { name := Str.ofString "TooMany", bases := [.ref 24], mro := [.ref 101, .ref 24, .type "ValueError", .type "Exception", .type "BaseException", .type "object"], ns := 100, qualname := Str.ofString "TooMany" }, #[some (.ref 85), none, some (.str "TooMany" 286), some (.str "TooMany" 294), some (Value.builtin "ValueError.__new__"), some (.bool true)]⟩
def o104 : Obj := tq [.ref 24]
def o111 : Obj := tq []
def o113 : Obj := ts 326 ["self", "word"]
def o114 : Obj := tq []
def o116 : Obj := ⟨.type "code", none, .fields #[.str "__init__" 323, .str "NoSpan.__init__" 324, .str "/claim/cut.py" 325, .int 24 0, .int 2 0, .int 0 0, .int 0 0, .int 3 0, .ref 111, .bool true, .int 181 0, .ref 112, .none, .ref 113, .ref 114, .ref 115, .int 328 0, .int 24 0, .str "/claim/cut.py" 329], #[]⟩
def o117 : Obj := mm 6 0 "NoSpan.__init__" (.type "function") 3 [] .none .none .none (.str "whens.errors" 187) none (.ref 116) .none 0
def o118 : Obj := tq [.str "word" 331]
def o119 (P : Params) : Obj := ⟨.type "dict", none, .dict #[⟨PyData.keyHash P "__module__", .str "__module__" 318, .str "whens.errors" 187⟩, ⟨PyData.keyHash P "__firstlineno__", .str "__firstlineno__" 322, .int 22 321⟩, er P "__init__" 330 117, er P "__static_attributes__" 332 118, ⟨PyData.keyHash P "__doc__", .str "__doc__" 333, .none⟩] 2, #[]⟩
def o120 : Obj := ⟨.type "type", none, .cls { name := Str.ofString "NoSpan", bases := [.ref 24], mro := [.ref 120, .ref 24, .type "ValueError", .type "Exception", .type "BaseException", .type "object"], ns := 119, qualname := Str.ofString "NoSpan" }, #[some (.ref 104), none, some (.str "NoSpan" 311), some (.str "NoSpan" 319), some (Value.builtin "ValueError.__new__"), some (.bool true)]⟩
def o123 : Obj := tq [.ref 24]
def o130 : Obj := tq []
def o132 : Obj := ts 351 ["self", "word", "number"]
def o133 : Obj := tq []
def o135 : Obj := ⟨.type "code", none, .fields #[.str "__init__" 348, .str "NoClash.__init__" 349, .str "/claim/cut.py" 350, .int 28 0, .int 3 0, .int 0 0, .int 0 0, .int 3 0, .ref 130, .bool true, .int 181 0, .ref 131, .none, .ref 132, .ref 133, .ref 134, .int 354 0, .int 28 0, .str "/claim/cut.py" 355], #[]⟩
def o136 : Obj := mm 7 0 "NoClash.__init__" (.type "function") 3 [] .none .none .none (.str "whens.errors" 187) none (.ref 135) .none 0
def o137 : Obj := ts 357 ["number", "word"]
def o138 (P : Params) : Obj := ⟨.type "dict", none, .dict #[⟨PyData.keyHash P "__module__", .str "__module__" 343, .str "whens.errors" 187⟩, ⟨PyData.keyHash P "__firstlineno__", .str "__firstlineno__" 347, .int 26 346⟩, er P "__init__" 356 136, er P "__static_attributes__" 359 137, ⟨PyData.keyHash P "__doc__", .str "__doc__" 360, .none⟩] 2, #[]⟩
def o139 : Obj := ⟨.type "type", none, .cls { name := Str.ofString "NoClash", bases := [.ref 24], mro := [.ref 139, .ref 24, .type "ValueError", .type "Exception", .type "BaseException", .type "object"], ns := 138, qualname := Str.ofString "NoClash" }, #[some (.ref 123), none, some (.str "NoClash" 336), some (.str "NoClash" 344), some (Value.builtin "ValueError.__new__"), some (.bool true)]⟩
def o142 : Obj := tq [.ref 24]
def o149 : Obj := tq []
def o151 : Obj := ts 378 ["self", "name"]
def o152 : Obj := tq []
def o154 : Obj := ⟨.type "code", none, .fields #[.str "__init__" 375, .str "NoThing.__init__" 376, .str "/claim/cut.py" 377, .int 33 0, .int 2 0, .int 0 0, .int 0 0, .int 3 0, .ref 149, .bool true, .int 181 0, .ref 150, .none, .ref 151, .ref 152, .ref 153, .int 380 0, .int 33 0, .str "/claim/cut.py" 381], #[]⟩
def o155 : Obj := mm 8 0 "NoThing.__init__" (.type "function") 3 [] .none .none .none (.str "whens.errors" 187) none (.ref 154) .none 0
def o156 : Obj := tq [.str "name" 383]
def o157 (P : Params) : Obj := ⟨.type "dict", none, .dict #[⟨PyData.keyHash P "__module__", .str "__module__" 370, .str "whens.errors" 187⟩, ⟨PyData.keyHash P "__firstlineno__", .str "__firstlineno__" 374, .int 31 373⟩, er P "__init__" 382 155, er P "__static_attributes__" 384 156, ⟨PyData.keyHash P "__doc__", .str "__doc__" 385, .none⟩] 2, #[]⟩
def o158 : Obj := ⟨.type "type", none, .cls { name := Str.ofString "NoThing", bases := [.ref 24], mro := [.ref 158, .ref 24, .type "ValueError", .type "Exception", .type "BaseException", .type "object"], ns := 157, qualname := Str.ofString "NoThing" }, #[some (.ref 142), none, some (.str "NoThing" 363), some (.str "NoThing" 371), some (Value.builtin "ValueError.__new__"), some (.bool true)]⟩
def o161 : Obj := tq [.ref 24]
def o168 : Obj := tq []
def o169 (P : Params) : Obj := ⟨.type "dict", none, .dict #[⟨PyData.keyHash P "__module__", .str "__module__" 395, .str "whens.errors" 187⟩, ⟨PyData.keyHash P "__firstlineno__", .str "__firstlineno__" 399, .int 35 398⟩, er P "__static_attributes__" 400 168, ⟨PyData.keyHash P "__doc__", .str "__doc__" 401, .none⟩] 2, #[]⟩
def o170 : Obj := ⟨.type "type", none, .cls { name := Str.ofString "NoSaying", bases := [.ref 24], mro := [.ref 170, .ref 24, .type "ValueError", .type "Exception", .type "BaseException", .type "object"], ns := 169, qualname := Str.ofString "NoSaying" }, #[some (.ref 161), none, some (.str "NoSaying" 388), some (.str "NoSaying" 396), some (Value.builtin "ValueError.__new__"), some (.bool true)]⟩
def o173 : Obj := tq [.ref 24]
def o180 : Obj := tq []
def o181 (P : Params) : Obj := ⟨.type "dict", none, .dict #[⟨PyData.keyHash P "__module__", .str "__module__" 411, .str "whens.errors" 187⟩, ⟨PyData.keyHash P "__firstlineno__", .str "__firstlineno__" 415, .int 37 414⟩, er P "__static_attributes__" 416 180, ⟨PyData.keyHash P "__doc__", .str "__doc__" 417, .none⟩] 2, #[]⟩
def o182 : Obj := ⟨.type "type", none, .cls { name := Str.ofString "NoLevel", bases := [.ref 24], mro := [.ref 182, .ref 24, .type "ValueError", .type "Exception", .type "BaseException", .type "object"], ns := 181, qualname := Str.ofString "NoLevel" }, #[some (.ref 173), none, some (.str "NoLevel" 404), some (.str "NoLevel" 412), some (Value.builtin "ValueError.__new__"), some (.bool true)]⟩
def o185 : Obj := tq [.ref 24]
def o192 : Obj := tq []
def o193 (P : Params) : Obj := ⟨.type "dict", none, .dict #[⟨PyData.keyHash P "__module__", .str "__module__" 427, .str "whens.errors" 187⟩, ⟨PyData.keyHash P "__firstlineno__", .str "__firstlineno__" 431, .int 39 430⟩, er P "__static_attributes__" 432 192, ⟨PyData.keyHash P "__doc__", .str "__doc__" 433, .none⟩] 2, #[]⟩
def o194 : Obj := ⟨.type "type", none, .cls { name := Str.ofString "NoNumber", bases := [.ref 24], mro := [.ref 194, .ref 24, .type "ValueError", .type "Exception", .type "BaseException", .type "object"], ns := 193, qualname := Str.ofString "NoNumber" }, #[some (.ref 185), none, some (.str "NoNumber" 420), some (.str "NoNumber" 428), some (Value.builtin "ValueError.__new__"), some (.bool true)]⟩
def o197 : Obj := tq [.ref 24]
def o204 : Obj := tq []
def o205 (P : Params) : Obj := ⟨.type "dict", none, .dict #[⟨PyData.keyHash P "__module__", .str "__module__" 443, .str "whens.errors" 187⟩, ⟨PyData.keyHash P "__firstlineno__", .str "__firstlineno__" 447, .int 41 446⟩, er P "__static_attributes__" 448 204, ⟨PyData.keyHash P "__doc__", .str "__doc__" 449, .none⟩] 2, #[]⟩
def o206 : Obj := ⟨.type "type", none, .cls { name := Str.ofString "NoRow", bases := [.ref 24], mro := [.ref 206, .ref 24, .type "ValueError", .type "Exception", .type "BaseException", .type "object"], ns := 205, qualname := Str.ofString "NoRow" }, #[some (.ref 197), none, some (.str "NoRow" 436), some (.str "NoRow" 444), some (Value.builtin "ValueError.__new__"), some (.bool true)]⟩
def o209 : Obj := tq []
def o211 : Obj := ts 457 ["_law_script", "_law_k"]
def o212 : Obj := tq []
def o214 : Obj := c1 "_law_cell" 454 44 2 209 459
def o215 : Obj := fo 14 "law_whens_k97_refusals_apart" 452 214
def o216 : Obj := tq []
def o218 : Obj := ts 465 ["_law_way", "_law_number", "_law_word", "_law_path"]
def o219 : Obj := tq []
def o221 : Obj := c1 "_law_raise" 462 46 4 216 469
def o222 : Obj := fo 15 "law_whens_k97_refusals_apart" 452 221
def o223 : Obj := tq []
def o225 : Obj := ts 475 ["_law_way", "_law_number", "_law_word", "_law_path", "_law_caught", "_law_e"]
def o226 : Obj := tq []
def o228 : Obj := c1 "_law_taken" 472 68 4 223 481
def o229 : Obj := fo 16 "law_whens_k97_refusals_apart" 452 228
def o230 : Obj := tq []
def o232 : Obj := ts 487 ["_law_e", "_law_some"]
def o233 : Obj := tq []
def o235 : Obj := c1 "_law_kinds" 484 75 1 230 489
def o236 : Obj := fo 17 "law_whens_k97_refusals_apart" 452 235
def o237 : Obj := tq []
def o240 : Obj := c0 "law" 492 80 1 237 495
def o241 : Obj := fo 18 "law_whens_k97_refusals_apart" 452 240
def tF (P : Params) : BT := (.node (boot_o_0 P) (.node (boot_o_1 P) (.node (o3 P) (.node (boot_o_7 P) (.node o15 (.node (tq []) (.node o63 (lf (⟨.none, none, .fields #[.int 28 0, .int 4 0, .ref 135], #[]⟩)) (lf (⟨.type "frame", none, .plain, #[some (.ref 190), some (.ref 3), some (.ref 187), none, some (.str "whens.errors" 187), none, some (.ref 0)]⟩))) (.node o95 (lf (⟨.type "super", none, .fields #[.ref 158, .ref 158, .ref 158], #[]⟩)) (lf o223))) (.node o47 (.node o79 (lf (⟨.type "builtin_function_or_method", none, .fields #[Value.builtin "type.__prepare__", .type "type"], #[]⟩)) (lf (⟨.type "super", none, .fields #[.ref 206, .ref 206, .ref 206], #[]⟩))) (.node o111 (lf (⟨.type "dict", none, .dict #[⟨PyData.keyHash P "__module__", .str "__module__" 411, .str "whens.errors" 187⟩, ⟨PyData.keyHash P "__qualname__", .str "__qualname__" 413, .str "NoLevel" 412⟩, ⟨PyData.keyHash P "__firstlineno__", .str "__firstlineno__" 415, .int 37 414⟩, er P "__static_attributes__" 416 180] 4, #[]⟩)) (lf (mz 18))))) (.node (o23 P) (.node (mm 2 0 "NoText.__init__" (.none) 0 [] .none .none .none .none none .none .none 0) (.node (⟨.type "code", none, .fields #[.str "NoPlain" 263, .str "NoPlain" 264, .str "/claim/cut.py" 265, .int 14 0, .int 0 0, .int 0 0, .int 0 0, .int 0 0, .ref 69, .bool false, .int 181 0, .ref 70, .none, .none, .none, .none, .int 266 0, .int 14 0, .str "/claim/cut.py" 267], #[]⟩) (lf o135) (lf (⟨.type "dict", none, .dict #[⟨PyData.keyHash P "__module__", .str "__module__" 443, .str "whens.errors" 187⟩, ⟨PyData.keyHash P "__qualname__", .str "__qualname__" 445, .str "NoRow" 444⟩, ⟨PyData.keyHash P "__firstlineno__", .str "__firstlineno__" 447, .int 41 446⟩, er P "__static_attributes__" 448 204] 4, #[]⟩))) (.node (⟨.type "builtin_function_or_method", none, .fields #[Value.builtin "object.__init_subclass__", .ref 101], #[]⟩) (lf (⟨.type "frame", none, .plain, #[some (.ref 166), some (.ref 3), some (.ref 163), none, some (.str "whens.errors" 187), none, some (.ref 0)]⟩)) (lf oz))) (.node oz (.node (⟨.type "dict", none, .dict #[⟨PyData.keyHash P "__module__", .str "__module__" 293, .str "whens.errors" 187⟩, ⟨PyData.keyHash P "__qualname__", .str "__qualname__" 295, .str "TooMany" 294⟩, ⟨PyData.keyHash P "__firstlineno__", .str "__firstlineno__" 297, .int 18 296⟩, er P "__init__" 305 98, er P "__static_attributes__" 307 99] 5, #[]⟩) (lf o151) (lf o215)) (.node (o119 P) (lf (⟨.type "super", none, .fields #[.ref 182, .ref 182, .ref 182], #[]⟩)) .nil)))) (.node (tq []) (.node oz (.node o35 (.node (⟨.type "builtin_function_or_method", none, .fields #[Value.builtin "type.__prepare__", .type "type"], #[]⟩) (lf oz) (lf (⟨.type "super", none, .fields #[.ref 194, .ref 194, .ref 194], #[]⟩))) (.node o99 (lf (⟨.type "dict", none, .dict #[⟨PyData.keyHash P "__module__", .str "__module__" 395, .str "whens.errors" 187⟩, ⟨PyData.keyHash P "__qualname__", .str "__qualname__" 397, .str "NoSaying" 396⟩, ⟨PyData.keyHash P "__firstlineno__", .str "__firstlineno__" 399, .int 35 398⟩, er P "__static_attributes__" 400 168] 4, #[]⟩)) (lf (mz 16)))) (.node (⟨.none, none, .fields #[.int 11 0, .int 4 0, .ref 59], #[]⟩) (.node (⟨.type "super", none, .fields #[.ref 82, .ref 82, .ref 82], #[]⟩) (lf (⟨.type "code", none, .fields #[.str "NoThing" 365, .str "NoThing" 366, .str "/claim/cut.py" 367, .int 31 0, .int 0 0, .int 0 0, .int 0 0, .int 0 0, .ref 145, .bool false, .int 181 0, .ref 146, .none, .none, .none, .none, .int 368 0, .int 31 0, .str "/claim/cut.py" 369], #[]⟩)) (lf o211)) (.node (mm 6 0 "NoSpan.__init__" (.none) 0 [] .none .none .none .none none .none .none 0) (lf (⟨.type "frame", none, .plain, #[some (.ref 178), some (.ref 3), some (.ref 175), none, some (.str "whens.errors" 187), none, some (.ref 0)]⟩)) .nil))) (.node (⟨.type "builtin_function_or_method", none, .fields #[Value.builtin "object.__init_subclass__", .ref 24], #[]⟩) (.node (o43 P) (.node o75 (lf o139) (lf (⟨.type "frame", none, .plain, #[some (.ref 202), some (.ref 3), some (.ref 199), none, some (.str "whens.errors" 187), none, some (.ref 0)]⟩))) (.node (tq []) (lf (⟨.type "super", none, .fields #[.ref 170, .ref 170, .ref 170], #[]⟩)) (lf o235))) (.node o59 (.node (⟨.type "frame", none, .plain, #[some (.ref 90), some (.ref 3), some (.ref 87), none, some (.str "whens.errors" 187), none, some (.ref 0)]⟩) (lf o155) (lf o219)) (.node o123 (lf (⟨.type "dict", none, .dict #[⟨PyData.keyHash P "__module__", .str "__module__" 427, .str "whens.errors" 187⟩, ⟨PyData.keyHash P "__qualname__", .str "__qualname__" 429, .str "NoNumber" 428⟩, ⟨PyData.keyHash P "__firstlineno__", .str "__firstlineno__" 431, .int 39 430⟩, er P "__static_attributes__" 432 192] 4, #[]⟩)) .nil))))) (.node (boot_o_5 P) (.node (boot_o_9 P) (.node (⟨.type "dict", none, .dict #[⟨PyData.keyHash P "__module__", .str "__module__" 196, .str "whens.errors" 187⟩, ⟨PyData.keyHash P "__qualname__", .str "__qualname__" 198, .str "SayError" 197⟩, ⟨PyData.keyHash P "__firstlineno__", .str "__firstlineno__" 200, .int 2 199⟩, er P "__static_attributes__" 201 22] 4, #[]⟩) (.node (⟨.type "code", none, .fields #[.str "NoText" 209, .str "NoText" 210, .str "/claim/cut.py" 211, .int 4 0, .int 0 0, .int 0 0, .int 0 0, .int 0 0, .ref 31, .bool false, .int 181 0, .ref 32, .none, .none, .none, .none, .int 212 0, .int 4 0, .str "/claim/cut.py" 213], #[]⟩) (.node (⟨.type "builtin_function_or_method", none, .fields #[Value.builtin "object.__init_subclass__", .ref 63], #[]⟩) (lf (⟨.type "frame", none, .plain, #[some (.ref 128), some (.ref 3), some (.ref 125), none, some (.str "whens.errors" 187), none, some (.ref 0)]⟩)) (lf (o193 P))) (.node o97 (lf o161) (lf o225))) (.node (⟨.type "dict", none, .dict #[⟨PyData.keyHash P "__module__", .str "__module__" 241, .str "whens.errors" 187⟩, ⟨PyData.keyHash P "__qualname__", .str "__qualname__" 243, .str "NoPaper" 242⟩, ⟨PyData.keyHash P "__firstlineno__", .str "__firstlineno__" 245, .int 9 244⟩, er P "__init__" 254 60, er P "__static_attributes__" 257 61] 5, #[]⟩) (.node (o81 P) (lf (tq [])) (lf o209)) (.node o113 (lf oz) (lf o241)))) (.node o25 (.node o41 (.node o73 (lf o137) (lf oz)) (.node (⟨.type "builtin_function_or_method", none, .fields #[Value.builtin "type.__prepare__", .type "type"], #[]⟩) (lf (o169 P)) (lf o233))) (.node o57 (.node (⟨.none, none, .fields #[.int 20 0, .int 4 0, .ref 97], #[]⟩) (lf (mm 8 0 "NoThing.__init__" (.none) 0 [] .none .none .none .none none .none .none 0)) (lf oz)) (.node (⟨.type "super", none, .fields #[.ref 120, .ref 120, .ref 120], #[]⟩) (lf o185) .nil)))) (.node (⟨.type "code", none, .fields #[.str "<module>" 182, .str "<module>" 183, .str "/claim/cut.py" 184, .int 1 0, .int 0 0, .int 0 0, .int 0 0, .int 0 0, .ref 11, .bool false, .int 181 0, .ref 12, .none, .none, .none, .none, .int 185 0, .int 1 0, .str "/claim/cut.py" 186], #[]⟩) (.node (⟨.type "frame", none, .plain, #[some (.ref 20), some (.ref 3), some (.ref 17), none, some (.str "whens.errors" 187), none, some (.ref 0)]⟩) (.node o37 (.node (tq []) (lf o133) (lf o197)) (.node o101 (lf oz) (lf o229))) (.node (⟨.type "frame", none, .plain, #[some (.ref 52), some (.ref 3), some (.ref 49), none, some (.str "whens.errors" 187), none, some (.ref 0)]⟩) (.node o85 (lf o149) (lf (mz 14))) (.node o117 (lf (o181 P)) .nil))) (.node (⟨.type "builtin_function_or_method", none, .fields #[Value.builtin "type.__prepare__", .type "type"], #[]⟩) (.node (⟨.type "super", none, .fields #[.ref 44, .ref 44, .ref 44], #[]⟩) (.node (mm 4 0 "NoPlain.__init__" (.none) 0 [] .none .none .none .none none .none .none 0) (lf (⟨.type "builtin_function_or_method", none, .fields #[Value.builtin "object.__init_subclass__", .ref 139], #[]⟩)) (lf (o205 P))) (.node (⟨.type "code", none, .fields #[.str "NoSpan" 313, .str "NoSpan" 314, .str "/claim/cut.py" 315, .int 22 0, .int 0 0, .int 0 0, .int 0 0, .int 0 0, .ref 107, .bool false, .int 181 0, .ref 108, .none, .none, .none, .none, .int 316 0, .int 22 0, .str "/claim/cut.py" 317], #[]⟩) (lf o173) (lf o237))) (.node o61 (.node oz (lf (o157 P)) (lf o221)) (.node (⟨.type "dict", none, .dict #[⟨PyData.keyHash P "__module__", .str "__module__" 343, .str "whens.errors" 187⟩, ⟨PyData.keyHash P "__qualname__", .str "__qualname__" 345, .str "NoClash" 344⟩, ⟨PyData.keyHash P "__firstlineno__", .str "__firstlineno__" 347, .int 26 346⟩, er P "__init__" 356 136, er P "__static_attributes__" 359 137] 5, #[]⟩) (lf oz) .nil)))))) (.node (boot_o_2 P) (.node (boot_o_4 P) (.node (boot_o_8 P) (.node (⟨.type "builtin_function_or_method", none, .fields #[Value.builtin "type.__prepare__", .type "type"], #[]⟩) (.node (⟨.none, none, .fields #[.int 6 0, .int 4 0, .ref 40], #[]⟩) (.node (⟨.type "super", none, .fields #[.ref 63, .ref 63, .ref 63], #[]⟩) (lf (⟨.type "code", none, .fields #[.str "NoClash" 338, .str "NoClash" 339, .str "/claim/cut.py" 340, .int 26 0, .int 0 0, .int 0 0, .int 0 0, .int 0 0, .ref 126, .bool false, .int 181 0, .ref 127, .none, .none, .none, .none, .int 341 0, .int 26 0, .str "/claim/cut.py" 342], #[]⟩)) (lf o192)) (.node (mm 5 0 "TooMany.__init__" (.none) 0 [] .none .none .none .none none .none .none 0) (lf (⟨.type "builtin_function_or_method", none, .fields #[Value.builtin "object.__init_subclass__", .ref 158], #[]⟩)) (lf oz))) (.node (⟨.type "builtin_function_or_method", none, .fields #[Value.builtin "type.__prepare__", .type "type"], #[]⟩) (.node o80 (lf (⟨.type "dict", none, .dict #[⟨PyData.keyHash P "__module__", .str "__module__" 370, .str "whens.errors" 187⟩, ⟨PyData.keyHash P "__qualname__", .str "__qualname__" 372, .str "NoThing" 371⟩, ⟨PyData.keyHash P "__firstlineno__", .str "__firstlineno__" 374, .int 31 373⟩, er P "__init__" 382 155, er P "__static_attributes__" 384 156] 5, #[]⟩)) (lf (⟨.type "builtin_function_or_method", none, .fields #[Value.builtin "object.__init_subclass__", .ref 206], #[]⟩))) (.node oz (lf (tq [])) (lf o240)))) (.node o24 (.node o40 (.node (⟨.type "frame", none, .plain, #[some (.ref 71), some (.ref 3), some (.ref 68), none, some (.str "whens.errors" 187), none, some (.ref 0)]⟩) (lf o136) (lf (tq []))) (.node o104 (lf o168) (lf o232))) (.node o56 (.node (tq []) (lf o152) (lf o216)) (.node o120 (lf (⟨.type "builtin_function_or_method", none, .fields #[Value.builtin "object.__init_subclass__", .ref 182], #[]⟩)) .nil)))) (.node (⟨.none, none, .fields #[.int 2 0, .int 0 0, .ref 20, .int 4 0, .int 0 0, .ref 33, .int 9 0, .int 0 0, .ref 52, .int 14 0, .int 0 0, .ref 71, .int 18 0, .int 0 0, .ref 90, .int 22 0, .int 0 0, .ref 109, .int 26 0, .int 0 0, .ref 128, .int 31 0, .int 0 0, .ref 147, .int 35 0, .int 0 0, .ref 166, .int 37 0, .int 0 0, .ref 178, .int 39 0, .int 0 0, .ref 190, .int 41 0, .int 0 0, .ref 202, .int 44 0, .int 0 0, .ref 214, .int 46 0, .int 0 0, .ref 221, .int 68 0, .int 0 0, .ref 228, .int 75 0, .int 0 0, .ref 235, .int 80 0, .int 0 0, .ref 240], #[]⟩) (.node (⟨.type "code", none, .fields #[.str "SayError" 191, .str "SayError" 192, .str "/claim/cut.py" 193, .int 2 0, .int 0 0, .int 0 0, .int 0 0, .int 0 0, .ref 18, .bool false, .int 181 0, .ref 19, .none, .none, .none, .none, .int 194 0, .int 2 0, .str "/claim/cut.py" 195], #[]⟩) (.node oz (.node (⟨.type "dict", none, .dict #[⟨PyData.keyHash P "__module__", .str "__module__" 268, .str "whens.errors" 187⟩, ⟨PyData.keyHash P "__qualname__", .str "__qualname__" 270, .str "NoPlain" 269⟩, ⟨PyData.keyHash P "__firstlineno__", .str "__firstlineno__" 272, .int 14 271⟩, er P "__init__" 280 79, er P "__static_attributes__" 282 80] 5, #[]⟩) (lf o132) (lf (⟨.type "builtin_function_or_method", none, .fields #[Value.builtin "object.__init_subclass__", .ref 194], #[]⟩))) (.node (o100 P) (lf (tq [])) (lf o228))) (.node (⟨.type "code", none, .fields #[.str "NoPaper" 236, .str "NoPaper" 237, .str "/claim/cut.py" 238, .int 9 0, .int 0 0, .int 0 0, .int 0 0, .int 0 0, .ref 50, .bool false, .int 181 0, .ref 51, .none, .none, .none, .none, .int 239 0, .int 9 0, .str "/claim/cut.py" 240], #[]⟩) (.node (⟨.type "builtin_function_or_method", none, .fields #[Value.builtin "object.__init_subclass__", .ref 82], #[]⟩) (lf (⟨.type "frame", none, .plain, #[some (.ref 147), some (.ref 3), some (.ref 144), none, some (.str "whens.errors" 187), none, some (.ref 0)]⟩)) (lf o212)) (.node o116 (lf o180) .nil))) (.node o28 (.node o44 (.node o76 (lf (⟨.type "super", none, .fields #[.ref 139, .ref 139, .ref 139], #[]⟩)) (lf o204)) (.node (⟨.none, none, .fields #[.int 24 0, .int 4 0, .ref 116], #[]⟩) (lf (⟨.type "builtin_function_or_method", none, .fields #[Value.builtin "object.__init_subclass__", .ref 170], #[]⟩)) (lf o236))) (.node o60 (.node o92 (lf o156) (lf (mz 15))) (.node (⟨.type "builtin_function_or_method", none, .fields #[Value.builtin "type.__prepare__", .type "type"], #[]⟩) (lf (tq [])) .nil))))) (.node (boot_o_6 P) (.node (boot_o_10 P) (.node (tq []) (.node (⟨.type "frame", none, .plain, #[some (.ref 33), some (.ref 3), some (.ref 30), none, some (.str "whens.errors" 187), none, some (.ref 0)]⟩) (.node o66 (lf o130) (lf o194)) (.node o98 (lf (⟨.type "builtin_function_or_method", none, .fields #[Value.builtin "type.__prepare__", .type "type"], #[]⟩)) (lf o226))) (.node (tq []) (.node o82 (lf (⟨.none, none, .fields #[.int 33 0, .int 4 0, .ref 154], #[]⟩)) (lf oz)) (.node o114 (lf (⟨.type "code", none, .fields #[.str "NoLevel" 406, .str "NoLevel" 407, .str "/claim/cut.py" 408, .int 37 0, .int 0 0, .int 0 0, .int 0 0, .int 0 0, .ref 176, .bool false, .int 181 0, .ref 177, .none, .none, .none, .none, .int 409 0, .int 37 0, .str "/claim/cut.py" 410], #[]⟩)) .nil))) (.node (⟨.type "super", none, .fields #[.ref 24, .ref 24, .ref 24], #[]⟩) (.node o42 (.node oz (lf (o138 P)) (lf (⟨.type "code", none, .fields #[.str "NoRow" 438, .str "NoRow" 439, .str "/claim/cut.py" 440, .int 41 0, .int 0 0, .int 0 0, .int 0 0, .int 0 0, .ref 200, .bool false, .int 181 0, .ref 201, .none, .none, .none, .none, .int 441 0, .int 41 0, .str "/claim/cut.py" 442], #[]⟩))) (.node (⟨.type "dict", none, .dict #[⟨PyData.keyHash P "__module__", .str "__module__" 318, .str "whens.errors" 187⟩, ⟨PyData.keyHash P "__qualname__", .str "__qualname__" 320, .str "NoSpan" 319⟩, ⟨PyData.keyHash P "__firstlineno__", .str "__firstlineno__" 322, .int 22 321⟩, er P "__init__" 330 117, er P "__static_attributes__" 332 118] 5, #[]⟩) (lf o170) (lf (mz 17)))) (.node (mm 3 0 "NoPaper.__init__" (.none) 0 [] .none .none .none .none none .none .none 0) (.node (⟨.type "code", none, .fields #[.str "TooMany" 288, .str "TooMany" 289, .str "/claim/cut.py" 290, .int 18 0, .int 0 0, .int 0 0, .int 0 0, .int 0 0, .ref 88, .bool false, .int 181 0, .ref 89, .none, .none, .none, .none, .int 291 0, .int 18 0, .str "/claim/cut.py" 292], #[]⟩) (lf o154) (lf o218)) (.node (⟨.type "builtin_function_or_method", none, .fields #[Value.builtin "object.__init_subclass__", .ref 120], #[]⟩) (lf (⟨.type "builtin_function_or_method", none, .fields #[Value.builtin "type.__prepare__", .type "type"], #[]⟩)) .nil)))) (.node (⟨.type "frame", none, .plain, #[some (.ref 13), some (.ref 3), some (.ref 3), none, some (.str "__main__" 164), none, some (.ref 0)]⟩) (.node o22 (.node o38 (.node (⟨.none, none, .fields #[.int 16 0, .int 4 0, .ref 78], #[]⟩) (lf (mm 7 0 "NoClash.__init__" (.none) 0 [] .none .none .none .none none .none .none 0)) (lf (⟨.type "builtin_function_or_method", none, .fields #[Value.builtin "type.__prepare__", .type "type"], #[]⟩))) (.node (⟨.type "super", none, .fields #[.ref 101, .ref 101, .ref 101], #[]⟩) (lf (⟨.type "code", none, .fields #[.str "NoSaying" 390, .str "NoSaying" 391, .str "/claim/cut.py" 392, .int 35 0, .int 0 0, .int 0 0, .int 0 0, .int 0 0, .ref 164, .bool false, .int 181 0, .ref 165, .none, .none, .none, .none, .int 393 0, .int 35 0, .str "/claim/cut.py" 394], #[]⟩)) (lf o230))) (.node o54 (.node (⟨.type "builtin_function_or_method", none, .fields #[Value.builtin "type.__prepare__", .type "type"], #[]⟩) (lf oz) (lf o214)) (.node o118 (lf o182) .nil))) (.node (⟨.type "dict", none, .dict #[⟨PyData.keyHash P "__module__", .str "__module__" 214, .str "whens.errors" 187⟩, ⟨PyData.keyHash P "__qualname__", .str "__qualname__" 216, .str "NoText" 215⟩, ⟨PyData.keyHash P "__firstlineno__", .str "__firstlineno__" 218, .int 4 217⟩, er P "__init__" 227 41, er P "__static_attributes__" 230 42] 5, #[]⟩) (.node (⟨.type "builtin_function_or_method", none, .fields #[Value.builtin "object.__init_subclass__", .ref 44], #[]⟩) (.node o78 (lf o142) (lf o206)) (.node (⟨.type "frame", none, .plain, #[some (.ref 109), some (.ref 3), some (.ref 106), none, some (.str "whens.errors" 187), none, some (.ref 0)]⟩) (lf (⟨.type "builtin_function_or_method", none, .fields #[Value.builtin "type.__prepare__", .type "type"], #[]⟩)) (lf oz))) (.node (o62 P) (.node o94 (lf o158) (lf o222)) (.node (tq []) (lf (⟨.type "code", none, .fields #[.str "NoNumber" 422, .str "NoNumber" 423, .str "/claim/cut.py" 424, .int 39 0, .int 0 0, .int 0 0, .int 0 0, .int 0 0, .ref 188, .bool false, .int 181 0, .ref 189, .none, .none, .none, .none, .int 425 0, .int 39 0, .str "/claim/cut.py" 426], #[]⟩)) .nil)))))))
def tB (P : Params) : BT := (.node (boot_o_0 P) (.node (boot_o_1 P) (.node (boot_o_3 P) (lf (boot_o_7 P)) (lf (tq []))) (.node (boot_o_5 P) (lf (boot_o_9 P)) (lf (⟨.type "code", none, .fields #[.str "<module>" 182, .str "<module>" 183, .str "/claim/cut.py" 184, .int 1 0, .int 0 0, .int 0 0, .int 0 0, .int 0 0, .ref 11, .bool false, .int 181 0, .ref 12, .none, .none, .none, .none, .int 185 0, .int 1 0, .str "/claim/cut.py" 186], #[]⟩)))) (.node (boot_o_2 P) (.node (boot_o_4 P) (lf (boot_o_8 P)) (lf oz)) (.node (boot_o_6 P) (lf (boot_o_10 P)) (lf (⟨.type "frame", none, .plain, #[some (.ref 13), some (.ref 3), some (.ref 3), none, some (.str "__main__" 164), none, some (.ref 0)]⟩)))))
def env0 : Env := { scope := prog.main.scope, locals := mainNs, globals := mainNs, cells := [], code := .ref 13, frame := some 14 }
def stsR (a n : Nat) : List Stmt := (prog.main.body.drop a).take n
end H97
set_option maxRecDepth 100000
set_option maxHeartbeats 0
set_option Elab.async false
namespace H97
open PySem PySem.W HD
abbrev TV (t : BT) (n k : Nat) (os : OsState) : SharedT := ⟨t, n, {}, ⟨[]⟩, {}, k, os⟩
section
variable (w : World) (p : Program) (b : List Stmt) (os : OsState)
abbrev cB (b : List Stmt) : Code := Code.body b env0
theorem run1 : segRunT treeTable p w 11 (some (.ref 6)) 1 2930 (TV (tB w.params) 15 187 os) (piecesOf (stsR 0 19) env0 (cB b) q0 [topFrame q0]) = some (.next, TV (tF w.params) 242 498 os, cB b, ⟨80, 0, 95, 103⟩) := by
  refine byRow2 "special-get-raises" (P := fun w => segRunT treeTable p w 11 (some (.ref 6)) 1 2930 (TV (tB w.params) 15 187 os) (piecesOf (stsR 0 19) env0 (cB b) q0 [topFrame q0]) = some (.next, TV (tF w.params) 242 498 os, cB b, ⟨80, 0, 95, 103⟩)) (fun w => ?_) (fun w => ?_) w
  · rw [Fast.te10110043849684766642, Fast.te14364793385576792824]; kernel_rfl
  · rw [Fast.te10110043849684766642, Fast.te14364793385576792824]; kernel_rfl
end
abbrev bE : List Stmt := behindTheImports prog
theorem body_is : bE = stsR 0 19 ++ [] := by kernel_rfl
abbrev SB (w : World) (os : OsState) : SharedT := ⟨tB w.params, 15, {}, ⟨[]⟩, {}, 187, os⟩
section
variable (w : World) (os : OsState)
theorem top_pre : topGo treeTable prog w 11 (some (.ref 6)) 12 ⟨boot_heap w.params, ⟨[]⟩, boot_drawn, boot_toks, os⟩ (topStub prog) = some ((SB w os).abs, ⟨denote treeTable (.body bE env0), .body bE env0, q0, [topFrame q0]⟩) := by
  rw [Fast.te15667345088766844465, Fast.te11892475500146522536, Fast.te14364793385576792824]; kernel_rfl
theorem top_block : segRun treeTable prog w 11 (some (.ref 6)) 1 1 (SB w os).abs (blockOf bE env0 (.body bE env0) q0 [topFrame q0]) = some (.next, (SB w os).abs, .body bE env0, q0) := by
  kernel_rfl
theorem top_fin (b : List Stmt) : topRun treeTable prog w 11 (some (.ref 6)) 2 (TV (tF w.params) 242 498 os).abs ⟨doneF .next, cB b, ⟨80, 0, 95, 103⟩, [topFrame q0]⟩ = some (TV (tF w.params) 242 498 os).abs := by
  kernel_rfl
theorem top_rest (b : List Stmt) : topRun treeTable prog w 11 (some (.ref 6)) (2930 + 2) (TV (tB w.params) 15 187 os).abs (restOf (stsR 0 19 ++ []) env0 (.body b env0) q0 [topFrame q0]) = some (TV (tF w.params) 242 498 os).abs := by
  exact piece_app (segRun_of (run1 w prog b os)) (piece_nil (top_fin w os b))
def H1 (P : Params) : Heap := absHeap (tF P) 242 {}
theorem top_run : topRun treeTable prog w 11 (some (.ref 6)) (12 + (1 + ((2930 + 2)))) ⟨boot_heap w.params, ⟨[]⟩, boot_drawn, boot_toks, os⟩ (topStub prog) = some ⟨H1 w.params, ⟨[]⟩, {}, 498, os⟩ := by
  refine go_top (top_pre w os) (piece_block (top_block w os) ?_)
  rw [body_is]
  exact top_rest w os _
end
def qv : Program := view prog [1, 2, 3, 4, 5, 6, 7, 8, 9, 10, 11, 12, 14, 15, 16, 17, 18]
def lo : List Str := []
abbrev lw : OpenLaw := PySem.Challenge.rw_whens_k97_refusals_apart
abbrev XT : Shared → Bool := fun s => xlAt qv [] s && recOk (RowW.records lw.row.toRowW) s
theorem left_open (N : Nat) (h : Nat.ble 600 N = true) : ∀ w : World, (fencedOpening treeTable prog w N).map (fun s => (s.heap, s.gens, s.drawn, s.toks)) = some (boot_heap w.params, ⟨[]⟩, boot_drawn, boot_toks) := boot_open (by kernel_rfl) h (fun _ => rfl)
theorem left_size (w : World) : ((boot_heap w.params).isNs mainGlobals && (⟨[]⟩ : Array GenState).size == 0, (boot_heap w.params).objs.size, (boot_heap w.params).nsMap mainGlobals "__annotations__") = (true, 11, some (.ref 6)) := by kernel_rfl
theorem look1 (w : World) (os : OsState) : (staticsOk (importedModules prog.main.body) (boot_heap w.params) (H1 w.params) && namesBound prog (H1 w.params) && gensDone ⟨H1 w.params, ⟨[]⟩, {}, 498, os⟩ && laidKept (boot_heap w.params) (H1 w.params)) = true := by kernel_rfl
theorem look2 (w : World) (os : OsState) : openSeen qv lo (importedModules prog.main.body) XT true ⟨H1 w.params, ⟨[]⟩, {}, 498, os⟩ = openGood qv lo := by
  rw [Fast.te4187177175401517315]; kernel_rfl
theorem left (H : Hook) (hH : ∀ (w : World) (os : OsState), H.obs ⟨H1 w.params, ⟨[]⟩, {}, 498, os⟩ = H.val w) : LeftO prog qv lo XT H.obs H.val 6884 :=
  LeftO.of_pieces (H₀ := boot_heap) (H₁ := H1) (gs₀ := ⟨[]⟩) (gs₁ := ⟨[]⟩) (d₀ := boot_drawn) (d₁ := {}) (k₀ := boot_toks) (k₁ := 498) (m₀ := 11) (ann := some (.ref 6)) (M := 2945) (left_open 6884 (by decide)) left_size top_run (by decide) fun w => funext fun os => by rw [look1 w os, look2 w os, hH w os]
theorem head {H : Hook} {d : DefRec} {kwd : List (Str × Expr)} (hH : ∀ (w : World) (os : OsState), H.obs ⟨H1 w.params, ⟨[]⟩, {}, 498, os⟩ = H.val w) (k1 : lw.row.wellSaid = true) (hdef : defOf qv lw.row.name = some (d, kwd)) (hp : lw.row.prog.theDef lw.row.name = some (d.params, d.body, d.scope)) (hk : kwWritten? d.params.kwonlyargs d.params.kw_defaults = some kwd)
    (hw : lw.row.toRowW.promised) (call : WalkO qv lo (XL qv []) H.says lw.row.toRowW d kwd fun f vs => PySem.call f vs) : lw.row.Holds :=
  holds_open (q := qv) (loose := lo) (Xt := XT) (XP := XL qv []) (Yf := H.obs) (Ya := H.val) (YP := H.says) (N := 6884) (left H hH) (Hook.of H) (Hook.keeps H) (fun s e => xl_of s (Bool.and_eq_true_iff.mp e).1) XL.keeps hdef hp hk (fun s e => recFacts_of (Bool.and_eq_true_iff.mp e).2) (by rfl) k1 (by decide +kernel) ⟨rfl, rfl, rfl, rfl, rfl, by decide +kernel⟩ hw call
end H97
namespace K97
open PySem PySem.Spec PyProof.Rows L2 DL
def kk (P : Params) : PySem.W.Frag := [(3, H97.o3 P), (23, H97.o23 P), (24, H97.o24), (40, H97.o40), (41, H97.o41), (43, H97.o43 P), (44, H97.o44), (59, H97.o59), (60, H97.o60), (62, H97.o62 P), (63, H97.o63), (78, H97.o78), (79, H97.o79), (81, H97.o81 P), (82, H97.o82), (97, H97.o97), (98, H97.o98), (100, H97.o100 P), (101, H97.o101), (116, H97.o116), (117, H97.o117), (119, H97.o119 P), (120, H97.o120), (135, H97.o135), (136, H97.o136), (138, H97.o138 P), (139, H97.o139), (154, H97.o154), (155, H97.o155), (157, H97.o157 P), (158, H97.o158), (169, H97.o169 P), (170, H97.o170), (181, H97.o181 P), (182, H97.o182), (193, H97.o193 P), (194, H97.o194), (205, H97.o205 P), (206, H97.o206), (214, H97.o214), (215, H97.o215), (221, H97.o221), (222, H97.o222), (228, H97.o228), (229, H97.o229), (235, H97.o235), (236, H97.o236), (240, H97.o240), (241, H97.o241)]
section
variable {w : World}
theorem X_NoText : XKn (kk w.params) 44 "NoText" := xkn (by kernel_rfl) (by kernel_rfl) (by kernel_rfl) (by kernel_rfl) (by kernel_rfl) (by kernel_rfl) (by kernel_rfl) (by kernel_rfl) (by kernel_rfl)
theorem X_NoPaper : XKn (kk w.params) 63 "NoPaper" := xkn (by kernel_rfl) (by kernel_rfl) (by kernel_rfl) (by kernel_rfl) (by kernel_rfl) (by kernel_rfl) (by kernel_rfl) (by kernel_rfl) (by kernel_rfl)
theorem X_NoPlain : XKn (kk w.params) 82 "NoPlain" := xkn (by kernel_rfl) (by kernel_rfl) (by kernel_rfl) (by kernel_rfl) (by kernel_rfl) (by kernel_rfl) (by kernel_rfl) (by kernel_rfl) (by kernel_rfl)
theorem X_TooMany : XKn (kk w.params) 101 "TooMany" := xkn (by kernel_rfl) (by kernel_rfl) (by kernel_rfl) (by kernel_rfl) (by kernel_rfl) (by kernel_rfl) (by kernel_rfl) (by kernel_rfl) (by kernel_rfl)
theorem X_NoSpan : XKn (kk w.params) 120 "NoSpan" := xkn (by kernel_rfl) (by kernel_rfl) (by kernel_rfl) (by kernel_rfl) (by kernel_rfl) (by kernel_rfl) (by kernel_rfl) (by kernel_rfl) (by kernel_rfl)
theorem X_NoClash : XKn (kk w.params) 139 "NoClash" := xkn (by kernel_rfl) (by kernel_rfl) (by kernel_rfl) (by kernel_rfl) (by kernel_rfl) (by kernel_rfl) (by kernel_rfl) (by kernel_rfl) (by kernel_rfl)
theorem X_NoThing : XKn (kk w.params) 158 "NoThing" := xkn (by kernel_rfl) (by kernel_rfl) (by kernel_rfl) (by kernel_rfl) (by kernel_rfl) (by kernel_rfl) (by kernel_rfl) (by kernel_rfl) (by kernel_rfl)
theorem X_NoSaying : XKn (kk w.params) 170 "NoSaying" := xkn (by kernel_rfl) (by kernel_rfl) (by kernel_rfl) (by kernel_rfl) (by kernel_rfl) (by kernel_rfl) (by kernel_rfl) (by kernel_rfl) (by kernel_rfl)
theorem X_NoLevel : XKn (kk w.params) 182 "NoLevel" := xkn (by kernel_rfl) (by kernel_rfl) (by kernel_rfl) (by kernel_rfl) (by kernel_rfl) (by kernel_rfl) (by kernel_rfl) (by kernel_rfl) (by kernel_rfl)
theorem X_NoNumber : XKn (kk w.params) 194 "NoNumber" := xkn (by kernel_rfl) (by kernel_rfl) (by kernel_rfl) (by kernel_rfl) (by kernel_rfl) (by kernel_rfl) (by kernel_rfl) (by kernel_rfl) (by kernel_rfl)
theorem X_NoRow : XKn (kk w.params) 206 "NoRow" := xkn (by kernel_rfl) (by kernel_rfl) (by kernel_rfl) (by kernel_rfl) (by kernel_rfl) (by kernel_rfl) (by kernel_rfl) (by kernel_rfl) (by kernel_rfl)
theorem X_SayError : XKn (kk w.params) 24 "SayError" := xkn (by kernel_rfl) (by kernel_rfl) (by kernel_rfl) (by kernel_rfl) (by kernel_rfl) (by kernel_rfl) (by kernel_rfl) (by kernel_rfl) (by kernel_rfl)
variable {P : Program} {mg : Str → Option Value} {base : Heap} (E : En kk P w mg base)
include E
theorem xr_NoText : XC1 P w (kk w.params) mg base "NoText" ["row", "word"] := xc1 E X_NoText ⟨⟨_, _, _, _, _, _, _, _, _, _, _, _, _, _, _, rfl, by kernel_rfl⟩⟩ (ps := ["self", "row", "word"]) (qual := "NoText.__init__") (st := inClass (top 2) 0) (fa := 41) (fun F => init_2 (N := ["self", "row", "word"]) F ⟨rfl, rfl, rfl, by decide +kernel, rfl, by decide +kernel, by decide +kernel⟩ rfl (by decide) fun _ _ _ _ _ _ => (pss_cons (ps_xset X_NoText.1.toXCl (show NoAttr (kk w.params) 44 "row" from (by kernel_rfl : PySem.W.findIn (kk w.params) (.ref 44) "row" = some none)) (pe_var (i := 0) rfl (.inl rfl)) (pe_var (i := 1) rfl (.inl rfl))) (pss_cons (ps_xset X_NoText.1.toXCl (show NoAttr (kk w.params) 44 "word" from (by kernel_rfl : PySem.W.findIn (kk w.params) (.ref 44) "word" = some none)) (pe_var (i := 0) rfl (.inl rfl)) (pe_var (i := 2) rfl (.inl rfl))) pss_nil))) (us_3 (by intros; rfl)) (by decide)
theorem xr_NoPaper : XC1 P w (kk w.params) mg base "NoPaper" ["path", "word"] := xc1 E X_NoPaper ⟨⟨_, _, _, _, _, _, _, _, _, _, _, _, _, _, _, rfl, by kernel_rfl⟩⟩ (ps := ["self", "path", "word"]) (qual := "NoPaper.__init__") (st := inClass (top 3) 0) (fa := 60) (fun F => init_2 (N := ["self", "path", "word"]) F ⟨rfl, rfl, rfl, by decide +kernel, rfl, by decide +kernel, by decide +kernel⟩ rfl (by decide) fun _ _ _ _ _ _ => (pss_cons (ps_xset X_NoPaper.1.toXCl (show NoAttr (kk w.params) 63 "path" from (by kernel_rfl : PySem.W.findIn (kk w.params) (.ref 63) "path" = some none)) (pe_var (i := 0) rfl (.inl rfl)) (pe_var (i := 1) rfl (.inl rfl))) (pss_cons (ps_xset X_NoPaper.1.toXCl (show NoAttr (kk w.params) 63 "word" from (by kernel_rfl : PySem.W.findIn (kk w.params) (.ref 63) "word" = some none)) (pe_var (i := 0) rfl (.inl rfl)) (pe_var (i := 2) rfl (.inl rfl))) pss_nil))) (us_3 (by intros; rfl)) (by decide)
theorem xr_NoPlain : XC1 P w (kk w.params) mg base "NoPlain" ["number"] := xc1 E X_NoPlain ⟨⟨_, _, _, _, _, _, _, _, _, _, _, _, _, _, _, rfl, by kernel_rfl⟩⟩ (ps := ["self", "number"]) (qual := "NoPlain.__init__") (st := inClass (top 4) 0) (fa := 79) (fun F => init_1 (N := ["self", "number"]) F ⟨rfl, rfl, rfl, by decide +kernel, rfl, by decide +kernel, by decide +kernel⟩ rfl fun _ _ _ _ _ _ => (pss_cons (ps_xset X_NoPlain.1.toXCl (show NoAttr (kk w.params) 82 "number" from (by kernel_rfl : PySem.W.findIn (kk w.params) (.ref 82) "number" = some none)) (pe_var (i := 0) rfl (.inl rfl)) (pe_var (i := 1) rfl (.inl rfl))) pss_nil)) (us_2 (by intros; rfl)) (by decide)
theorem xr_TooMany : XC1 P w (kk w.params) mg base "TooMany" ["word"] := xc1 E X_TooMany ⟨⟨_, _, _, _, _, _, _, _, _, _, _, _, _, _, _, rfl, by kernel_rfl⟩⟩ (ps := ["self", "word"]) (qual := "TooMany.__init__") (st := inClass (top 5) 0) (fa := 98) (fun F => init_1 (N := ["self", "word"]) F ⟨rfl, rfl, rfl, by decide +kernel, rfl, by decide +kernel, by decide +kernel⟩ rfl fun _ _ _ _ _ _ => (pss_cons (ps_xset X_TooMany.1.toXCl (show NoAttr (kk w.params) 101 "word" from (by kernel_rfl : PySem.W.findIn (kk w.params) (.ref 101) "word" = some none)) (pe_var (i := 0) rfl (.inl rfl)) (pe_var (i := 1) rfl (.inl rfl))) pss_nil)) (us_2 (by intros; rfl)) (by decide)
theorem xr_NoSpan : XC1 P w (kk w.params) mg base "NoSpan" ["word"] := xc1 E X_NoSpan ⟨⟨_, _, _, _, _, _, _, _, _, _, _, _, _, _, _, rfl, by kernel_rfl⟩⟩ (ps := ["self", "word"]) (qual := "NoSpan.__init__") (st := inClass (top 6) 0) (fa := 117) (fun F => init_1 (N := ["self", "word"]) F ⟨rfl, rfl, rfl, by decide +kernel, rfl, by decide +kernel, by decide +kernel⟩ rfl fun _ _ _ _ _ _ => (pss_cons (ps_xset X_NoSpan.1.toXCl (show NoAttr (kk w.params) 120 "word" from (by kernel_rfl : PySem.W.findIn (kk w.params) (.ref 120) "word" = some none)) (pe_var (i := 0) rfl (.inl rfl)) (pe_var (i := 1) rfl (.inl rfl))) pss_nil)) (us_2 (by intros; rfl)) (by decide)
theorem xr_NoClash : XC1 P w (kk w.params) mg base "NoClash" ["word", "number"] := xc1 E X_NoClash ⟨⟨_, _, _, _, _, _, _, _, _, _, _, _, _, _, _, rfl, by kernel_rfl⟩⟩ (ps := ["self", "word", "number"]) (qual := "NoClash.__init__") (st := inClass (top 7) 0) (fa := 136) (fun F => init_2 (N := ["self", "word", "number"]) F ⟨rfl, rfl, rfl, by decide +kernel, rfl, by decide +kernel, by decide +kernel⟩ rfl (by decide) fun _ _ _ _ _ _ => (pss_cons (ps_xset X_NoClash.1.toXCl (show NoAttr (kk w.params) 139 "word" from (by kernel_rfl : PySem.W.findIn (kk w.params) (.ref 139) "word" = some none)) (pe_var (i := 0) rfl (.inl rfl)) (pe_var (i := 1) rfl (.inl rfl))) (pss_cons (ps_xset X_NoClash.1.toXCl (show NoAttr (kk w.params) 139 "number" from (by kernel_rfl : PySem.W.findIn (kk w.params) (.ref 139) "number" = some none)) (pe_var (i := 0) rfl (.inl rfl)) (pe_var (i := 2) rfl (.inl rfl))) pss_nil))) (us_3 (by intros; rfl)) (by decide)
theorem xr_NoThing : XC1 P w (kk w.params) mg base "NoThing" ["name"] := xc1 E X_NoThing ⟨⟨_, _, _, _, _, _, _, _, _, _, _, _, _, _, _, rfl, by kernel_rfl⟩⟩ (ps := ["self", "name"]) (qual := "NoThing.__init__") (st := inClass (top 8) 0) (fa := 155) (fun F => init_1 (N := ["self", "name"]) F ⟨rfl, rfl, rfl, by decide +kernel, rfl, by decide +kernel, by decide +kernel⟩ rfl fun _ _ _ _ _ _ => (pss_cons (ps_xset X_NoThing.1.toXCl (show NoAttr (kk w.params) 158 "name" from (by kernel_rfl : PySem.W.findIn (kk w.params) (.ref 158) "name" = some none)) (pe_var (i := 0) rfl (.inl rfl)) (pe_var (i := 1) rfl (.inl rfl))) pss_nil)) (us_2 (by intros; rfl)) (by decide)
theorem xr_NoSaying : XC0 (kk w.params) mg "NoSaying" := xc0 E X_NoSaying ⟨⟨_, _, _, _, _, _, _, _, _, _, _, _, _, _, _, rfl, by kernel_rfl⟩⟩
theorem xr_NoLevel : XC0 (kk w.params) mg "NoLevel" := xc0 E X_NoLevel ⟨⟨_, _, _, _, _, _, _, _, _, _, _, _, _, _, _, rfl, by kernel_rfl⟩⟩
theorem xr_NoNumber : XC0 (kk w.params) mg "NoNumber" := xc0 E X_NoNumber ⟨⟨_, _, _, _, _, _, _, _, _, _, _, _, _, _, _, rfl, by kernel_rfl⟩⟩
theorem xr_NoRow : XC0 (kk w.params) mg "NoRow" := xc0 E X_NoRow ⟨⟨_, _, _, _, _, _, _, _, _, _, _, _, _, _, _, rfl, by kernel_rfl⟩⟩
theorem xt_SayError : XTr (kk w.params) mg "SayError" xL := ⟨24, E.m X_SayError.2, X_SayError.1.toXCl, by kernel_rfl⟩
theorem xi_NoPlain : XIs (kk w.params) mg "NoPlain" xL px_NoPlain := ⟨82, E.m (by kernel_rfl), by kernel_rfl⟩
theorem xi_NoPaper : XIs (kk w.params) mg "NoPaper" xL px_NoPaper := ⟨63, E.m (by kernel_rfl), by kernel_rfl⟩
theorem xi_NoText : XIs (kk w.params) mg "NoText" xL px_NoText := ⟨44, E.m (by kernel_rfl), by kernel_rfl⟩
theorem xi_NoClash : XIs (kk w.params) mg "NoClash" xL px_NoClash := ⟨139, E.m (by kernel_rfl), by kernel_rfl⟩
theorem xi_NoSpan : XIs (kk w.params) mg "NoSpan" xL px_NoSpan := ⟨120, E.m (by kernel_rfl), by kernel_rfl⟩
theorem xi_TooMany : XIs (kk w.params) mg "TooMany" xL px_TooMany := ⟨101, E.m (by kernel_rfl), by kernel_rfl⟩
theorem xi_NoLevel : XIs (kk w.params) mg "NoLevel" xL px_NoLevel := ⟨182, E.m (by kernel_rfl), by kernel_rfl⟩
theorem xi_NoSaying : XIs (kk w.params) mg "NoSaying" xL px_NoSaying := ⟨170, E.m (by kernel_rfl), by kernel_rfl⟩
theorem xi_NoThing : XIs (kk w.params) mg "NoThing" xL px_NoThing := ⟨158, E.m (by kernel_rfl), by kernel_rfl⟩
theorem xi_NoRow : XIs (kk w.params) mg "NoRow" xL px_NoRow := ⟨206, E.m (by kernel_rfl), by kernel_rfl⟩
theorem xi_NoNumber : XIs (kk w.params) mg "NoNumber" xL px_NoNumber := ⟨194, E.m (by kernel_rfl), by kernel_rfl⟩
local macro_rules | `(tactic| decreasing_trivial) => `(tactic| (intro _ _ _ _ _ _ _ _; repeat' first | (show QE _ _ _; first | exact qle_var _ | (show QE _ (.Constant _ _ _) _; first | exact qle_int | exact qle_str | exact qle_non | exact qle_bl) | (show QE _ (.Call _ _ _ _) _; first | refine qxi (by assumption) (En.z (by assumption) (by kernel_rfl)) ?_ | refine qcc (by assumption) (by assumption) ?_ | (show QE _ (.Call (.Name "repr" _) _ _ _) _; refine qle_callB (cd_repr (Room.u200 (by assumption)) (Room.gd (by assumption))) rfl (En.z (by assumption) (by kernel_rfl)) boot_repr_ ?_) | (show QE _ (.Call (.Name "len" _) _ _ _) _; refine qle_callB cd_len rfl (En.z (by assumption) (by kernel_rfl)) boot_len_ ?_) | (show QE _ (.Call (.Name "tuple" _) _ _ _) _; refine qle_callTy cd_tuple rfl (En.z (by assumption) (by kernel_rfl)) boot_tuple_ ?_) | (show QE _ (.Call (.Name "isinstance" _) _ _ _) _; refine qle_isEb (En.z (by assumption) (by kernel_rfl)) (En.z (by assumption) (by kernel_rfl)) bootE_ValueError (by kernel_rfl) ?_)) | refine qle_ix ?_ ?_ | refine qle_lst ?_ | (show QE _ (.BinOp _ .Mod _ _) (DL.LE _ (dBin aMod _ _)); refine qle_bin od_mod ?_ ?_) | (show QE _ (.BinOp _ .Add _ _) (DL.LE _ (dBin aAdd _ _)); refine qle_bin od_add ?_ ?_) | refine qle_xfld (by kernel_rfl) ?_ | refine qle_lcB rfl ?_ (fun _ _ _ _ _ _ => ?_) (fun _ _ _ _ _ _ => ?_) (fun _ _ _ _ _ _ => ?_) | (show QE _ (.Compare _ [.Eq] _ _) (DL.LE _ (dBin aEq _ _)); refine qle_cmp (od_eq (Room.u100 (by assumption))) ?_ ?_) | refine qle_ite ?_ ?_ ?_ | refine qle_tup ?_) | (show QA _ _ _; first | refine qla_cons ?_ ?_ | exact qla_nil) | (show QSs _ _ _; first | exact qlss_nil | refine qlss_cons ?_ ?_) | (show QSsx _ _ _; first | refine qlssx_cons ?_ ?_ | refine qlssx_pure ?_) | (show QS _ _ _; first | refine qls_set _ (by first | assumption | exact nd_of (by kernel_rfl)) ?_ | refine qls_ret ?_ | refine qls_if ?_ ?_ ?_ | refine qxt (by assumption) (by first | assumption | exact nd_of (by kernel_rfl)) ?_ (fun _ => ?_) | refine qls_lcB _ rfl (by first | assumption | exact nd_of (by kernel_rfl)) ?_ (fun _ _ _ _ _ _ => ?_) (fun _ _ _ _ _ _ => ?_) (fun _ _ _ _ _ _ => ?_) | refine qls_for PassesOwn.never rfl ?_ ?_ ?_) | (show QSx _ _ _; first | refine qlsx_if ?_ ?_ ?_ | refine qxr (by assumption) (by assumption) ?_ | refine qxr0 (by assumption) ?_ | refine qlsx_expr ?_) | (show QT _ _ _; first | (show QT _ (.Compare _ _ _ _) _; first | (show QT _ (.Compare _ [.Eq] _ _) (DL.LT _ (dTst (dBin aEq _ _))); refine qlt_cmp (od_eq (Room.u100 (by assumption))) ?_ ?_) | (show QT _ (.Compare _ [.NotEq] _ _) (DL.LT _ (dTst (dBin aNe _ _))); refine qlt_cmp (od_ne (Room.u100 (by assumption))) ?_ ?_) | (show QT _ (.Compare _ [.Gt] _ _) (DL.LT _ (dTst (dBin aGt _ _))); refine qlt_cmp od_gt ?_ ?_)) | refine qlt_not ?_ | refine qlt_val ?_ | refine QW.pt (qlw_or ?_ ?_)) | (show QI _ _ (.Call (.Name "range" _) _ _ _) _; refine qli_range rfl (En.z (by assumption) (by kernel_rfl)) ?_) | (show QG _ _ _; first | exact qlg_name _ (by first | assumption | exact nd_of (by kernel_rfl))) | exact qpf_nil | (show QEx _ _ _; first | refine qxc (by assumption) (by assumption) ?_) | (show QW _ _ _; first | refine qlw_or1 ?_)))
theorem ok__law_cell : Cal P w (kk w.params) mg base "_law_cell" s__law_cell 215 p__law_cell 1 sp__law_cell := calE E vc__law_cell (by decreasing_trivial)
theorem ok__law_raise : CalX P w (kk w.params) mg base "_law_raise" s__law_raise 222 p__law_raise 3 sp__law_raise := calX E vc__law_raise (by have := xr_NoText E; have := xr_NoPaper E; have := xr_NoPlain E; have := xr_TooMany E; have := xr_NoSpan E; have := xr_NoClash E; have := xr_NoThing E; have := xr_NoSaying E; have := xr_NoLevel E; have := xr_NoNumber E; have := xr_NoRow E; decreasing_trivial)
theorem ok__law_taken : Cal P w (kk w.params) mg base "_law_taken" s__law_taken 229 p__law_taken 4 sp__law_taken := calE E vc__law_taken (by have := ok__law_raise E; have := xt_SayError E; decreasing_trivial)
theorem ok__law_kinds : Cal P w (kk w.params) mg base "_law_kinds" s__law_kinds 236 p__law_kinds 1 sp__law_kinds := calE E vc__law_kinds (by have := xi_NoPlain E; have := xi_NoPaper E; have := xi_NoText E; have := xi_NoClash E; have := xi_NoSpan E; have := xi_TooMany E; have := xi_NoLevel E; have := xi_NoSaying E; have := xi_NoThing E; have := xi_NoRow E; have := xi_NoNumber E; decreasing_trivial)
theorem ok_law : Cal P w (kk w.params) mg base "law" s_law 241 p_law 5 sp_law := calE E vc_law (by have := ok__law_cell E; have := ok__law_taken E; have := ok__law_kinds E; decreasing_trivial)
end
theorem fin {P : Program} {w : World} {mg : Str → Option Value} {fa : Addr} {h : Heap} (X : (kk w.params).In h) (G : h.Ns mainGlobals mg) (hfa : mg "law" = some (.ref fa)) :
    ∃ fd : FuncData, (∀ (s : Shared) (v : Value), BindsTo s fd ⟨[v], []⟩ [("_law_script", v)]) ∧ ∀ base : Heap, (kk w.params).In base → base.Ns mainGlobals mg → FnOk P w (kk w.params) mg base CX0 5 fa fd ["_law_script"] (LSp (kk w.params) 1 sp_law) :=
  law_ex (En.d (kk := kk) (P := P) (base := h) ⟨h, X, G⟩ (di (by kernel_rfl) rfl (by kernel_rfl) (by kernel_rfl))) hfa (fun _ _ _ _ _ _ => us_1 (by intros; rfl)) fun base => ok_law ⟨h, X, G⟩
theorem walk {l : PySem.W.OpenLaw} {q : Program} {loose : List Str} {XP : (Str → Option Value) → Heap → Prop} {YP : World → Heap → Prop} {d : DefRec} {K : Params → PySem.W.Frag} (hn : l.most = some 63) (hdf : d.params.defaults = [])
    (hY : ∀ (w : World) (h : Heap), YP w h → (K w.params).In h)
    (F : ∀ (w : World) (mg : Str → Option Value) (fa : Addr) (h : Heap), (K w.params).In h → h.Ns mainGlobals mg → mg d.name = some (.ref fa) →
      ∃ fd : FuncData, (∀ (s : Shared) (u : Value), BindsTo s fd ⟨[u], []⟩ [("_law_script", u)]) ∧ ∀ base : Heap, (K w.params).In base → base.Ns mainGlobals mg → FnOk l.prog w (K w.params) mg base CX0 5 fa fd ["_law_script"] (LSp (K w.params) 1 sp_law)) :
    PySem.W.WalkO q loose XP YP l.row.toRowW d [] (fun f vs => PySem.call f vs) :=
  L2.walk_of (n := 63) (k := 5) (x := "_law_script") (CX := fun _ => CX0) (sp := fun w => LSp (K w.params) 1 sp_law) hn (by decide) hdf ⟨rfl, rfl, by decide, by decide⟩ hY F (fun _ _ a ns hl _ hS => lsp_law hS ⟨ns, rfl, hl, fun _ => rfl⟩) fun _ _ _ _ _ z => z
end K97
open PySem PySem.W PyProof.Rows
set_option maxRecDepth 100000 in
set_option maxHeartbeats 0 in
theorem PySem.Challenge.cw_whens_k97_refusals_apart_holds : PySem.Challenge.rw_whens_k97_refusals_apart.Holds := by
  w_on; refine PySem.W.holds_law (by kernel_rfl) fun said => ?_; refine H97.head (H := kHook K97.kk [3, 23, 24, 40, 41, 43, 44, 59, 60, 62, 63, 78, 79, 81, 82, 97, 98, 100, 101, 116, 117, 119, 120, 135, 136, 138, 139, 154, 155, 157, 158, 169, 170, 181, 182, 193, 194, 205, 206, 214, 215, 221, 222, 228, 229, 235, 236, 240, 241] (fun _ => by kernel_rfl)) (fun w os => by kernel_rfl) (by assumption) (by rfl) (by rfl) (by rfl) ?hw ?hc; (case hw => w_witness2)
  k_fill
  refine K97.walk (l := PySem.Challenge.rw_whens_k97_refusals_apart) rfl rfl (fun w h Y => PySem.W.kIn_of Y) ?F
  case F =>
    exact fun w mg fa h KX G hmg => K97.fin KX G hmg
#print axioms PySem.Challenge.cw_whens_k97_refusals_apart_holds
