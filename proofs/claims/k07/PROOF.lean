import PyProof.Rows.All
import Wide.All
import OpenK.AllK
import Wide.FinOn
import Lean
import PyProof.EqAt
import PyProof.EqKinds
import PyProof.TupleCall
import PyProof.ListMulRoad
import KE.KRevIter
import PyProof.ZipIter
import PyProof.TupleIter
import PyProof.Rows.SortWalk
import PyProof.Rows.SortStr
import PyProof.Rows.StrWeight2
import PyProof.ConsumeWalk
import PyProof.SliceStr2
import PyProof.ListRange
import PyProof.TupleOfSeq
import PyProof.P3In
import PyProof.AttrMissHeap
import KE.KDictOf
import PyProof.StrBlockI
import PyProof.WalksEnum
import PyProof.EnumMake
import PyProof.DictWalks
import PyProof.SetRoads
import PyProof.SetNew
import PyProof.Rows.SetFrom
import PyProof.CollectWalk
import PyProof.StrWalks
import PyProof.FString5
import Open.Tops
import PyProof.DictDisplay
import PyProof.Rows.TupDisplay
import PySem.Challenge.RW_whens_k07_mays_behind_mays
set_option Elab.async false
set_option linter.all false
set_option maxRecDepth 100000
set_option maxHeartbeats 4000000
set_option Elab.async false
set_option linter.all false
set_option maxRecDepth 100000
namespace L2
open PySem PySem.Spec PyProof.Rows
noncomputable instance decPy : DecidableEq PyData := fun _ _ => Classical.propDecidable _
mutual
/-- what may stand in a key: ints, texts, tuples of these -/
def isK : PyData → Bool
  | .int _ => true
  | .str x => PyData.strOk x
  | .tuple xs => isKs xs
  | .none | .bool _ | .list _ | .dict _ => false
def isKs : List PyData → Bool
  | [] => true
  | x :: xs => isK x && isKs xs
end
mutual
def hashK (w : World) : PyData → Int
  | .int i => hashInt i
  | .str x => hashStr w x
  | .tuple xs => reduceHash (Builtin.Tuple.tupleHashOf (hashKs w xs))
  | .none | .bool _ | .list _ | .dict _ => 0
def hashKs (w : World) : List PyData → List Int
  | [] => []
  | x :: xs => hashK w x :: hashKs w xs
end
mutual
def drawsK : PyData → Nat
  | .int _ | .str _ => 1
  | .tuple xs => drawsKs xs + 1
  | .none | .bool _ | .list _ | .dict _ => 0
def drawsKs : List PyData → Nat
  | [] => 0
  | x :: xs => drawsK x + drawsKs xs
end
mutual
theorem isK_lay : ∀ p : PyData, isK p = true → p.canLay0 = true
  | .int _, _ => rfl
  | .str _, h => h
  | .tuple xs, h => isKs_lay xs h
  | .none, h | .bool _, h | .list _, h | .dict _, h => by simp [isK] at h
theorem isKs_lay : ∀ ps : List PyData, isKs ps = true → PyData.canLayAll0 ps = true
  | [], _ => rfl
  | x :: xs, h => by
    simp only [isKs, Bool.and_eq_true] at h
    simp only [PyData.canLayAll0, isK_lay x h.1, isKs_lay xs h.2, Bool.and_self]
end
mutual
theorem isK_eqv : ∀ p q : PyData, isK p = true → isK q = true → p.eqv q = decide (p = q)
  | .int i, .int j, _, _ => by
    simp only [PyData.eqv, PyData.int.injEq]
    exact Bool.eq_iff_iff.mpr (by simp)
  | .str x, .str y, _, _ => by
    simp only [PyData.eqv, PyData.str.injEq]
    exact Bool.eq_iff_iff.mpr (by simp)
  | .tuple xs, .tuple ys, h, h' => by
    have e := isKs_eqv xs ys h h'
    simp only [PyData.eqv, PyData.tuple.injEq]
    exact e
  | .int i, .str y, _, _ | .str y, .int i, _, _ | .int i, .tuple y, _, _ | .tuple y, .int i, _, _ | .str i, .tuple y, _, _ | .tuple y, .str i, _, _ => by
    simp only [PyData.eqv]
    exact (decide_eq_false (fun e => nomatch e)).symm
  | .none, _, h, _ | .bool _, _, h, _ | .list _, _, h, _ | .dict _, _, h, _ => by simp [isK] at h
  | .int _, .none, _, h | .int _, .bool _, _, h | .int _, .list _, _, h | .int _, .dict _, _, h => by simp [isK] at h
  | .str _, .none, _, h | .str _, .bool _, _, h | .str _, .list _, _, h | .str _, .dict _, _, h => by simp [isK] at h
  | .tuple _, .none, _, h | .tuple _, .bool _, _, h | .tuple _, .list _, _, h | .tuple _, .dict _, _, h => by simp [isK] at h
theorem isKs_eqv : ∀ p q : List PyData, isKs p = true → isKs q = true → PyData.eqvAll p q = decide (p = q)
  | [], [], _, _ => by simp [PyData.eqvAll]
  | [], _ :: _, _, _ => by simp [PyData.eqvAll]
  | _ :: _, [], _, _ => by simp [PyData.eqvAll]
  | x :: xs, y :: ys, h, h' => by
    simp only [isKs, Bool.and_eq_true] at h h'
    simp only [PyData.eqvAll, isK_eqv x y h.1 h'.1, isKs_eqv xs ys h.2 h'.2, List.cons.injEq]
    exact (Bool.decide_and _ _).symm
end
mutual
/-- a key stays while only a dict is written -/
theorem reads_keep {h h' : Heap} {d : Addr} {o : Obj} {es ep} (ho : h.get? d = some o) (hd : o.data = .dict es ep) (hs : Heap.SameBut d h h') :
    ∀ (p : PyData) (v : Value) (as : List Addr), isK p = true → Reads h v p as → Reads h' v p as
  | .int _, _, _, _, r => by cases r; exact .int _ _
  | .str _, _, _, _, r => by cases r; exact .str _ _
  | .tuple xs, _, _, hk, r => by
    cases r with
    | tuple h1 h2 h3 h4 =>
      rename_i a ob vs n
      have hne : a ≠ d := by
        rintro rfl
        obtain rfl : ob = o := Option.some.inj (h1.symm.trans ho)
        rw [hd] at h3; exact nomatch h3
      exact .tuple ((hs.2 _ hne).trans h1) h2 h3 (readsAll_keep ho hd hs xs _ _ hk h4)
  | .none, _, _, h, _ | .bool _, _, _, h, _ | .list _, _, _, h, _ | .dict _, _, _, h, _ => by simp [isK] at h
theorem readsAll_keep {h h' : Heap} {d : Addr} {o : Obj} {es ep} (ho : h.get? d = some o) (hd : o.data = .dict es ep) (hs : Heap.SameBut d h h') :
    ∀ (ps : List PyData) (vs : List Value) (as : List Addr), isKs ps = true → ReadsAll h vs ps as → ReadsAll h' vs ps as
  | [], _, _, _, r => by cases r; exact .nil
  | x :: xs, _, _, hk, r => by
    simp only [isKs, Bool.and_eq_true] at hk
    cases r with
    | cons r1 r2 => exact .cons (reads_keep ho hd hs x _ _ hk.1 r1) (readsAll_keep ho hd hs xs _ _ hk.2 r2)
end
section
variable {prog : Program} {w : World}
mutual
theorem hash_reads : ∀ (p : PyData) (v : Value) (A : Around) (E : Value → Shared → Prop) (s : Shared) (as : List Addr) (Q : Int → Shared → Prop), isK p = true → Reads s.heap v p as → A.units + p.depth < cLine →
    Q (hashK w p) { s with toks := s.toks + drawsK p } → wpAny (model prog w) A (pyHash v) Q E s
  | .int i, _, A, E, s, _, Q, _, r, _, h => by cases r; exact wpAny_pyHash_int h
  | .str x, _, A, E, s, _, Q, _, r, _, h => by cases r; exact wpAny_pyHash_str h
  | .tuple xs, _, A, E, s, _, Q, hk, r, hu, h => by
    cases r with
    | tuple h1 h2 h3 h4 =>
      refine PySem.W.pyHash_slot (T := "tuple") ⟨_, h1, h2⟩ F.slot_tuple_hash F.entry_tuple_hash (F.args_tuple_hash_1 _) (beq_builtin_none _) (.inr (by omega)) ?_
      show wpAny _ _ (Builtin.Tuple.tupleItemsOf (.ref _) >>= _) _ _ s
      refine wpAny_bind (wpAny_tupleItemsOf h1 h3 ?_)
      refine wpAny_bind ?_
      rw [← Array.forIn_toList]
      refine hash_readsAll xs _ A.in1 E s _ #[] _ hk h4 (by simp only [PyData.depth, Around.in1_units] at hu ⊢; omega) fun b hb => ?_
      show wpAny _ _ (retInt (Builtin.Tuple.tupleHashOf b.toList)) _ _ _
      rw [hb]
      exact wpAny_bind (wpAny_mkInt (wpAny_pure ⟨_, _, rfl, h⟩))
  | .none, _, _, _, _, _, _, h, _, _, _ | .bool _, _, _, _, _, _, _, h, _, _, _ | .list _, _, _, _, _, _, _, h, _, _, _ | .dict _, _, _, _, _, _, _, h, _, _, _ => by simp [isK] at h
theorem hash_readsAll : ∀ (ps : List PyData) (vs : List Value) (A : Around) (E : Value → Shared → Prop) (s : Shared) (as : List Addr) (b : Array Int) (Q : Array Int → Shared → Prop), isKs ps = true → ReadsAll s.heap vs ps as → A.units + PyData.depthAll ps < cLine →
    (∀ b', b'.toList = b.toList ++ hashKs w ps → Q b' { s with toks := s.toks + drawsKs ps }) →
    wpAny (model prog w) A (forIn vs b fun x r => do let h ← pyHash x; pure PUnit.unit; pure (ForInStep.yield (r.push h))) Q E s
  | [], _, A, E, s, _, b, Q, _, x, _, h => by cases x; exact wpAny_pure (h b (by simp [hashKs]))
  | k :: xs, _, A, E, s, _, b, Q, hk, x, hu, h => by
    cases x with
    | cons x1 x2 =>
      simp only [isKs, Bool.and_eq_true, PyData.depthAll] at hk hu
      rw [List.forIn_cons]
      refine wpAny_bind (wpAny_bind (hash_reads k _ A E s _ _ hk.1 x1 (by omega) ?_))
      refine wpAny_bind (wpAny_pure (wpAny_pure ?_))
      refine hash_readsAll xs _ A E _ _ _ Q hk.2 x2 (by omega) fun b' hb => ?_
      have := h b' (by simp [hb, hashKs])
      simpa [drawsKs, Nat.add_assoc] using this
end
mutual
theorem quiet_reads : ∀ (p : PyData) (v : Value) (A : Around) (E : Value → Shared → Prop) (s : Shared) (as : List Addr) (n : Nat) (Q : Bool → Shared → Prop), isK p = true → Reads s.heap v p as → p.depth ≤ n →
    Q true s → wpAny (model prog w) A (eqIsQuiet n v) Q E s
  | .int i, _, A, E, s, _, n, Q, _, r, _, h => by cases r; rw [eqIsQuiet_byValue _ rfl]; exact wpAny_pure h
  | .str x, _, A, E, s, _, n, Q, _, r, _, h => by cases r; rw [eqIsQuiet_byValue _ rfl]; exact wpAny_pure h
  | .tuple xs, _, A, E, s, _, n, Q, hk, r, hn, h => by
    cases r with
    | tuple h1 h2 h3 h4 =>
      have hT : s.TypeIs (.ref _) "tuple" := ⟨_, h1, h2⟩
      unfold eqIsQuiet
      refine wpAny_bind (wpAny_specialOf hT F.slot_tuple_eq.lookup ?_)
      show wpAny _ _ (isInstance (.ref _) (.type "tuple") >>= _) _ _ s
      refine wpAny_bind (wpAny_isInstance hT isSubtype_tuple_tuple ?_)
      simp only [Bool.not_true, Bool.false_eq_true, if_false]
      simp only [PyData.depth] at hn
      obtain ⟨n', rfl⟩ : ∃ n', n = n' + 1 := ⟨n - 1, by omega⟩
      refine wpAny_bind (wpAny_seqItems h1 h3 ?_)
      refine wpAny_bind ?_
      show wpAny _ _ (forIn _ _ _) _ _ s
      rw [← Array.forIn_toList]
      refine wpAny_forIn_list _ (fun rest r s' => r.1 = none ∧ s' = s ∧ ∃ ps as, isKs ps = true ∧ PyData.depthAll ps ≤ n' ∧ (∀ q ∈ ps, q ∈ xs) ∧ ReadsAll s.heap rest ps as) _ ?_ ?_ _ _ ⟨rfl, rfl, xs, _, hk, by omega, fun _ z => z, h4⟩
      · rintro v rest r s' ⟨hr, rfl, ps, as', hks, hd, hmem, ra⟩
        cases ra with
        | cons r1 r2 =>
          rename_i q qs as1 as2
          simp only [isKs, Bool.and_eq_true, PyData.depthAll] at hks hd
          have hq : q ∈ xs := hmem q List.mem_cons_self
          have hdep : sizeOf q < sizeOf (PyData.tuple xs) := by have := List.sizeOf_lt_of_mem hq; simp; omega
          refine wpAny_bind (quiet_reads q v A E _ _ _ _ hks.1 r1 (by omega) ?_)
          simp only [Bool.not_true, Bool.false_eq_true, if_false]
          exact wpAny_pure ⟨rfl, rfl, qs, _, hks.2, by omega, fun z hz => hmem z (List.mem_cons_of_mem _ hz), r2⟩
      · rintro ⟨r1, r2⟩ s' ⟨hr, rfl, _⟩
        simp only at hr
        subst hr
        exact wpAny_pure h
  | .none, _, _, _, _, _, _, _, h, _, _, _ | .bool _, _, _, _, _, _, _, _, h, _, _, _ | .list _, _, _, _, _, _, _, _, h, _, _, _ | .dict _, _, _, _, _, _, _, _, h, _, _, _ => by simp [isK] at h
termination_by p => sizeOf p
end
end
noncomputable def nestKind (prog : Program) (w : World) : HeapKind prog w (List PyData) where
  is := fun h ks a => isKs ks = true ∧ PyData.depthAll ks ≤ 6 ∧ ∃ as, Reads h (.ref a) (.tuple ks) as
  hash := fun ks => hashK w (.tuple ks)
  draws := fun ks => drawsK (.tuple ks)
  room := fun A => A.units + 20 < cLine
  inj := fun {h a x y} hx hy => by
    obtain ⟨k1, _, _, r1⟩ := hx
    obtain ⟨k2, _, _, r2⟩ := hy
    have e := SeqAt.Reads.unique _ _ _ _ _ (isK_lay (.tuple x) k1) r1 r2
    exact PyData.tuple.inj e
  keeps := fun x ho hd hs => let ⟨k1, k2, as, r⟩ := x; ⟨k1, k2, as, reads_keep ho hd hs _ _ _ k1 r⟩
  pyHash := fun {A E s k a Q} hu hk h => by
    obtain ⟨k1, k2, as, r⟩ := hk
    exact hash_reads (.tuple k) _ A E s as Q k1 r (by simp only [PyData.depth]; omega) h
  eqBool := fun {A E s x y a b Q} hu hx hy h => by
    obtain ⟨k1, d1, as, r1⟩ := hx
    obtain ⟨k2, d2, bs, r2⟩ := hy
    refine SeqAt.eqAt_reads (.tuple x) (.tuple y) A s _ _ _ _ r1 r2 (isK_lay (.tuple x) k1) (isK_lay (.tuple y) k2) (by simp only [PyData.depth]; omega) prog w E Q ?_
    rw [isK_eqv (.tuple x) (.tuple y) k1 k2]
    have e : decide (PyData.tuple x = PyData.tuple y) = decide (x = y) := by
      simp only [PyData.tuple.injEq]
    rw [e]
    exact h
  quiet := fun {A E s k a Q} hk h => by
    obtain ⟨k1, k2, as, r⟩ := hk
    exact quiet_reads (.tuple k) _ A E s as 8 Q k1 r (by simp only [PyData.depth]; omega) h
end L2
set_option Elab.async false
set_option linter.all false
set_option maxRecDepth 100000
namespace L2
open PySem PySem.Spec PyProof.Rows
abbrev Key := Sum Int Str
def keyIs : Key → Value → Bool
  | .inl k, v => Value.isInt k v
  | .inr x, v => Value.isStrOf x v
def keyH (w : World) : Key → Int
  | .inl k => hashInt k
  | .inr x => hashStr w x
theorem keyIs_shape : ∀ {k : Key} {v : Value}, keyIs k v = true → (∃ i t, k = Sum.inl i ∧ v = Value.int i t) ∨ (∃ x t, k = Sum.inr x ∧ v = Value.str x t)
  | .inl i, v, h => by
    obtain ⟨t, e⟩ := Value.isInt_shape (k := i) (v := v) h
    exact .inl ⟨i, t, rfl, e⟩
  | .inr x, v, h => by
    obtain ⟨t, e⟩ := Value.isStrOf_shape (x := x) (v := v) h
    exact .inr ⟨x, t, rfl, e⟩
theorem keyIs_int (i : Int) (t : Tok) : keyIs (.inl i) (.int i t) = true := by simp [keyIs, Value.isInt]
theorem keyIs_str (x : Str) (t : Tok) : keyIs (.inr x) (.str x t) = true := by simp [keyIs, Value.isStrOf]
theorem key_ll (a b : Int) : decide ((Sum.inl a : Key) = Sum.inl b) = (a == b) := by
  by_cases e : a = b
  · subst e; simp
  · have h : ¬ (Sum.inl a : Key) = Sum.inl b := fun q => e (Sum.inl.inj q)
    rw [decide_eq_false h]
    exact (beq_eq_false_iff_ne.mpr e).symm
theorem key_rr (a b : Str) : decide ((Sum.inr a : Key) = Sum.inr b) = decide (a = b) := by
  by_cases e : a = b
  · subst e; simp
  · have h : ¬ (Sum.inr a : Key) = Sum.inr b := fun q => e (Sum.inr.inj q)
    rw [decide_eq_false h, decide_eq_false e]
theorem key_lr (a : Int) (b : Str) : decide ((Sum.inl a : Key) = Sum.inr b) = false := decide_eq_false (fun q => nomatch q)
theorem key_rl (a : Str) (b : Int) : decide ((Sum.inr a : Key) = Sum.inl b) = false := decide_eq_false (fun q => nomatch q)
def mixKind (prog : Program) (w : World) : PySem.KeyKind prog w Key where
  is := keyIs
  hash := keyH w
  inj := fun v a b ha hb => by
    rcases keyIs_shape ha with ⟨i, t, rfl, rfl⟩ | ⟨x, t, rfl, rfl⟩
    · rcases keyIs_shape hb with ⟨j, u, rfl, e⟩ | ⟨y, u, rfl, e⟩
      · injection e with e1 _; rw [e1]
      · exact nomatch e
    · rcases keyIs_shape hb with ⟨j, u, rfl, e⟩ | ⟨y, u, rfl, e⟩
      · exact nomatch e
      · injection e with e1 _; rw [e1]
  byValue := fun k v h => by
    rcases keyIs_shape h with ⟨i, t, rfl, rfl⟩ | ⟨x, t, rfl, rfl⟩ <;> rfl
  pyHash := fun hv h => by
    rcases keyIs_shape hv with ⟨i, t, rfl, rfl⟩ | ⟨x, t, rfl, rfl⟩
    · exact wpAny_pyHash_int h
    · exact wpAny_pyHash_str h
  eqBool := fun hu hv h => by
    rcases keyIs_shape hu with ⟨i, t, rfl, rfl⟩ | ⟨x, t, rfl, rfl⟩
    · rcases keyIs_shape hv with ⟨j, u, rfl, rfl⟩ | ⟨y, u, rfl, rfl⟩
      · rw [key_ll] at h; exact wpAny_eqBool_int h
      · rw [key_lr] at h; exact SeqAt.EqAt.int_str i t y u _ _ _ _ h
    · rcases keyIs_shape hv with ⟨j, u, rfl, rfl⟩ | ⟨y, u, rfl, rfl⟩
      · rw [key_rl] at h; exact SeqAt.EqAt.str_int x t j u _ _ _ _ h
      · rw [key_rr] at h; exact wpAny_eqBool_str h
  «strs» := fun k x t v h => by
    rcases keyIs_shape h with ⟨i, u, rfl, e⟩ | ⟨y, u, rfl, e⟩
    · exact nomatch e
    · injection e with e1 _
      subst e1
      cases v <;> rfl
theorem mixKind_int (prog : Program) (w : World) (i : Int) (t : Tok) : (mixKind prog w).is (.inl i) (.int i t) = true := keyIs_int i t
theorem mixKind_str (prog : Program) (w : World) (x : Str) (t : Tok) : (mixKind prog w).is (.inr x) (.str x t) = true := keyIs_str x t
end L2
namespace L2
open PySem PySem.Spec PyProof.Rows
inductive V where
  | non | bl (b : Bool) | int (i : Int) | str (x : Str) | byt (b : Array UInt8) | flt (b : UInt64) | ref (a : Addr) | ty (n : String)
  deriving DecidableEq
def RelV : V → Value → Prop
  | .non, u => u = Value.none
  | .bl b, u => u = Value.bool b
  | .int i, u => ∃ t, u = Value.int i t
  | .str x, u => ∃ t, u = Value.str x t
  | .byt b, u => ∃ t, u = Value.bytes b t
  | .flt b, u => ∃ t, u = Value.float b t
  | .ref a, u => u = Value.ref a
  | .ty n, u => u = Value.type n
abbrev Vals : List V → List Value → Prop := Paired RelV
theorem Vals.length {xs : List V} {us : List Value} (r : Vals xs us) : xs.length = us.length := Paired.length r
theorem Vals.get : ∀ {xs : List V} {us : List Value} {i : Nat} {x : V}, Vals xs us → xs[i]? = some x → ∃ u, us[i]? = some u ∧ RelV x u
  | _, _, _, _, .nil, e => by simp at e
  | _, _, 0, _, .cons r _, e => by simp at e; subst e; exact ⟨_, rfl, r⟩
  | _, _, i + 1, x, .cons _ t, e => by
    obtain ⟨u, h1, h2⟩ := Vals.get (i := i) (x := x) t (by simpa using e)
    exact ⟨u, by simpa using h1, h2⟩
theorem Vals.set {x : V} {u : Value} (r : RelV x u) : ∀ {xs : List V} {us : List Value} (i : Nat), Vals xs us → Vals (xs.set i x) (us.set i u)
  | _, _, _, .nil => .nil
  | _, _, 0, .cons _ t => .cons r t
  | _, _, i + 1, .cons q t => .cons q (Vals.set r i t)
theorem Vals.append : ∀ {xs ys : List V} {us ws : List Value}, Vals xs us → Vals ys ws → Vals (xs ++ ys) (us ++ ws)
  | _, _, _, _, .nil, s => s
  | _, _, _, _, .cons r t, s => .cons r (Vals.append t s)
theorem Vals.take : ∀ {xs : List V} {us : List Value} (n : Nat), Vals xs us → Vals (xs.take n) (us.take n)
  | _, _, 0, _ => .nil
  | _, _, _ + 1, .nil => .nil
  | _, _, n + 1, .cons r t => .cons r (Vals.take n t)
theorem Vals.drop : ∀ {xs : List V} {us : List Value} (n : Nat), Vals xs us → Vals (xs.drop n) (us.drop n)
  | _, _, 0, r => r
  | _, _, _ + 1, .nil => .nil
  | _, _, n + 1, .cons _ t => Vals.drop n t
theorem Vals.none_of : ∀ {xs : List V} {us : List Value} {i : Nat}, Vals xs us → xs[i]? = none → us[i]? = none := fun {xs us i} r e => by
  have h1 := r.length
  have h2 : xs.length ≤ i := List.getElem?_eq_none_iff.mp e
  exact List.getElem?_eq_none_iff.mpr (by omega)
def RelO : Option V → Option Value → Prop
  | some v, some u => RelV v u
  | none, none => True
  | _, _ => False
def KV {κ : Type} : List (κ × V) → List (κ × Value) → Prop := Paired fun (p : κ × V) (q : κ × Value) => p.1 = q.1 ∧ RelV p.2 q.2
def kV : Key → V
  | .inl i => .int i
  | .inr x => .str x
inductive HO where
  /-- a list -/
  | lst (xs : List V)
  /-- a tuple (never changes) -/
  | tup (xs : List V)
  /-- a dict whose keys are ints and texts; one whose keys are tuples of ints and texts (the empty one is both) -/
  | dK (kvs : List (Key × V)) | dT (kvs : List (List Key × V)) | dN (K : PySem.W.Frag) (kvs : List (List PyData × V))
  /-- a set of ints: its members, its size -/
  | set (S : Int → Bool) (n : Nat)
  /-- an instance of the class at C, its dict at dx, its attributes -/
  | ins (C dx : Addr) (fs : List (Str × V))
  /-- the dict of the instance at x -/
  | own (x : Addr)
  /-- the dict of an exception -/
  | xd (fs : List (Str × V))
  /-- a bound method, f of x -/
  | met (f x : Addr)
  /-- a range object lo, lo + 1, .. below hi -/
  | rng (lo hi : Int)
  /-- a thing that is known to the object (the script; a dict while a loop walks it): read, never written while it is so -/
  | frz (o : Obj) (u : HO)
  /-- a code object's table -/
  | tbl (ps : Array Value)
  /-- any other thing, by what is true of its one object (a def of one's own: SetO a S n := HO.ext fun h => ..) -/
  | ext (φ : Heap → Prop)
abbrev Hp := Addr → Option HO
def upd (H : Hp) (a : Addr) (o : HO) : Hp := fun b => if b = a then some o else H b
theorem upd_same {H : Hp} {a : Addr} {o : HO} : upd H a o a = some o := by unfold upd; rw [if_pos rfl]
theorem upd_ne {H : Hp} {a b : Addr} {o : HO} (h : b ≠ a) : upd H a o b = H b := by unfold upd; rw [if_neg h]
theorem ne_of {H : Hp} {a b : Addr} {o u : HO} (h : H a = some o) (h' : H b = some u) (d : o ≠ u) : a ≠ b := by
  intro e; subst e; rw [h] at h'; exact d (Option.some.inj h')
theorem ne_of_none {H : Hp} {a b : Addr} {o : HO} (h : H a = some o) (h' : H b = none) : a ≠ b := by
  intro e; subst e; rw [h] at h'; cases h'
def NoD (h : Heap) (a : Addr) : Prop := ∃ o, h.get? a = some o ∧ o.dict = none
theorem NoD.new (h : Heap) (c : Value) (d : Data) (hf : Obj.isFreed { cls := c, data := d } = false := by rfl) : NoD (h.push { cls := c, data := d }) h.objs.size := ⟨_, Heap.get?_push_size _ hf, rfl⟩
theorem NoD.keep {h h' : Heap} {a : Addr} (x : NoD h a) (k : ∀ o, h.get? a = some o → h'.get? a = some o) : NoD h' a := let ⟨o, e, d⟩ := x; ⟨o, k _ e, d⟩
def TupAt (K : PySem.W.Frag) (H : Hp) (a : Addr) (xs : List V) : Prop := (H a = some (.tup xs) ∨ ∃ o, H a = some (.frz o (.tup xs))) ∨
    ∃ (o : Obj) (its : Array Value) (n : Nat), K.lookup a = some o ∧ (o.cls = .type "tuple" ∧ o.dict = none) ∧ o.data = .seq its n ∧ its.size ≤ sizeLine ∧ Vals xs its.toList
mutual
def NKV (K : PySem.W.Frag) (H : Hp) : PyData → V → Prop
  | .int i, v => v = .int i
  | .str x, v => v = .str x
  | .tuple xs, v => ∃ a vs, v = .ref a ∧ TupAt K H a vs ∧ NKVs K H xs vs
  | .none, _ | .bool _, _ | .list _, _ | .dict _, _ => False
def NKVs (K : PySem.W.Frag) (H : Hp) : List PyData → List V → Prop
  | [], vs => vs = []
  | x :: xs, vs => ∃ v r, vs = v :: r ∧ NKV K H x v ∧ NKVs K H xs r
end
section
variable {K : PySem.W.Frag} {H H' : Hp}
theorem TupAt.stay {a : Addr} {xs : List V} (x : TupAt K H a xs) (ht : ∀ b xs, H b = some (.tup xs) → H' b = some (.tup xs)) (hf : ∀ b o u, H b = some (.frz o u) → H' b = some (.frz o u)) : TupAt K H' a xs := by
  rcases x with (x | ⟨o, x⟩) | x
  · exact .inl (.inl (ht _ _ x))
  · exact .inl (.inr ⟨o, hf _ _ _ x⟩)
  · exact .inr x
mutual
theorem NKV.stay (ht : ∀ b xs, H b = some (.tup xs) → H' b = some (.tup xs)) (hf : ∀ b o u, H b = some (.frz o u) → H' b = some (.frz o u)) : ∀ (p : PyData) (v : V), NKV K H p v → NKV K H' p v
  | .int _, _, x => by simpa only [NKV] using x
  | .str _, _, x => by simpa only [NKV] using x
  | .tuple xs, _, x => by
    simp only [NKV] at x ⊢
    obtain ⟨a, vs, e, x1, x2⟩ := x
    exact ⟨a, vs, e, x1.stay ht hf, NKVs.stay ht hf xs vs x2⟩
  | .none, _, x | .bool _, _, x | .list _, _, x | .dict _, _, x => by simp only [NKV] at x
theorem NKVs.stay (ht : ∀ b xs, H b = some (.tup xs) → H' b = some (.tup xs)) (hf : ∀ b o u, H b = some (.frz o u) → H' b = some (.frz o u)) : ∀ (ps : List PyData) (vs : List V), NKVs K H ps vs → NKVs K H' ps vs
  | [], _, x => by simpa only [NKVs] using x
  | p :: ps, _, x => by
    simp only [NKVs] at x ⊢
    obtain ⟨v, r, e, x1, x2⟩ := x
    exact ⟨v, r, e, NKV.stay ht hf p v x1, NKVs.stay ht hf ps r x2⟩
end
end
section
variable (P : Program) (w : World)
def ObjOk (H : Hp) (h : Heap) (a : Addr) : HO → Prop
  | .lst xs => xs.length ≤ sizeLine ∧ ∃ (its : List Value) (n : Nat), Vals xs its ∧ h.get? a = some { cls := .type "list", data := .seq its.toArray n }
  | .tup xs => (xs.length ≤ sizeLine ∧ NoD h a) ∧ ∃ its : List Value, Vals xs its ∧ IsTup h a its.toArray
  | .dK kvs => kvs.length ≤ sizeLine ∧ (a == sysModules) = false ∧ ∃ vs, KV kvs vs ∧ h.DictOf (mixKind P w) a vs
  | .dT kvs => kvs.length ≤ sizeLine ∧ (a == sysModules) = false ∧ ∃ xs : List (List Key × Addr × Value),
      Paired (fun (p : List Key × V) (q : List Key × Addr × Value) => p.1 = q.1 ∧ H q.2.1 = some (.tup (p.1.map kV)) ∧ RelV p.2 q.2.2) kvs xs ∧
      ∃ o es ep, h.get? a = some o ∧ o.ExactDict ∧ o.data = .dict es ep ∧ es.toList = xs.map (entryOfKey (tupleKind (mixKind P w))) ∧ (xs.map (·.1)).Nodup
  | .dN K kvs => kvs.length ≤ sizeLine ∧ (a == sysModules) = false ∧ ∃ xs : List (List PyData × Addr × Value),
      Paired (fun (p : List PyData × V) (q : List PyData × Addr × Value) => p.1 = q.1 ∧ (isKs p.1 = true ∧ PyData.depthAll p.1 ≤ 6 ∧ NKV K H (.tuple p.1) (.ref q.2.1)) ∧ RelV p.2 q.2.2) kvs xs ∧
      ∃ o es ep, h.get? a = some o ∧ o.ExactDict ∧ o.data = .dict es ep ∧ es.toList = xs.map (entryOfKey (nestKind P w)) ∧ (xs.map (·.1)).Nodup
  | .set S n => h.SetOf (intKind P w) a S n
  | .ins C dx fs => H dx = some (.own a) ∧ fs.length ≤ 1000 ∧ dx ≠ a ∧ h.get? a = some (PySem.W.instObj C dx) ∧
      ∃ mA, h.Ns1 dx mA ∧ (∀ f, RelO (fs.lookup f) (mA f)) ∧ PySem.Within mA (fs.map (·.1))
  | .own _ => ∃ o, h.get? a = some o
  | .xd fs => ∃ mA, h.Ns1 a mA ∧ ∀ f, RelO (fs.lookup f) (mA f)
  | .rng lo hi => ∃ t u v, h.get? a = some { cls := .type "range", data := .fields #[.int lo t, .int hi u, .int 1 v] }
  | .frz o u => h.get? a = some o ∧ ObjOk H h a u
  | .tbl ps => h.get? a = some { cls := .none, data := .fields ps }
  | .met f x => h.get? a = some (PySem.W.methodObj (.ref f) (.ref x))
  | .ext φ => φ h ∧ (∃ o, h.get? a = some o) ∧ ∀ h1 h2 : Heap, φ h1 → (∀ o, h1.get? a = some o → h2.get? a = some o) → φ h2
def HOk (H : Hp) (h : Heap) : Prop := ∀ a o, H a = some o → ObjOk P w H h a o
end
section
variable {P : Program} {w : World} {H H' : Hp} {h h' : Heap} {a : Addr} {o : HO}
theorem ObjOk.lt (x : ObjOk P w H h a o) : a < h.objs.size := by
  cases o with
  | lst xs => obtain ⟨_, _, _, _, e⟩ := x; exact Heap.lt_size e
  | tup xs => obtain ⟨_, _, _, p⟩ := x; exact p.lt
  | dK kvs => obtain ⟨_, _, _, _, o, _, _, e, _⟩ := x; exact Heap.lt_size e
  | dT kvs => obtain ⟨_, _, _, _, o, _, _, e, _⟩ := x; exact Heap.lt_size e
  | dN K kvs => obtain ⟨_, _, _, _, o, _, _, e, _⟩ := x; exact Heap.lt_size e
  | set S n => obtain ⟨o, _, _, _, e, _⟩ := x; exact Heap.lt_size e
  | ins C dx fs => obtain ⟨_, _, _, e, _⟩ := x; exact Heap.lt_size e
  | own y => obtain ⟨_, e⟩ := x; exact Heap.lt_size e
  | xd fs => obtain ⟨_, ⟨_, _, _, e, _⟩, _⟩ := x; exact Heap.lt_size e
  | rng lo hi => obtain ⟨_, _, _, e⟩ := x; exact Heap.lt_size e
  | frz ob u => obtain ⟨e, _⟩ := x; exact Heap.lt_size e
  | tbl ps => exact Heap.lt_size (show h.get? a = some _ from x)
  | met f y => exact Heap.lt_size (show h.get? a = some _ from x)
  | ext φ => obtain ⟨_, ⟨_, e⟩, _⟩ := x; exact Heap.lt_size e
theorem Paired.mapP {α β : Type} {F G : α → β → Prop} : ∀ {l₁ : List α} {l₂ : List β}, Paired F l₁ l₂ → (∀ a b, F a b → G a b) → Paired G l₁ l₂
  | _, _, .nil, _ => .nil
  | _, _, .cons r t, f => .cons (f _ _ r) (Paired.mapP t f)
theorem ObjOk.stay (x : ObjOk P w H h a o) (k : ∀ b u, (b = a ∨ H b = some (.own a)) → h.get? b = some u → h'.get? b = some u)
    (ho : ∀ b, H b = some (.own a) → H' b = some (.own a)) (ht : ∀ b xs, H b = some (.tup xs) → H' b = some (.tup xs)) (hf : ∀ b ob u, H b = some (.frz ob u) → H' b = some (.frz ob u)) : ObjOk P w H' h' a o := by
  induction o with
  | lst xs => obtain ⟨z, its, n, r, e⟩ := x; exact ⟨z, its, n, r, k _ _ (.inl rfl) e⟩
  | tup xs => obtain ⟨z, its, r, ob, e, c⟩ := x; exact ⟨⟨z.1, z.2.keep fun _ e => k _ _ (.inl rfl) e⟩, its, r, ob, k _ _ (.inl rfl) e, c⟩
  | dK kvs => obtain ⟨z, y, vs, r, ob, es, ep, e, c⟩ := x; exact ⟨z, y, vs, r, ob, es, ep, k _ _ (.inl rfl) e, c⟩
  | dT kvs =>
    obtain ⟨z, y, xs, r, ob, es, ep, e, c⟩ := x
    exact ⟨z, y, xs, Paired.mapP r fun p q z => ⟨z.1, ht _ _ z.2.1, z.2.2⟩, ob, es, ep, k _ _ (.inl rfl) e, c⟩
  | dN K kvs =>
    obtain ⟨z, y, xs, r, ob, es, ep, e, c⟩ := x
    exact ⟨z, y, xs, Paired.mapP r fun p q z => ⟨z.1, ⟨z.2.1.1, z.2.1.2.1, NKV.stay ht hf _ _ z.2.1.2.2⟩, z.2.2⟩, ob, es, ep, k _ _ (.inl rfl) e, c⟩
  | set S n => obtain ⟨ob, es, ep, t, e, c⟩ := x; exact ⟨ob, es, ep, t, k _ _ (.inl rfl) e, c⟩
  | ins C dx fs =>
    obtain ⟨d, z, ne, e, mA, ⟨od, es, ep, e2, c⟩, r⟩ := x
    exact ⟨ho _ d, z, ne, k _ _ (.inl rfl) e, mA, ⟨od, es, ep, k _ _ (.inr d) e2, c⟩, r⟩
  | own y => obtain ⟨ob, e⟩ := x; exact ⟨ob, k _ _ (.inl rfl) e⟩
  | xd fs => obtain ⟨mA, ⟨od, es, ep, e, c⟩, r⟩ := x; exact ⟨mA, ⟨od, es, ep, k _ _ (.inl rfl) e, c⟩, r⟩
  | rng lo hi => obtain ⟨t, u, v, e⟩ := x; exact ⟨t, u, v, k _ _ (.inl rfl) e⟩
  | frz ob u ih => obtain ⟨e, q⟩ := x; exact ⟨k _ _ (.inl rfl) e, ih q⟩
  | tbl ps =>
    have e : h.get? a = some { cls := .none, data := .fields ps } := x
    show h'.get? a = some { cls := .none, data := .fields ps }
    exact k a _ (.inl rfl) e
  | met f y =>
    have e : h.get? a = some (PySem.W.methodObj (.ref f) (.ref y)) := x
    show h'.get? a = some (PySem.W.methodObj (.ref f) (.ref y))
    exact k a _ (.inl rfl) e
  | ext φ => obtain ⟨p, ⟨o, e⟩, st⟩ := x; exact ⟨st _ _ p fun o q => k _ _ (.inl rfl) q, ⟨o, k _ _ (.inl rfl) e⟩, st⟩
theorem HOk.lt (x : HOk P w H h) (e : H a = some o) : a < h.objs.size := (x a o e).lt
theorem HOk.fresh (x : HOk P w H h) (e : h.objs.size ≤ a) : H a = none := by
  cases q : H a with
  | none => rfl
  | some u => exact absurd (Nat.lt_of_lt_of_le (x.lt q) e) (Nat.lt_irrefl _)
theorem HOk.kept (x : HOk P w H h) (k : ∀ b u, h.get? b = some u → h'.get? b = some u) : HOk P w H h' := fun a o e =>
  (x a o e).stay (fun b u _ q => k b u q) (fun _ q => q) (fun _ _ q => q) fun _ _ _ q => q
theorem HOk.laid (x : HOk P w H h) (k : ∀ b u, h.get? b = some u → h'.get? b = some u) (hp : h.objs.size ≤ a) (new : ObjOk P w (upd H a o) h' a o) : HOk P w (upd H a o) h' := fun b u e => by
  have hn := x.fresh hp
  by_cases hb : b = a
  · subst hb; rw [upd_same] at e; cases e; exact new
  · rw [upd_ne hb] at e
    exact (x b u e).stay (fun c v _ q => k c v q) (fun c q => by rw [upd_ne (ne_of_none q hn)]; exact q) (fun c xs q => by rw [upd_ne (ne_of_none q hn)]; exact q) fun c ob u q => by rw [upd_ne (ne_of_none q hn)]; exact q
end
def Rd (H : Hp) (a : Addr) (u : HO) : Prop := H a = some u ∨ ∃ o, H a = some (.frz o u)
theorem Rd.of {H : Hp} {a : Addr} {u : HO} (h : H a = some u) : Rd H a u := .inl h
theorem Rd.ok {P : Program} {w : World} {H : Hp} {h : Heap} {a : Addr} {u : HO} (r : Rd H a u) (x : HOk P w H h) : ObjOk P w H h a u := by
  rcases r with r | ⟨o, r⟩
  · exact x a u r
  · obtain ⟨_, q⟩ := x a _ r
    exact q
def Mut : Option HO → Prop
  | some (.lst _) => True
  | some (.dK _) => True
  | some (.dT _) => True
  | some (.dN _ _) => True
  | some (.set _ _) => True
  | some (.ins _ _ _) => True
  | some (.ext _) => True
  | _ => False
section
variable {P : Program} {w : World} {H : Hp} {h h' : Heap} {x e : Addr} {o' : HO}
theorem HOk.write (ok : HOk P w H h) (mu : Mut (H x)) (he : e = x ∨ H e = some (.own x)) (k : ∀ b u, b ≠ e → h.get? b = some u → h'.get? b = some u) (heo : ∃ u, h'.get? e = some u)
    (new : ObjOk P w (upd H x o') h' x o') : HOk P w (upd H x o') h' := fun b u q => by
  have nown : ∀ c y, H c = some (.own y) → c ≠ x := fun c y r z => by subst z; rw [r] at mu; exact mu
  have ntup : ∀ c xs, H c = some (.tup xs) → c ≠ x := fun c xs r z => by subst z; rw [r] at mu; exact mu
  by_cases hb : b = x
  · subst hb; rw [upd_same] at q; cases q; exact new
  · rw [upd_ne hb] at q
    by_cases hbe : b = e
    · have q' : H b = some (.own x) := by
        rcases he with z | z
        · exact absurd (hbe.trans z) hb
        · rw [hbe]; exact z
      rw [q] at q'; cases q'
      obtain ⟨v, hv⟩ := heo
      exact ⟨v, by rw [hbe]; exact hv⟩
    · refine (ok b u q).stay (fun c v hc r => k c v ?_ r) (fun c r => by rw [upd_ne (nown c b r)]; exact r) (fun c xs r => by rw [upd_ne (ntup c xs r)]; exact r) fun c ob u r => by rw [upd_ne (fun z => by subst z; rw [r] at mu; exact mu)]; exact r
      rcases hc with rfl | hc
      · exact hbe
      · rintro rfl
        rcases he with z | z
        · exact nown c b hc z
        · rw [hc] at z; cases z; exact hb rfl
end
structure Un (fs ex : List Addr) (H H' : Hp) (h h' : Heap) : Prop where
  keep : ∀ b o, h.get? b = some o → H b = none → b ∉ fs → b ∉ ex → h'.get? b = some o
  slot : ∀ b o, h.get? b = some o → H b = none → b ∈ fs → b ∉ ex → ∃ sl, h'.get? b = some { o with slots := sl }
  free : ∀ b o, h.get? b = some o → H b = none → b ∉ ex → H' b = none
  there : ∀ b o, h.get? b = some o → b ∉ ex → ∃ o', h'.get? b = some o'
  tups : ∀ b xs, H b = some (.tup xs) → H' b = some (.tup xs)
  frzs : ∀ b o u, H b = some (.frz o u) → H' b = some (.frz o u)
  tbls : ∀ b ps, H b = some (.tbl ps) → ∃ more, H' b = some (.tbl (ps ++ more))
section
variable {fs fs' ex ex' : List Addr} {H H1 H2 : Hp} {h h1 h2 h' : Heap} {a x e : Addr} {o : HO}
theorem Un.any (u : Un fs ex H H1 h h1) {b : Addr} {ob : Obj} (q : h.get? b = some ob) (n : H b = none) (hx : b ∉ ex) : ∃ sl, h1.get? b = some { ob with slots := sl } := by
  by_cases hb : b ∈ fs
  · exact u.slot b ob q n hb hx
  · exact ⟨ob.slots, u.keep b ob q n hb hx⟩
theorem Un.trans (a : Un fs ex H H1 h h1) (b : Un fs ex H1 H2 h1 h2) : Un fs ex H H2 h h2 where
  keep := fun c ob q n hc hx => b.keep c ob (a.keep c ob q n hc hx) (a.free c ob q n hx) hc hx
  slot := fun c ob q n hc hx => by
    obtain ⟨sl, e1⟩ := a.slot c ob q n hc hx
    obtain ⟨sl', e2⟩ := b.slot c _ e1 (a.free c ob q n hx) hc hx
    exact ⟨sl', e2⟩
  free := fun c ob q n hx => by
    obtain ⟨o', e1⟩ := a.there c ob q hx
    exact b.free c o' e1 (a.free c ob q n hx) hx
  there := fun c ob q hx => by
    obtain ⟨o', e1⟩ := a.there c ob q hx
    exact b.there c o' e1 hx
  tups := fun c xs q => b.tups c xs (a.tups c xs q)
  frzs := fun c ob xs q => b.frzs c ob xs (a.frzs c ob xs q)
  tbls := fun c ps q => by
    obtain ⟨m1, e1⟩ := a.tbls c ps q
    obtain ⟨m2, e2⟩ := b.tbls c _ e1
    exact ⟨m1 ++ m2, by rw [e2, Array.append_assoc]⟩
theorem Un.kept (k : ∀ b u, h.get? b = some u → h'.get? b = some u) : Un fs ex H H h h' :=
  ⟨fun b ob q _ _ _ => k b ob q, fun b ob q _ _ _ => ⟨ob.slots, k b ob q⟩, fun _ _ _ n _ => n, fun b ob q _ => ⟨ob, k b ob q⟩, fun _ _ q => q, fun _ _ _ q => q, fun _ ps q => ⟨#[], by rw [q]; simp⟩⟩
theorem Un.refl : Un fs ex H H h h := Un.kept fun _ _ q => q
theorem Un.laid (k : ∀ b u, h.get? b = some u → h'.get? b = some u) (hp : h.objs.size ≤ a) (hn : H a = none) : Un fs ex H (upd H a o) h h' where
  keep := fun b u q _ _ _ => k b u q
  slot := fun b u q _ _ _ => ⟨u.slots, k b u q⟩
  free := fun b u q n _ => by rw [upd_ne (Nat.ne_of_lt (Nat.lt_of_lt_of_le (Heap.lt_size q) hp))]; exact n
  there := fun b u q _ => ⟨u, k b u q⟩
  tups := fun b xs q => by rw [upd_ne (ne_of_none q hn)]; exact q
  frzs := fun b u xs q => by rw [upd_ne (ne_of_none q hn)]; exact q
  tbls := fun b ps q => ⟨#[], by rw [upd_ne (ne_of_none q hn), q]; simp⟩
theorem Un.write (mu : Mut (H x)) (he : e = x ∨ H e = some (.own x)) (k : ∀ b u, b ≠ e → h.get? b = some u → h'.get? b = some u) (heo : ∃ u, h'.get? e = some u) : Un fs ex H (upd H x o) h h' := by
  have hx : ∀ b, H b = none → b ≠ x := fun b n z => by subst z; rw [n] at mu; exact mu
  have hb : ∀ b, H b = none → b ≠ e := fun b n z => by
    subst z
    rcases he with r | r
    · exact hx b n r
    · rw [n] at r; cases r
  have hm : ∀ b u, H b = some u → ¬ Mut (some u) → b ≠ x := fun b u q nm z => by subst z; rw [q] at mu; exact nm mu
  refine ⟨fun b u q n _ _ => k b u (hb b n) q, fun b u q n _ _ => ⟨u.slots, k b u (hb b n) q⟩, fun b u q n _ => by rw [upd_ne (hx b n)]; exact n, fun b u q _ => ?_,
    fun b xs q => by rw [upd_ne (hm b _ q fun z => z)]; exact q, fun b u xs q => by rw [upd_ne (hm b _ q fun z => z)]; exact q, fun b ps q => ⟨#[], by rw [upd_ne (hm b _ q fun z => z), q]; simp⟩⟩
  by_cases hbe : b = e
  · subst hbe; exact heo
  · exact ⟨u, k b u hbe q⟩
theorem Un.mono (u : Un fs ex H H1 h h1) (hs : ∀ b ∈ fs, b ∈ fs') (hx : ∀ b ∈ ex, b ∈ ex') : Un fs' ex' H H1 h h1 :=
  ⟨fun b ob q n hb he => u.keep b ob q n (fun z => hb (hs b z)) fun z => he (hx b z), fun _ _ q n _ he => u.any q n fun z => he (hx _ z), fun b ob q n he => u.free b ob q n fun z => he (hx b z), fun b ob q he => u.there b ob q fun z => he (hx b z), u.tups, u.frzs, u.tbls⟩
end
def trk (h : Heap) (H : Hp) : List Addr := (List.range h.objs.size).filter fun a => (H a).isSome
def hidT (h : Heap) (H : Hp) : Heap := PySem.W.hideAll h (trk h H)
theorem hidT_size (h : Heap) (H : Hp) : (hidT h H).objs.size = h.objs.size := PySem.W.hideAll_size _ _
theorem hidT_get {h : Heap} {H : Hp} {b : Addr} {o : Obj} (e : h.get? b = some o) (n : H b = none) : (hidT h H).get? b = some o :=
  PySem.W.hideAll_get _ e fun hm => by
    have q : (H b).isSome = true := (List.mem_filter.mp hm).2
    rw [n] at q; simp at q
theorem of_hidT {h : Heap} {H : Hp} {b : Addr} {o : Obj} (e : (hidT h H).get? b = some o) : h.get? b = some o ∧ H b = none := by
  have e' : h.get? b = some o := PySem.W.of_hideAll (trk h H) e
  refine ⟨e', ?_⟩
  cases q : H b with
  | none => rfl
  | some x =>
    have hm : b ∈ trk h H := List.mem_filter.mpr ⟨List.mem_range.mpr (Heap.lt_size e'), by simp [q]⟩
    have z : (hidT h H).get? b = none := PySem.W.hideAll_none (trk h H) hm
    rw [z] at e; cases e
def allNews (g h : Heap) (L : Addr) : List (Addr × Obj) := (List.range h.objs.size).filterMap fun a => if a = L ∨ (g.get? a).isSome = true then none else (h.get? a).map fun o => (a, o)
def rest (g h : Heap) (L d : Addr) : List (Addr × Obj) := (allNews g h L).filter fun p => decide (p.1 ≠ d)
end L2
namespace L2
open PySem PySem.Spec PyProof.Rows
structure Mod (K : PySem.W.Frag) (mg : Str → Option Value) (base : Heap) : Prop where
  kin : K.In base
  glob : base.Ns mainGlobals mg
  blt : ∃ mb, base.Ns builtinsNs mb ∧ ∀ x : Str, x ≠ "__name__" → mb x = bootBuiltins x
  nolimit : base.NoLimit
structure Cx where
  prog : Program
  w : World
  K : PySem.W.Frag
  mg : Str → Option Value
  base : Heap
  A : Around
  N : List Str
  s₀ : Shared
  H₀ : Hp
  env : Env
  outer : List Env
  stack : List Env
  ex : List Addr
  fn : Str → Bool
  calm : Bool
  pn : List (Addr × Obj)
  xe : Value → Shared → Prop
def frs (l : List Env) : List Addr := l.filterMap (·.frame)
abbrev Cx.fs (X : Cx) : List Addr := frs X.outer
def Vis (sc : Scope) (x : Str) : Prop := sc.names.lookup x = some .local ∨ sc.names.lookup x = some .cell ∨ sc.names.lookup x = some .free
def Loc (sc : Scope) (x : Str) : Prop := sc.names.lookup x = some .local ∨ sc.names.lookup x = some .cell
def Look (env : Env) (h : Heap) (m : Str → Option Value) (x : Str) (u : Value) : Prop :=
  (env.kindOf x = some .local ∧ m x = some u) ∨ ((env.kindOf x = some .cell ∨ env.kindOf x = some .free) ∧ ∃ c, env.cells.lookup x = some c ∧ h.IsCell c (some u))
structure Cx.Ok (X : Cx) : Prop where
  mod : Mod X.K X.mg X.base
  kind : X.env.scope.kind = .function
  glob : X.env.globals = mainGlobals
  blt : X.env.builtins = builtinsNs
  above : X.s₀.heap.objs.size ≤ X.env.locals
  inj : ∀ x y c, X.env.cells.lookup x = some c → X.env.cells.lookup y = some c → x = y
  has : ∀ x, (X.env.kindOf x = some .cell ∨ X.env.kindOf x = some .free) → ∃ c, X.env.cells.lookup x = some c
  cab : ∀ x c, X.fn x = true → X.env.cells.lookup x = some c → X.s₀.heap.objs.size ≤ c
  hd : X.calm = true → X.A.handled = none
  frames : X.A.frames = some X.stack
  stk : X.stack = X.outer ∨ (X.stack = X.env :: X.outer ∧ X.env.frame = some X.env.locals)
  exf : ∀ b ∈ X.ex, b ≠ X.env.locals ∧ ∀ x c, X.env.cells.lookup x = some c → c ≠ b
  bs : ∀ b o, X.base.get? b = some o → X.s₀.heap.get? b = some o ∧ X.H₀ b = none
  bsz : X.base.objs.size ≤ X.s₀.heap.objs.size
  noex : ∀ b o, X.base.get? b = some o → b ∉ X.ex
  exfs : ∀ b ∈ X.ex, b ∉ X.fs
  funs : X.s₀.heap.FunFrames X.base X.outer
  frf : ∀ b ∈ X.fs, X.H₀ b = none
structure Inv (X : Cx) (pins : List (Addr × Obj)) (σ : List (Option V)) (H : Hp) (s : Shared) : Prop where
  ok : X.Ok
  os : s.os = X.s₀.os
  bare : AllBare s.gens
  base : Un X.fs X.ex X.H₀ H X.s₀.heap s.heap
  loc : ∃ m, s.heap.Ns X.env.locals m ∧ ∀ (i : Nat) (x : Str) (v : V), X.N[i]? = some x → σ[i]? = some (some v) → Vis X.env.scope x → ∃ u, RelV v u ∧ Look X.env s.heap m x u
  cell : ∀ x c, X.env.cells.lookup x = some c → ∃ v, s.heap.IsCell c v
  free : H X.env.locals = none
  freeC : ∀ x c, X.env.cells.lookup x = some c → H c = none
  pin : ∀ p ∈ X.pn ++ pins, s.heap.get? p.1 = some p.2 ∧ H p.1 = none ∧ p.1 ≠ X.env.locals ∧ p.1 ∉ X.fs ∧ ∀ v, p.2.data ≠ .cell v
  hok : HOk X.prog X.w H s.heap
  len : σ.length = X.N.length
section
variable {X : Cx} {pins : List (Addr × Obj)} {σ : List (Option V)} {H H' : Hp} {s : Shared} {h' : Heap}
theorem Cx.Ok.nofr (ok : X.Ok) {b : Addr} {o : Obj} (e : X.base.get? b = some o) : b ∉ X.fs := fun hb => by
  have := (ok.funs.mem hb).1
  rw [e] at this; cases this
theorem Inv.bs (I : Inv X pins σ H s) : ∀ b o, X.base.get? b = some o → s.heap.get? b = some o ∧ H b = none := fun b o e =>
  ⟨I.base.keep b o (I.ok.bs b o e).1 (I.ok.bs b o e).2 (I.ok.nofr e) (I.ok.noex b o e), I.base.free b o (I.ok.bs b o e).1 (I.ok.bs b o e).2 (I.ok.noex b o e)⟩
theorem Inv.bk (I : Inv X pins σ H s) : ∀ b o, X.base.get? b = some o → s.heap.get? b = some o := fun b o e => (I.bs b o e).1
theorem Inv.mod (I : Inv X pins σ H s) : Mod X.K X.mg X.base := I.ok.mod
theorem Inv.kIn (I : Inv X pins σ H s) : X.K.In s.heap := I.ok.mod.kin.keeps I.bk
theorem Inv.nolimit (I : Inv X pins σ H s) : s.heap.NoLimit := I.ok.mod.nolimit.keeps I.bk
theorem Inv.fr (I : Inv X pins σ H s) : ∃ m, Fr X.base X.env.locals s.heap m :=
  let ⟨m, hn, _⟩ := I.loc
  ⟨m, hn, I.bk, Nat.le_trans I.ok.bsz I.ok.above⟩
theorem Inv.lt (I : Inv X pins σ H s) : X.env.locals < s.heap.objs.size := let ⟨_, hn, _⟩ := I.loc; hn.lt
theorem Inv.sz (I : Inv X pins σ H s) : X.s₀.heap.objs.size ≤ s.heap.objs.size := Nat.le_trans I.ok.above (Nat.le_of_lt I.lt)
theorem Inv.nofs (I : Inv X pins σ H s) {a : Addr} (h : s.heap.objs.size ≤ a) : a ∉ X.fs := fun hb => by
  obtain ⟨_, o, ho, _⟩ := I.ok.funs.mem hb
  exact absurd (Nat.lt_of_lt_of_le (Heap.lt_size ho) (Nat.le_trans I.sz h)) (Nat.lt_irrefl _)
theorem Inv.cne (I : Inv X pins σ H s) : ∀ x c, X.env.cells.lookup x = some c → c ≠ X.env.locals := fun x c e z => by
  obtain ⟨v, o, ho, hd⟩ := I.cell x c e
  obtain ⟨m, ⟨o', es, ep, ho', hd', _⟩, _⟩ := I.loc
  rw [z, ho'] at ho; cases ho; rw [hd'] at hd; cases hd
theorem Inv.funs (I : Inv X pins σ H s) : s.heap.FunFrames X.base X.outer := by
  have all : ∀ (l : List Env), (∀ b ∈ frs l, b ∈ X.fs) → X.s₀.heap.FunFrames X.base l → s.heap.FunFrames X.base l := by
    intro l
    induction l with
    | nil => intro _ _; trivial
    | cons env r ih =>
      intro hs hl
      obtain ⟨hk, ⟨L, o, hf, hn, ho, hd⟩, hr⟩ := hl
      have hL : L ∈ X.fs := hs L (by unfold frs; rw [List.filterMap_cons, hf]; exact List.mem_cons_self)
      obtain ⟨sl, e⟩ := I.base.slot L o ho (I.ok.frf L hL) hL fun z => I.ok.exfs L z hL
      exact ⟨hk, ⟨L, _, hf, hn, e, hd⟩, ih (fun b hb => hs b (by unfold frs; rw [List.filterMap_cons, hf]; exact List.mem_cons_of_mem _ hb)) hr⟩
  exact all X.outer (fun _ hb => hb) I.ok.funs
theorem Inv.stack (I : Inv X pins σ H s) : s.heap.FunFrames X.base X.stack := by
  rcases I.ok.stk with e | ⟨e, hf⟩
  · rw [e]; exact I.funs
  · rw [e]
    obtain ⟨m, hn, _⟩ := I.loc
    refine .cons (by rw [I.ok.kind]; decide) hf hn ?_ I.funs
    exact Heap.get?_none_of_le (Nat.le_trans I.ok.bsz I.ok.above)
theorem Inv.stkSub (I : Inv X pins σ H s) : ∀ b ∈ frs X.stack, b ∈ X.env.locals :: X.fs := fun b hb => by
  rcases I.ok.stk with e | ⟨e, hf⟩
  · rw [e] at hb; exact List.mem_cons_of_mem _ hb
  · rw [e] at hb
    unfold frs at hb
    rw [List.filterMap_cons, hf] at hb
    exact hb
theorem Inv.stkFree (I : Inv X pins σ H s) : ∀ b ∈ frs X.stack, H b = none := fun b hb => by
  rcases List.mem_cons.mp (I.stkSub b hb) with e | hb
  · rw [e]; exact I.free
  · obtain ⟨_, o, ho, _⟩ := I.ok.funs.mem hb
    exact I.base.free b o ho (I.ok.frf b hb) fun z => I.ok.exfs b z hb
theorem Inv.step {g' : Array GenState} {t' : Nat} {d' : Drawn} {ch : List Addr} (I : Inv X pins σ H s)
    (hch : ∀ b ∈ ch, (b ∈ X.ex ∨ X.s₀.heap.objs.size ≤ b) ∧ b ≠ X.env.locals ∧ (∀ x c, X.env.cells.lookup x = some c → c ≠ b) ∧ ∀ p ∈ X.pn ++ pins, p.1 ≠ b)
    (keep : ∀ b o, b ≠ X.env.locals → b ∉ X.fs → b ∉ ch → s.heap.get? b = some o → H b = none → h'.get? b = some o)
    (slot : ∀ b o, b ≠ X.env.locals → b ∈ X.fs → b ∉ ch → s.heap.get? b = some o → H b = none → ∃ sl, h'.get? b = some { o with slots := sl }) (free : ∀ b o, b ∉ ch → s.heap.get? b = some o → H b = none → H' b = none)
    (there : ∀ b o, b ∉ ch → s.heap.get? b = some o → ∃ o', h'.get? b = some o')
    (tups : ∀ b xs, H b = some (.tup xs) → H' b = some (.tup xs)) (frzs : ∀ b o u, H b = some (.frz o u) → H' b = some (.frz o u)) (tbls : ∀ b ps, H b = some (.tbl ps) → ∃ more, H' b = some (.tbl (ps ++ more)))
    (ns : ∀ m, s.heap.Ns X.env.locals m → h'.Ns X.env.locals m) (hok : HOk X.prog X.w H' h') (hg : AllBare g') :
    Inv X pins σ H' { s with heap := h', gens := g', drawn := d', toks := t' } := by
  have neL : ∀ b o, X.s₀.heap.get? b = some o → b ≠ X.env.locals := fun b o e => Nat.ne_of_lt (Nat.lt_of_lt_of_le (Heap.lt_size e) I.ok.above)
  have neC : ∀ b o, X.s₀.heap.get? b = some o → b ∉ X.ex → b ∉ ch := fun b o e hx hb => by
    rcases (hch b hb).1 with z | z
    · exact hx z
    · exact absurd (Nat.lt_of_lt_of_le (Heap.lt_size e) z) (Nat.lt_irrefl _)
  have cellK : ∀ x c, X.env.cells.lookup x = some c → ∀ v, s.heap.IsCell c v → h'.IsCell c v := fun x c e v ⟨o, ho, hd⟩ => by
    have nch : c ∉ ch := fun z => (hch c z).2.2.1 x c e rfl
    by_cases hc : c ∈ X.fs
    · obtain ⟨sl, q⟩ := slot c o (I.cne x c e) hc nch ho (I.freeC x c e)
      exact ⟨_, q, hd⟩
    · exact ⟨o, keep c o (I.cne x c e) hc nch ho (I.freeC x c e), hd⟩
  refine ⟨I.ok, I.os, hg, ⟨fun b o e n hb hx => ?_, fun b o e n hb hx => ?_, fun b o e n hx => ?_, fun b o e hx => ?_, fun b xs e => tups b xs (I.base.tups b xs e), fun b o xs e => frzs b o xs (I.base.frzs b o xs e), fun b ps e => ?_⟩, ?_, fun x c e => ?_, ?_, fun x c e => ?_, fun p hp => ?_, hok, I.len⟩
  · exact keep b o (neL b o e) hb (neC b o e hx) (I.base.keep b o e n hb hx) (I.base.free b o e n hx)
  · obtain ⟨sl, e1⟩ := I.base.slot b o e n hb hx
    obtain ⟨sl', e2⟩ := slot b _ (neL b o e) hb (neC b o e hx) e1 (I.base.free b o e n hx)
    exact ⟨sl', e2⟩
  · obtain ⟨o', e1⟩ := I.base.there b o e hx
    exact free b o' (neC b o e hx) e1 (I.base.free b o e n hx)
  · obtain ⟨o', e1⟩ := I.base.there b o e hx
    exact there b o' (neC b o e hx) e1
  · obtain ⟨m1, e1⟩ := I.base.tbls b ps e
    obtain ⟨m2, e2⟩ := tbls b _ e1
    exact ⟨m1 ++ m2, by rw [e2, Array.append_assoc]⟩
  · obtain ⟨m, hn, hl⟩ := I.loc
    refine ⟨m, ns m hn, fun i x v e1 e2 e3 => ?_⟩
    obtain ⟨u, r, l⟩ := hl i x v e1 e2 e3
    refine ⟨u, r, ?_⟩
    rcases l with l | ⟨k, c, e, z⟩
    · exact .inl l
    · exact .inr ⟨k, c, e, cellK x c e _ z⟩
  · obtain ⟨v, z⟩ := I.cell x c e
    exact ⟨v, cellK x c e v z⟩
  · obtain ⟨m, ⟨o, _, _, ho, _⟩, _⟩ := I.loc
    exact free _ o (fun z => (hch _ z).2.1 rfl) ho I.free
  · obtain ⟨v, o, ho, hd⟩ := I.cell x c e
    exact free c o (fun z => (hch c z).2.2.1 x c e rfl) ho (I.freeC x c e)
  · obtain ⟨e, n, ne, nf, d⟩ := I.pin p hp
    have nch : p.1 ∉ ch := fun z => (hch p.1 z).2.2.2 p hp rfl
    exact ⟨keep p.1 p.2 ne nf nch e n, free p.1 p.2 nch e n, ne, nf, d⟩
theorem Inv.un {t' : Nat} (I : Inv X pins σ H s) (u : Un X.fs [] H H' s.heap h') (hok : HOk X.prog X.w H' h') : Inv X pins σ H' { s with heap := h', toks := t' } := by
  obtain ⟨m, ⟨o, es, ep, ho, r⟩, _⟩ := id I.loc
  obtain ⟨sl, hL⟩ := u.any ho I.free (by simp)
  exact I.step (g' := s.gens) (d' := s.drawn) (ch := []) (fun _ z => nomatch z) (fun b o _ hb _ e n => u.keep b o e n hb (by simp)) (fun b o _ hb _ e n => u.slot b o e n hb (by simp)) (fun b o _ e n => u.free b o e n (by simp)) (fun b o _ e => u.there b o e (by simp)) u.tups u.frzs u.tbls (fun m' hm => by
    obtain ⟨o', es', ep', ho', r'⟩ := hm
    rw [ho] at ho'; cases ho'
    exact ⟨_, es', ep', hL, r'⟩) hok I.bare
theorem Inv.call {g' : Array GenState} {t' : Nat} {d' : Drawn} {ch : List Addr} (I : Inv X pins σ H s) (u : Un (frs X.stack) ch H H' s.heap h') (hok : HOk X.prog X.w H' h') (hg : AllBare g')
    (hch : ∀ b ∈ ch, (b ∈ X.ex ∨ X.s₀.heap.objs.size ≤ b) ∧ b ≠ X.env.locals ∧ (∀ x c, X.env.cells.lookup x = some c → c ≠ b) ∧ ∀ p ∈ X.pn ++ pins, p.1 ≠ b) :
    Inv X pins σ H' { s with heap := h', gens := g', drawn := d', toks := t' } := by
  obtain ⟨m, ⟨o, es, ep, ho, r⟩, _⟩ := id I.loc
  obtain ⟨sl, hL⟩ := u.any ho I.free fun z => (hch _ z).2.1 rfl
  exact I.step (ch := ch) hch (fun b o hL hb hc e n => u.keep b o e n (fun z => (List.mem_cons.mp (I.stkSub b z)).elim hL hb) hc) (fun b o _ _ hc e n => u.any e n hc) (fun b o hc e n => u.free b o e n hc) (fun b o hc e => u.there b o e hc) u.tups u.frzs u.tbls (fun m' hm => by
    obtain ⟨o', es', ep', ho', r'⟩ := hm
    rw [ho] at ho'; cases ho'
    exact ⟨_, es', ep', hL, r'⟩) hok hg
theorem Inv.turned {t' : Nat} {it : Addr} (I : Inv X pins σ H s) (k : ∀ b o, b ≠ it → s.heap.get? b = some o → h'.get? b = some o) (hn : H it = none) (hL : it ≠ X.env.locals)
    (h1 : it ∈ X.ex ∨ X.s₀.heap.objs.size ≤ it) (h2 : ∀ x c, X.env.cells.lookup x = some c → c ≠ it) (h3 : ∀ p ∈ X.pn ++ pins, p.1 ≠ it) : Inv X pins σ H { s with heap := h', toks := t' } := by
  have nit : ∀ b u, H b = some u → b ≠ it := fun b u e z => by rw [z, hn] at e; cases e
  refine I.step (g' := s.gens) (d' := s.drawn) (ch := [it]) (fun b hb => ?_) (fun b o _ _ hc e _ => k b o (fun z => hc (by simp [z])) e) (fun b o _ _ hc e _ => ⟨o.slots, k b o (fun z => hc (by simp [z])) e⟩) (fun _ _ _ _ n => n)
    (fun b o hc e => ⟨o, k b o (fun z => hc (by simp [z])) e⟩) (fun _ _ e => e) (fun _ _ _ e => e) (fun b ps e => ⟨#[], by rw [e]; simp⟩) (fun m hm => ?_) (fun b u e => ?_) I.bare
  · have e : b = it := by simpa using hb
    subst e
    exact ⟨h1, hL, h2, h3⟩
  · obtain ⟨o, es, ep, ho, r⟩ := hm
    exact ⟨o, es, ep, k _ o (Ne.symm hL) ho, r⟩
  · refine (I.hok b u e).stay (fun c v hc q => k c v ?_ q) (fun _ q => q) (fun _ _ q => q) fun _ _ _ q => q
    rcases hc with z | z
    · rw [z]; exact nit b u e
    · exact nit c _ z
theorem Inv.tok (I : Inv X pins σ H s) (t : Nat) : Inv X pins σ H { s with toks := t } := I.un (h' := s.heap) (t' := t) Un.refl I.hok
theorem Inv.kept {t' : Nat} (I : Inv X pins σ H s) (k : ∀ b u, s.heap.get? b = some u → h'.get? b = some u) : Inv X pins σ H { s with heap := h', toks := t' } := I.un (Un.kept k) (I.hok.kept k)
theorem Inv.laid {a : Addr} {o : HO} {t' : Nat} (I : Inv X pins σ H s) (k : ∀ b u, s.heap.get? b = some u → h'.get? b = some u) (hp : s.heap.objs.size ≤ a) (new : ObjOk X.prog X.w (upd H a o) h' a o) :
    Inv X pins σ (upd H a o) { s with heap := h', toks := t' } := I.un (Un.laid k hp (I.hok.fresh hp)) (I.hok.laid k hp new)
theorem Inv.write {x e : Addr} {o : HO} {t' : Nat} (I : Inv X pins σ H s) (mu : Mut (H x)) (he : e = x ∨ H e = some (.own x)) (k : ∀ b u, b ≠ e → s.heap.get? b = some u → h'.get? b = some u) (heo : ∃ u, h'.get? e = some u)
    (new : ObjOk X.prog X.w (upd H x o) h' x o) : Inv X pins σ (upd H x o) { s with heap := h', toks := t' } := I.un (Un.write mu he k heo) (I.hok.write mu he k heo new)
theorem Inv.pins_of {pins' : List (Addr × Obj)} (I : Inv X pins σ H s) (h : ∀ p ∈ pins', s.heap.get? p.1 = some p.2 ∧ H p.1 = none ∧ p.1 ≠ X.env.locals ∧ p.1 ∉ X.fs ∧ ∀ v, p.2.data ≠ .cell v) : Inv X pins' σ H s :=
  ⟨I.ok, I.os, I.bare, I.base, I.loc, I.cell, I.free, I.freeC, fun p hp => (List.mem_append.mp hp).elim (fun z => I.pin p (List.mem_append_left _ z)) (h p), I.hok, I.len⟩
theorem nodup_ix {N : List Str} (hN : N.Nodup) {i j : Nat} {x : Str} (a : N[i]? = some x) (b : N[j]? = some x) : i = j := by
  obtain ⟨h1, e1⟩ := List.getElem?_eq_some_iff.mp a
  obtain ⟨h2, e2⟩ := List.getElem?_eq_some_iff.mp b
  exact (List.getElem_inj hN).mp (e1.trans e2.symm)
theorem store_ok2 {M : Model} {A : Around} {E : Value → Shared → Prop} {i : Nat} {x : Str} {v : V} {u : Value} {Q : Unit → Shared → Prop} (I : Inv X pins σ H s) (hN : X.N.Nodup) (hi : X.N[i]? = some x) (hx : Loc X.env.scope x) (r : RelV v u)
    (h : ∀ s', Inv X pins (σ.set i (some v)) H s' → (∃ a, Heap.SameBut a s.heap s'.heap ∧ (a = X.env.locals ∨ X.env.cells.lookup x = some a)) → Q () s') (hf : X.fn x = true ∨ X.env.scope.names.lookup x = some .local := by first | exact .inl rfl | exact .inr rfl | assumption) : wpAny M A (storeName X.env x u) Q E s := by
  obtain ⟨m, hn, hl⟩ := id I.loc
  have hcls : (X.env.scope.kind == .class || (X.env.scope.kind == .module && X.env.locals != X.env.globals)) = false := by rw [I.ok.kind]; rfl
  have hiσ : i < σ.length := by rw [I.len]; exact (List.getElem?_eq_some_iff.mp hi).1
  have cne := I.cne
  have tracked : ∀ {a : Addr} {h' : Heap}, (∃ o, s.heap.get? a = some o ∧ H a = none) → Heap.SameBut a s.heap h' → HOk X.prog X.w H h' := fun {a h'} ha hs b ob e => by
    obtain ⟨_, _, hfree⟩ := ha
    refine (I.hok b ob e).stay (fun c w' hc q => (hs.2 c ?_).trans q) (fun _ q => q) (fun _ _ q => q) fun _ _ _ q => q
    rintro rfl
    rcases hc with rfl | hc
    · rw [hfree] at e; cases e
    · rw [hfree] at hc; cases hc
  rcases hx with hk | hk
  · refine wpAny_storeName_local hk hn (fun h' hn' hs => ?_) hcls
    obtain ⟨oL, _, _, hoL, _⟩ := id hn
    refine h _ ⟨I.ok, I.os, I.bare, ⟨fun b o e n hb hx => ?_, fun b o e n hb hx => ?_, I.base.free, fun b o e hx => ?_, I.base.tups, I.base.frzs, I.base.tbls⟩, ⟨_, hn', fun j y v' e1 e2 e3 => ?_⟩, fun y c e => ?_, I.free, I.freeC, fun p hp => ?_, tracked ⟨oL, hoL, I.free⟩ hs, by simpa using I.len⟩ ⟨_, hs, .inl rfl⟩
    · exact (hs.2 b (Nat.ne_of_lt (Nat.lt_of_lt_of_le (Heap.lt_size e) I.ok.above))).trans (I.base.keep b o e n hb hx)
    · obtain ⟨sl, e1⟩ := I.base.slot b o e n hb hx
      exact ⟨sl, (hs.2 b (Nat.ne_of_lt (Nat.lt_of_lt_of_le (Heap.lt_size e) I.ok.above))).trans e1⟩
    · obtain ⟨o', e1⟩ := I.base.there b o e hx
      exact ⟨o', (hs.2 b (Nat.ne_of_lt (Nat.lt_of_lt_of_le (Heap.lt_size e) I.ok.above))).trans e1⟩
    · by_cases hj : j = i
      · subst hj
        rw [hi] at e1; cases e1
        rw [List.getElem?_set_self hiσ] at e2
        cases e2
        exact ⟨u, r, .inl ⟨hk, by simp⟩⟩
      · rw [List.getElem?_set_ne (Ne.symm hj)] at e2
        obtain ⟨u', r', q⟩ := hl j y v' e1 e2 e3
        refine ⟨u', r', ?_⟩
        rcases q with ⟨k, e⟩ | ⟨k, c, e, z⟩
        · refine .inl ⟨k, ?_⟩
          have : y ≠ x := fun e => hj (nodup_ix hN e1 (e ▸ hi))
          simp [this, e]
        · exact .inr ⟨k, c, e, z.sameBut hs (cne y c e)⟩
    · obtain ⟨w', z⟩ := I.cell y c e
      exact ⟨w', z.sameBut hs (cne y c e)⟩
    · obtain ⟨e, n, ne, nf, d⟩ := I.pin p hp
      exact ⟨(hs.2 p.1 ne).trans e, n, ne, nf, d⟩
  · have hfn : X.fn x = true := by
      rcases hf with z | z
      · exact z
      · rw [z] at hk; cases hk
    obtain ⟨c, hc⟩ := I.ok.has x (.inl hk)
    obtain ⟨w', z⟩ := I.cell x c hc
    refine wpAny_storeName_cell I.ok.kind hk hc z (fun h' hc' hs => ?_)
    obtain ⟨oc, hoc, hocd⟩ := id z
    refine h { s with heap := h' } ⟨I.ok, I.os, I.bare, ⟨fun b o e n hb hx => ?_, fun b o e n hb hx => ?_, I.base.free, fun b o e hx => ?_, I.base.tups, I.base.frzs, I.base.tbls⟩, ⟨m, hn.sameBut hs (Ne.symm (cne x c hc)), fun j y v' e1 e2 e3 => ?_⟩, fun y c' e => ?_, I.free, I.freeC, fun p hp => ?_, tracked ⟨oc, hoc, I.freeC x c hc⟩ hs, by simpa using I.len⟩ ⟨c, hs, .inr hc⟩
    · exact (hs.2 b (Nat.ne_of_lt (Nat.lt_of_lt_of_le (Heap.lt_size e) (I.ok.cab x c hfn hc)))).trans (I.base.keep b o e n hb hx)
    · obtain ⟨sl, e1⟩ := I.base.slot b o e n hb hx
      exact ⟨sl, (hs.2 b (Nat.ne_of_lt (Nat.lt_of_lt_of_le (Heap.lt_size e) (I.ok.cab x c hfn hc)))).trans e1⟩
    · obtain ⟨o', e1⟩ := I.base.there b o e hx
      exact ⟨o', (hs.2 b (Nat.ne_of_lt (Nat.lt_of_lt_of_le (Heap.lt_size e) (I.ok.cab x c hfn hc)))).trans e1⟩
    · by_cases hj : j = i
      · subst hj
        rw [hi] at e1; cases e1
        rw [List.getElem?_set_self hiσ] at e2
        cases e2
        exact ⟨u, r, .inr ⟨.inl hk, c, hc, hc'⟩⟩
      · rw [List.getElem?_set_ne (Ne.symm hj)] at e2
        obtain ⟨u', r', q⟩ := hl j y v' e1 e2 e3
        refine ⟨u', r', ?_⟩
        rcases q with q | ⟨k, c', e, z'⟩
        · exact .inl q
        · refine .inr ⟨k, c', e, z'.sameBut hs ?_⟩
          rintro rfl
          exact hj (nodup_ix hN e1 (I.ok.inj _ _ _ e hc ▸ hi))
    · by_cases hcc : c' = c
      · subst hcc; exact ⟨_, hc'⟩
      · obtain ⟨w2, z2⟩ := I.cell y c' e
        exact ⟨w2, z2.sameBut hs hcc⟩
    · obtain ⟨e, n, ne, nf, d⟩ := I.pin p hp
      refine ⟨(hs.2 p.1 ?_).trans e, n, ne, nf, d⟩
      intro q
      rw [q, hoc] at e
      have q' : oc = p.2 := Option.some.inj e
      exact d w' (by rw [← q']; exact hocd)
theorem store_ok {M : Model} {A : Around} {E : Value → Shared → Prop} {i : Nat} {x : Str} {v : V} {u : Value} {Q : Unit → Shared → Prop} (I : Inv X pins σ H s) (hN : X.N.Nodup) (hi : X.N[i]? = some x) (hx : Loc X.env.scope x) (r : RelV v u)
    (h : ∀ s', Inv X pins (σ.set i (some v)) H s' → Q () s') (hf : X.fn x = true ∨ X.env.scope.names.lookup x = some .local := by first | exact .inl rfl | exact .inr rfl | assumption) : wpAny M A (storeName X.env x u) Q E s :=
  store_ok2 I hN hi hx r (fun s' I' _ => h s' I') hf
theorem Inv.call' {s' : Shared} {ch : List Addr} (I : Inv X pins σ H s) (ho : s'.os = s.os) (u : Un (frs X.stack) ch H H' s.heap s'.heap) (hok : HOk X.prog X.w H' s'.heap) (hg : AllBare s'.gens)
    (hch : ∀ b ∈ ch, (b ∈ X.ex ∨ X.s₀.heap.objs.size ≤ b) ∧ b ≠ X.env.locals ∧ (∀ x c, X.env.cells.lookup x = some c → c ≠ b) ∧ ∀ p ∈ X.pn ++ pins, p.1 ≠ b) : Inv X pins σ H' s' := by
  obtain ⟨h', g', d', t', o'⟩ := s'
  have e : o' = s.os := ho
  subst e
  exact I.call (g' := g') (t' := t') (d' := d') u hok hg hch
end
abbrev XK := Value → Option Addr → Hp → Prop
abbrev St := List (Option V)
abbrev VK := V → Hp → Prop
abbrev TE := St → Hp → VK → Prop
abbrev TT := St → Hp → (Bool → Hp → Prop) → Prop
abbrev TA := St → Hp → (List V → Hp → Prop) → Prop
structure Ends where
  nx : St → Hp → Prop
  rt : VK
  bk : St → Hp → Prop := fun _ _ => False
  ct : St → Hp → Prop := fun _ _ => False
abbrev TS := Ends → St → Hp → Prop
def EP (X : Cx) (pins : List (Addr × Obj)) (σ : St) (Q : VK) (u : Value) (s' : Shared) : Prop := ∃ v H', Inv X pins σ H' s' ∧ RelV v u ∧ Q v H'
def TP (X : Cx) (pins : List (Addr × Obj)) (σ : St) (Q : Bool → Hp → Prop) (b : Bool) (s' : Shared) : Prop := ∃ H', Inv X pins σ H' s' ∧ Q b H'
def AP (X : Cx) (pins : List (Addr × Obj)) (σ : St) (Q : List V → Hp → Prop) (us : List Value) (s' : Shared) : Prop := ∃ vs H', Inv X pins σ H' s' ∧ Vals vs us ∧ Q vs H'
def SP (X : Cx) (pins : List (Addr × Obj)) (D : Ends) (f : Flow) (s' : Shared) : Prop :=
  match f with
  | .next => ∃ σ' H', Inv X pins σ' H' s' ∧ D.nx σ' H'
  | .brk => ∃ σ' H', Inv X pins σ' H' s' ∧ D.bk σ' H'
  | .cont => ∃ σ' H', Inv X pins σ' H' s' ∧ D.ct σ' H'
  | .ret u => ∃ v σ' H', Inv X pins σ' H' s' ∧ RelV v u ∧ D.rt v H'
def PE (X : Cx) (e : Expr) (t : TE) : Prop :=
  ∀ (pins : List (Addr × Obj)) (s : Shared) (σ : St) (H : Hp) (Q : VK), Inv X pins σ H s → t σ H Q → wpAny (model X.prog X.w) X.A (eval e X.env) (EP X pins σ Q) X.xe s
def PT (X : Cx) (e : Expr) (t : TT) : Prop :=
  ∀ (pins : List (Addr × Obj)) (s : Shared) (σ : St) (H : Hp) (Q : Bool → Hp → Prop), Inv X pins σ H s → t σ H Q → wpAny (model X.prog X.w) X.A (isTrue e X.env (eval e X.env)) (TP X pins σ Q) X.xe s
def PW (X : Cx) (e : Expr) (t : TT) : Prop :=
  ∀ (whole : Sem Value) (pins : List (Addr × Obj)) (s : Shared) (σ : St) (H : Hp) (Q : Bool → Hp → Prop), Inv X pins σ H s → t σ H Q → wpAny (model X.prog X.w) X.A (isTrue e X.env whole) (TP X pins σ Q) X.xe s
theorem PW.pt {X : Cx} {e : Expr} {t : TT} (h : PW X e t) : PT X e t := h _
def PA (X : Cx) (es : List Expr) (t : TA) : Prop :=
  ∀ (pos : Pos) (pins : List (Addr × Obj)) (s : Shared) (σ : St) (H : Hp) (Q : List V → Hp → Prop), Inv X pins σ H s → t σ H Q → wpAny (model X.prog X.w) X.A (spliced (backTo pos (starEach es X.env))) (AP X pins σ Q) X.xe s
def PS (X : Cx) (st : Stmt) (t : TS) : Prop :=
  ∀ (pins : List (Addr × Obj)) (s : Shared) (σ : St) (H : Hp) (D : Ends), Inv X pins σ H s → t D σ H → wpAny (model X.prog X.w) X.A (exec st X.env) (SP X pins D) X.xe s
def PSs (X : Cx) (st : List Stmt) (t : TS) : Prop :=
  ∀ (pins : List (Addr × Obj)) (s : Shared) (σ : St) (H : Hp) (D : Ends), Inv X pins σ H s → t D σ H → wpAny (model X.prog X.w) X.A (execs st X.env) (SP X pins D) X.xe s
theorem thn {α : Type} {t : Sem α} {Q Q' : α → Shared → Prop} {M : Model} {A : Around} {E : Value → Shared → Prop} {s : Shared} (h : wpAny M A t Q E s) (hQ : ∀ a s, Q a s → Q' a s) : wpAny M A t Q' E s := wpAny_mono h hQ fun _ _ x => x
end L2
namespace L2
open PySem PySem.Spec PyProof.Rows
section
variable {X : Cx}
def tVar (i : Nat) : TE := fun σ H Q => ∃ v, σ[i]? = some (some v) ∧ Q v H
def tC (v : V) : TE := fun _ H Q => Q v H
theorem pe_var {i : Nat} {x : Str} {pos : Pos} (hN : X.N[i]? = some x) (hv : Vis X.env.scope x) (hd : (x == ("__debug__" : Str)) = false := by decide) (hcd : (x == ("__classdict__" : Str)) = false := by decide) : PE X (.Name x pos) (tVar i) := by
  intro pins s σ H Q I h
  obtain ⟨v, e, h⟩ := h
  obtain ⟨m, hn, hl⟩ := I.loc
  obtain ⟨u, r, l⟩ := hl i x v hN e hv
  have fin : EP X pins σ Q u s := ⟨v, H, I, r, h⟩
  rcases l with ⟨hk, hm⟩ | ⟨hk, c, hc, hcell⟩
  · exact wpAny_Name (wpAny_loadName_local I.ok.kind hk hn hm fin) hd
  · rcases hk with hk | hk
    · exact wpAny_Name (wpAny_loadName_cell I.ok.kind hk hc hcell fin) hd
    · exact wpAny_Name (wpAny_loadName_free I.ok.kind hk hc hcell fin hcd) hd
theorem pe_int {i j pos} : PE X (.Constant (.int i) j pos) (tC (.int i)) := fun _ _ _ H _ I h => wpAny_Constant_int ⟨.int i, H, I.tok _, ⟨_, rfl⟩, h⟩
theorem pe_bl {b j pos} : PE X (.Constant (.bool b) j pos) (tC (.bl b)) := fun _ _ _ H _ I h => Constant_bool ⟨.bl b, H, I, rfl, h⟩
theorem pe_non {j pos} : PE X (.Constant .none j pos) (tC .non) := fun _ _ _ H _ I h => Constant_none ⟨.non, H, I, rfl, h⟩
theorem pe_str {x j pos} : PE X (.Constant (.str x) j pos) (tC (.str x)) := fun _ _ _ H _ I h => Calls.Constant_str ⟨.str x, H, I.tok _, ⟨_, rfl⟩, h⟩
def Gl (X : Cx) (x : Str) : Prop := X.env.kindOf x = some .globalImplicit
theorem ld_glob {E : Value → Shared → Prop} {pins : List (Addr × Obj)} {s : Shared} {σ : St} {H : Hp} {x : Str} {u : Value} {pos : Pos} {Q : Value → Shared → Prop} (I : Inv X pins σ H s) (hg : Gl X x) (hm : X.mg x = some u) (h : Q u s)
    (hd : (x == ("__debug__" : Str)) = false := by decide) : wpAny (model X.prog X.w) X.A (eval (.Name x pos) X.env) Q E s :=
  Calls.Name_function_global I.ok.kind hg (Calls.loadGlobal_global (by rw [I.ok.glob]; exact I.mod.glob.keeps I.bk) hm h) hd
theorem ld_blt {E : Value → Shared → Prop} {pins : List (Addr × Obj)} {s : Shared} {σ : St} {H : Hp} {x : Str} {u : Value} {pos : Pos} {Q : Value → Shared → Prop} (I : Inv X pins σ H s) (hg : Gl X x) (hm : X.mg x = none) (hv : bootBuiltins x = some u) (h : Q u s)
    (hn : x ≠ "__name__" := by decide) (hd : (x == ("__debug__" : Str)) = false := by decide) : wpAny (model X.prog X.w) X.A (eval (.Name x pos) X.env) Q E s := by
  obtain ⟨mb, h1, h2⟩ := I.mod.blt
  exact Calls.Name_function_global I.ok.kind hg (Calls.loadGlobal_builtin (by rw [I.ok.glob]; exact I.mod.glob.keeps I.bk) hm (by rw [I.ok.blt]; exact h1.keeps I.bk) ((h2 x hn).trans hv) h) hd
theorem pe_glob {x : Str} {v : V} {u : Value} {pos : Pos} (hg : Gl X x) (hm : X.mg x = some u) (r : RelV v u) (hd : (x == ("__debug__" : Str)) = false := by decide) : PE X (.Name x pos) (tC v) :=
  fun _ _ _ H _ I h => ld_glob I hg hm ⟨v, H, I, r, h⟩ hd
theorem pe_bltn {x : Str} {v : V} {u : Value} {pos : Pos} (hg : Gl X x) (hm : X.mg x = none) (hv : bootBuiltins x = some u) (r : RelV v u) (hn : x ≠ "__name__" := by decide) (hd : (x == ("__debug__" : Str)) = false := by decide) : PE X (.Name x pos) (tC v) :=
  fun _ _ _ H _ I h => ld_blt I hg hm hv ⟨v, H, I, r, h⟩ hn hd
variable {a b : Expr} {ta tb : TE} {pos : Pos}
def tB (t : TE) : TT := fun σ H Q => t σ H fun x H1 => ∃ c, x = .bl c ∧ Q c H1
theorem pt_val {e : Expr} {t : TE} (h : PE X e t) (he : ∀ whole, isTrue e X.env whole = (do let v ← whole; standAt e.pos; holding [v] (truthy v)) := by intro _; rfl) : PT X e (tB t) := by
  intro pins s σ H Q I hw
  refine isTrue_plain (thn (h pins s σ H _ I hw) fun v s1 ⟨x, H1, I1, r1, q1⟩ => ?_) (he _)
  obtain ⟨d, rfl, q⟩ := q1
  cases r1
  exact wpAny_truthy_bool ⟨H1, I1, q⟩
variable {tA tB' : TT} {rest : List Expr}
def tAnd (t u : TT) : TT := fun σ H Q => t σ H fun c H1 => if c = true then u σ H1 Q else Q false H1
def tOr (t u : TT) : TT := fun σ H Q => t σ H fun c H1 => if c = true then Q true H1 else u σ H1 Q
theorem pw_and1 (ha : PT X a tA) : PW X (.BoolOp .And [a] pos) tA := by
  intro wh pins s σ H Q I h
  refine isTrue_and (thn (ha pins s σ H Q I h) fun c s1 e => ?_)
  cases c with
  | true => exact isTrue_and_nil e
  | false => exact e
theorem pw_or1 (ha : PT X a tA) : PW X (.BoolOp .Or [a] pos) tA := by
  intro wh pins s σ H Q I h
  refine isTrue_or (thn (ha pins s σ H Q I h) fun c s1 e => ?_)
  cases c with
  | false => exact isTrue_or_nil e
  | true => exact e
theorem pw_and (ha : PT X a tA) (hb : PW X (.BoolOp .And (b :: rest) pos) tB') : PW X (.BoolOp .And (a :: b :: rest) pos) (tAnd tA tB') := by
  intro wh pins s σ H Q I h
  refine isTrue_and (thn (ha pins s σ H _ I h) fun c s1 ⟨H1, I1, q1⟩ => ?_)
  cases c with
  | true => exact hb wh pins s1 σ H1 Q I1 q1
  | false => exact ⟨H1, I1, q1⟩
theorem pw_or (ha : PT X a tA) (hb : PW X (.BoolOp .Or (b :: rest) pos) tB') : PW X (.BoolOp .Or (a :: b :: rest) pos) (tOr tA tB') := by
  intro wh pins s σ H Q I h
  refine isTrue_or (thn (ha pins s σ H _ I h) fun c s1 ⟨H1, I1, q1⟩ => ?_)
  cases c with
  | true => exact ⟨H1, I1, q1⟩
  | false => exact hb wh pins s1 σ H1 Q I1 q1
def tAndV (ta tb : TE) : TE := fun σ H Q => ta σ H fun x H1 => ∃ c, x = .bl c ∧ if c = true then tb σ H1 Q else Q (.bl false) H1
theorem pe_one {op} {t : TE} (h : PE X a t) : PE X (.BoolOp op [a] pos) t := fun pins s σ H Q I hw => BoolOp_one (h pins s σ H Q I hw)
theorem pe_and (ha : PE X a ta) (hb : PE X (.BoolOp .And (b :: rest) pos) tb) : PE X (.BoolOp .And (a :: b :: rest) pos) (tAndV ta tb) := by
  intro pins s σ H Q I h
  refine BoolOp_and (thn (ha pins s σ H _ I h) fun v s1 ⟨x, H1, I1, r1, q1⟩ => ?_)
  obtain ⟨c, rfl, q1⟩ := q1
  cases r1
  refine wpAny_truthy_bool ?_
  cases c with
  | true => exact hb pins s1 σ H1 Q I1 q1
  | false => exact ⟨.bl false, H1, I1, rfl, q1⟩
def tIf (t : TT) (ta tb : TE) : TE := fun σ H Q => t σ H fun c H1 => if c = true then ta σ H1 Q else tb σ H1 Q
theorem pe_ifExp {c : Expr} (hc : PT X c tA) (ha : PE X a ta) (hb : PE X b tb) : PE X (.IfExp c a b pos) (tIf tA ta tb) := by
  intro pins s σ H Q I h
  refine wpAny_IfExp (thn (hc pins s σ H _ I h) fun d s1 ⟨H1, I1, q1⟩ => ?_)
  cases d with
  | true => exact ha pins s1 σ H1 Q I1 q1
  | false => exact hb pins s1 σ H1 Q I1 q1
end
end L2
namespace L2
open PySem PySem.Spec PyProof.Rows
def SqL (K : PySem.W.Frag) (H : Hp) (a : Addr) (xs : List V) : Prop :=
  Rd H a (.lst xs) ∨
    ∃ (o : Obj) (its : Array Value) (n : Nat), K.lookup a = some o ∧ o.cls = .type "list" ∧ o.dict = none ∧ o.data = .seq its n ∧ its.size ≤ sizeLine ∧ Vals xs its.toList
def SqT (K : PySem.W.Frag) (H : Hp) (a : Addr) (xs : List V) : Prop :=
  Rd H a (.tup xs) ∨
    ∃ (o : Obj) (its : Array Value) (n : Nat), K.lookup a = some o ∧ (o.cls = .type "tuple" ∧ o.dict = none) ∧ o.data = .seq its n ∧ its.size ≤ sizeLine ∧ Vals xs its.toList
def absV : Value → Option V
  | .none => some .non
  | .bool b => some (.bl b)
  | .int i _ => some (.int i)
  | .str x _ => some (.str x)
  | .bytes b _ => some (.byt b)
  | .float b _ => some (.flt b)
  | .ref a => some (.ref a)
  | .type n => some (.ty n)
  | _ => none
theorem RelV.abs {x : V} {u : Value} (r : RelV x u) : absV u = some x := by
  cases x with
  | non => cases r; rfl
  | bl _ => cases r; rfl
  | int _ => obtain ⟨t, rfl⟩ := r; rfl
  | str _ => obtain ⟨t, rfl⟩ := r; rfl
  | byt _ => obtain ⟨t, rfl⟩ := r; rfl
  | flt _ => obtain ⟨t, rfl⟩ := r; rfl
  | ref _ => cases r; rfl
  | ty _ => cases r; rfl
theorem RelV.inj {x y : V} {u : Value} (r : RelV x u) (q : RelV y u) : x = y := Option.some.inj (r.abs.symm.trans q.abs)
theorem Vals.inj : ∀ {xs ys : List V} {us : List Value}, Vals xs us → Vals ys us → xs = ys
  | _, _, _, .nil, .nil => rfl
  | _, _, _, .cons r t, .cons r' t' => by rw [r.inj r', Vals.inj t t']
section
variable {X : Cx} {pins : List (Addr × Obj)} {σ : St} {H : Hp} {s : Shared} {a : Addr} {xs ys : List V}
theorem SqL.of {K : PySem.W.Frag} (h : H a = some (.lst xs)) : SqL K H a xs := .inl (.inl h)
theorem SqT.of {K : PySem.W.Frag} (h : H a = some (.tup xs)) : SqT K H a xs := .inl (.inl h)
theorem Inv.list (I : Inv X pins σ H s) (h : SqL X.K H a xs) : ∃ its : List Value, Vals xs its ∧ PlainL s.heap a its.toArray ∧ xs.length ≤ sizeLine := by
  rcases h with h | ⟨o, its, n, hk, hc, hd, hs, hz, r⟩
  · obtain ⟨z, its, n, r, e⟩ := h.ok I.hok
    exact ⟨its, r, ⟨_, n, e, rfl, rfl, rfl⟩, z⟩
  · refine ⟨its.toList, r, ⟨o, n, I.kIn a o hk, hc, hd, by simpa using hs⟩, ?_⟩
    have e := r.length
    simp only [Array.length_toList] at e
    omega
theorem Inv.tuple (I : Inv X pins σ H s) (h : SqT X.K H a xs) : ∃ its : List Value, Vals xs its ∧ IsTup s.heap a its.toArray ∧ xs.length ≤ sizeLine := by
  rcases h with h | ⟨o, its, n, hk, hc, hs, hz, r⟩
  · obtain ⟨z, its, r, p⟩ := h.ok I.hok
    exact ⟨its, r, p, z.1⟩
  · refine ⟨its.toList, r, ⟨o, I.kIn a o hk, hc.1, n, by simpa using hs⟩, ?_⟩
    have e := r.length
    simp only [Array.length_toList] at e
    omega
theorem Inv.list_inj (I : Inv X pins σ H s) (h : SqL X.K H a xs) (h' : SqL X.K H a ys) : xs = ys := by
  obtain ⟨its, r, ⟨o, n, e, _, _, d⟩, _⟩ := I.list h
  obtain ⟨its', r', ⟨o', n', e', _, _, d'⟩, _⟩ := I.list h'
  rw [e] at e'; cases e'
  rw [d] at d'
  injection d' with d1 _
  have : its = its' := by simpa using congrArg Array.toList d1
  subst this
  exact r.inj r'
theorem Inv.tuple_inj (I : Inv X pins σ H s) (h : SqT X.K H a xs) (h' : SqT X.K H a ys) : xs = ys := by
  obtain ⟨its, r, ⟨o, e, _, n, d⟩, _⟩ := I.tuple h
  obtain ⟨its', r', ⟨o', e', _, n', d'⟩, _⟩ := I.tuple h'
  rw [e] at e'; cases e'
  rw [d] at d'
  injection d' with d1 _
  have : its = its' := by simpa using congrArg Array.toList d1
  subst this
  exact r.inj r'
end
abbrev Cx.wish (X : Cx) (E : Value → Shared → Prop) : Cx := { X with xe := E }
abbrev Cx.nox (X : Cx) : Cx := X.wish fun _ _ => False
theorem Cx.Ok.wish {X : Cx} (ok : X.Ok) (E : Value → Shared → Prop) : (X.wish E).Ok :=
  ⟨ok.mod, ok.kind, ok.glob, ok.blt, ok.above, ok.inj, ok.has, ok.cab, ok.hd, ok.frames, ok.stk, ok.exf, ok.bs, ok.bsz, ok.noex, ok.exfs, ok.funs, ok.frf⟩
theorem Cx.Ok.unwish {X : Cx} {E : Value → Shared → Prop} (ok : (X.wish E).Ok) : X.Ok :=
  ⟨ok.mod, ok.kind, ok.glob, ok.blt, ok.above, ok.inj, ok.has, ok.cab, ok.hd, ok.frames, ok.stk, ok.exf, ok.bs, ok.bsz, ok.noex, ok.exfs, ok.funs, ok.frf⟩
section
variable {X : Cx} {pins : List (Addr × Obj)} {σ : St} {H : Hp} {s : Shared} {E : Value → Shared → Prop}
theorem Inv.wish (I : Inv X pins σ H s) (E : Value → Shared → Prop) : Inv (X.wish E) pins σ H s := ⟨I.ok.wish E, I.os, I.bare, I.base, I.loc, I.cell, I.free, I.freeC, I.pin, I.hok, I.len⟩
theorem Inv.unwish (I : Inv (X.wish E) pins σ H s) : Inv X pins σ H s := ⟨I.ok.unwish, I.os, I.bare, I.base, I.loc, I.cell, I.free, I.freeC, I.pin, I.hok, I.len⟩
theorem SP.unwish {D : Ends} {f : Flow} {s' : Shared} (h : SP (X.wish E) pins D f s') : SP X pins D f s' := by
  cases f with
  | next => obtain ⟨σ', H', I, q⟩ := h; exact ⟨σ', H', I.unwish, q⟩
  | brk => obtain ⟨σ', H', I, q⟩ := h; exact ⟨σ', H', I.unwish, q⟩
  | cont => obtain ⟨σ', H', I, q⟩ := h; exact ⟨σ', H', I.unwish, q⟩
  | ret u => obtain ⟨v, σ', H', I, r, q⟩ := h; exact ⟨v, σ', H', I.unwish, r, q⟩
theorem PE.nox {e : Expr} {t : TE} (h : PE X.nox e t) : PE X e t := fun pins s σ H Q I hw =>
  wpAny_mono (h pins s σ H Q (I.wish _) hw) (fun _ _ ⟨v, H', I', r, q⟩ => ⟨v, H', I'.unwish, r, q⟩) fun _ _ z => False.elim z
theorem PT.nox {e : Expr} {t : TT} (h : PT X.nox e t) : PT X e t := fun pins s σ H Q I hw =>
  wpAny_mono (h pins s σ H Q (I.wish _) hw) (fun _ _ ⟨H', I', q⟩ => ⟨H', I'.unwish, q⟩) fun _ _ z => False.elim z
theorem PSs.nox {st : List Stmt} {t : TS} (h : PSs X.nox st t) : PSs X st t := fun pins s σ H D I hw =>
  wpAny_mono (h pins s σ H D (I.wish _) hw) (fun _ _ q => q.unwish) fun _ _ z => False.elim z
end
section
variable {X : Cx} {st : Stmt} {rest : List Stmt} {t u : TS} {e : Expr} {te : TE} {pos : Pos}
def tNext : TS := fun D σ H => D.nx σ H
def tSeq (t u : TS) : TS := fun D σ H => t { D with nx := u D } σ H
theorem pss_nil : PSs X [] tNext := fun _ _ σ H _ I h => wpAny_execs_nil ⟨σ, H, I, h⟩
theorem pss_cons (h1 : PS X st t) (h2 : PSs X rest u) : PSs X (st :: rest) (tSeq t u) := by
  intro pins s σ H D I h
  refine wpAny_execs_cons (thn (h1 pins s σ H { D with nx := u D } I h) fun f s1 q => ?_)
  cases f with
  | next =>
    obtain ⟨σ', H', I', q⟩ := q
    exact h2 pins s1 σ' H' D I' q
  | ret v => exact q
  | brk => exact q
  | cont => exact q
theorem Inv.quiet {pins : List (Addr × Obj)} {σ : St} {H : Hp} {s : Shared} (I : Inv X pins σ H s) : interactive X.env = false := by simp [interactive, I.ok.kind]
def tRet (te : TE) : TS := fun D σ H => te σ H D.rt
theorem ps_ret (he : PE X e te) : PS X (.Return (some e) pos) (tRet te) := by
  intro pins s σ H D I h
  exact wpAny_Return_some (thn (he pins s σ H _ I h) fun v s1 ⟨x, H1, I1, r1, q1⟩ => ⟨x, σ, H1, I1, r1, q1⟩)
def tIfS (c : TT) (t u : TS) : TS := fun D σ H => c σ H fun b H1 => if b = true then t D σ H1 else u D σ H1
theorem ps_if {c : Expr} {a b : List Stmt} {tc : TT} (hc : PT X c tc) (ha : PSs X a t) (hb : PSs X b u) : PS X (.If c a b pos) (tIfS tc t u) := by
  intro pins s σ H D I h
  refine wpAny_If (thn (hc pins s σ H _ I h) fun d s1 ⟨H1, I1, q1⟩ => ?_)
  cases d with
  | true => exact ha pins s1 σ H1 D I1 q1
  | false => exact hb pins s1 σ H1 D I1 q1
end
abbrev TG := V → St → Hp → (St → Hp → Prop) → Prop
abbrev TGs := List V → St → Hp → (St → Hp → Prop) → Prop
def PG (X : Cx) (target : Expr) (t : TG) : Prop :=
  ∀ (pins : List (Addr × Obj)) (s : Shared) (σ : St) (H : Hp) (v : V) (u : Value) (Q : St → Hp → Prop), Inv X pins σ H s → RelV v u → t v σ H Q →
    wpAny (model X.prog X.w) X.A (assign target X.env u) (fun _ s' => ∃ σ' H', Inv X pins σ' H' s' ∧ Q σ' H') X.xe s
def PGs (X : Cx) (ts : List Expr) (t : TGs) : Prop :=
  ∀ (pins : List (Addr × Obj)) (s : Shared) (σ : St) (H : Hp) (vs : List V) (us : List Value) (Q : St → Hp → Prop), Inv X pins σ H s → Vals vs us → t vs σ H Q →
    wpAny (model X.prog X.w) X.A (assignInOrder ((assignEach ts X.env).map (·.2)) us) (fun _ s' => ∃ σ' H', Inv X pins σ' H' s' ∧ Q σ' H') X.xe s
abbrev TSet := V → V → V → Hp → (Hp → Prop) → Prop
def PSet (X : Cx) (t : TSet) : Prop :=
  ∀ (pins : List (Addr × Obj)) (s : Shared) (σ : St) (H : Hp) (o i v : V) (ov iv u : Value) (Q : Hp → Prop), Inv X pins σ H s → RelV o ov → RelV i iv → RelV v u → t o i v H Q →
    wpAny (model X.prog X.w) X.A (setItem ov iv u) (fun _ s' => ∃ H', Inv X pins σ H' s' ∧ Q H') X.xe s
section
variable {X : Cx} {pos : Pos}
def gName (i : Nat) : TG := fun v σ H Q => Q (σ.set i (some v)) H
theorem pg_name {i : Nat} {x : Str} (hN : X.N.Nodup) (hi : X.N[i]? = some x) (hx : Loc X.env.scope x) (hf : X.fn x = true ∨ X.env.scope.names.lookup x = some .local := by first | exact .inl rfl | exact .inr rfl | assumption) : PG X (.Name x pos) (gName i) := by
  intro pins s σ H v u Q I r h
  exact wpAny_assign_Name (store_ok I hN hi hx r (fun s' I' => ⟨_, H, I', h⟩) hf)
def gNil : TGs := fun vs σ H Q => vs = [] ∧ Q σ H
def gCons (t : TG) (u : TGs) : TGs := fun vs σ H Q => ∃ v r, vs = v :: r ∧ t v σ H fun σ' H' => u r σ' H' Q
theorem pgs_nil : PGs X [] gNil := by
  intro pins s σ H vs us Q I r h
  obtain ⟨e, h⟩ := h
  subst e
  cases r
  exact assignInOrder_nil ⟨σ, H, I, h⟩
theorem pgs_cons {e : Expr} {es : List Expr} {t : TG} {u : TGs} (h1 : PG X e t) (h2 : PGs X es u)
    (hs : (assignEach (e :: es) X.env).map (·.2) = assign e X.env :: (assignEach es X.env).map (·.2) := by rfl) : PGs X (e :: es) (gCons t u) := by
  intro pins s σ H vs us Q I r h
  obtain ⟨v, vr, e1, h⟩ := h
  subst e1
  cases r with
  | cons r rr =>
    rw [hs]
    refine assignInOrder_cons (thn (h1 pins s σ H _ _ _ I r h) fun _ s1 ⟨σ1, H1, I1, q1⟩ => ?_)
    exact h2 pins s1 σ1 H1 _ _ Q I1 rr q1
def gTup (K : PySem.W.Frag) (n : Nat) (t : TGs) : TG := fun v σ H Q => ∃ a xs, v = .ref a ∧ SqT K H a xs ∧ xs.length = n ∧ t xs σ H Q
theorem pg_tup {es : List Expr} {k : Nat} {t : TGs} {n : Nat} (hc : X.calm = true) (h : PGs X es t)
    (hn : (assignEach es X.env).length = n := by rfl) (hst : (assignEach es X.env).findIdx? (·.1) = none := by rfl) : PG X (.Tuple es k pos) (gTup X.K n t) := by
  intro pins s σ H v u Q I r hw
  obtain ⟨a, xs, e1, hq, hl, hw⟩ := hw
  subst e1
  cases r
  obtain ⟨its, rv, ht, hz⟩ := I.tuple hq
  refine assign_Tuple_tuple (I.ok.hd hc) ht (by simp [hn, ← hl, rv.length]) hst fun h' hx => ?_
  have I1 : Inv X pins σ H { s with heap := h' } := I.kept (t' := s.toks) fun b o e => hx b o (Nat.ne_of_lt (Heap.lt_size e)) e
  exact h pins _ σ H xs _ Q I1 (by simpa using rv) hw
def gSub (to ti : TE) (t : TSet) : TG := fun v σ H Q => to σ H fun o H1 => ti σ H1 fun i H2 => t o i v H2 fun H3 => Q σ H3
theorem pg_sub {o i : Expr} {to ti : TE} {t : TSet} (ho : PE X o to) (hi : PE X i ti) (hs : PSet X t)
    (ha : ∀ v, assign (.Subscript o i pos) X.env v = (do
      let ov ← holding [v] (eval o X.env)
      let iv ← holding [v, ov] (eval i X.env)
      standAt pos
      holding [v, ov, iv] (setItem ov iv v)
      release [v, ov, iv] []) := by intro _; rfl) : PG X (.Subscript o i pos) (gSub to ti t) := by
  intro pins s σ H v u Q I r h
  rw [ha]
  refine wpAny_bind (wpAny_holding (thn (ho pins s σ H _ I h) fun ov s1 ⟨x, H1, I1, r1, q1⟩ => ?_))
  refine wpAny_bind (wpAny_holding (thn (hi pins s1 σ H1 _ I1 q1) fun iv s2 ⟨y, H2, I2, r2, q2⟩ => ?_))
  refine wpAny_bind (wpAny_standAt (wpAny_bind (wpAny_holding (thn (hs pins s2 σ H2 x y v ov iv u _ I2 r1 r2 r q2) fun _ s3 ⟨H3, I3, q3⟩ => ?_))))
  exact wpAny_release ⟨σ, H3, I3, q3⟩
def tAsg (te : TE) (g : TG) : TS := fun D σ H => te σ H fun x H1 => g x σ H1 D.nx
theorem ps_asg {tg e : Expr} {te : TE} {g : TG} (he : PE X e te) (hg : PG X tg g) (hs : swapsWithSole [tg] e pos.line X.env = pure false := by rfl) (hw : swappedStores [tg] e X.env = pure none := by rfl)
    (h1 : (assignEach [tg] X.env).map (·.2) = [assign tg X.env] := by rfl) : PS X (.Assign [tg] e pos) (tAsg te g) := by
  intro pins s σ H D I h
  refine wpAny_Assign_stores (thn (he pins s σ H _ I h) fun v s1 ⟨x, H1, I1, r1, q1⟩ => ?_) hs hw
  rw [h1]
  exact thn (hg pins s1 σ H1 x v _ I1 r1 q1) fun _ s2 q => q
theorem ps_set {i : Nat} {x : Str} {e : Expr} {te : TE} {pos' : Pos} (hN : X.N.Nodup) (hi : X.N[i]? = some x) (hx : Loc X.env.scope x) (he : PE X e te) (hs : swapsWith e (some (.Name x pos')) pos.line X.env = pure false := by rfl) (hf : X.fn x = true ∨ X.env.scope.names.lookup x = some .local := by first | exact .inl rfl | exact .inr rfl | assumption) :
    PS X (.Assign [.Name x pos'] e pos) (tAsg te (gName i)) := by
  intro pins s σ H D I h
  refine wpAny_Assign_Name (thn (he pins s σ H _ I h) fun v s1 ⟨y, H1, I1, r1, q1⟩ => ?_) hs
  exact store_ok I1 hN hi hx r1 (fun s2 I2 => ⟨_, H1, I2, q1⟩) hf
end
section
variable {X : Cx} {pos : Pos}
end
structure It where
  go : Nat → Hp → Prop
  yld : Nat → Hp → V → Hp → Prop
  stop : Nat → Hp → Prop
def FpOk (X : Cx) (pins : List (Addr × Obj)) (H : Hp) (b : Addr) : Prop :=
  H b = none ∧ b ≠ X.env.locals ∧ b ∉ X.fs ∧ (b ∈ X.ex ∨ X.s₀.heap.objs.size ≤ b) ∧ (∀ x c, X.env.cells.lookup x = some c → c ≠ b) ∧ ∀ p ∈ X.pn ++ pins, p.1 ≠ b
theorem Inv.fpOk {X : Cx} {pins : List (Addr × Obj)} {σ : St} {H H' : Hp} {s : Shared} {b : Addr} (I : Inv X pins σ H s) (hb : s.heap.objs.size ≤ b) (hn : H' b = none) : FpOk X pins H' b := by
  refine ⟨hn, Nat.ne_of_gt (Nat.lt_of_lt_of_le I.lt hb), I.nofs hb, .inr (Nat.le_trans I.sz hb), fun x c e z => ?_, fun p hp z => ?_⟩
  · obtain ⟨v, q⟩ := I.cell x c e
    exact absurd (Nat.lt_of_lt_of_le q.lt (by rw [z]; exact hb)) (Nat.lt_irrefl _)
  · exact absurd (Nat.lt_of_lt_of_le (Heap.lt_size (I.pin p hp).1) (by rw [z]; exact hb)) (Nat.lt_irrefl _)
structure Turn (P : Program) (w : World) (K : PySem.W.Frag) (tg : Expr) (J : It) (fp : List Addr) (it : Addr) (tn : Nat → Heap → Prop) : Prop where
  mem : it ∈ fp
  obj : ∀ i h, tn i h → ∀ b ∈ fp, ∃ o, h.get? b = some o ∧ ∀ v, o.data ≠ .cell v
  keep : ∀ i h h', tn i h → (∀ b ∈ fp, ∀ o, h.get? b = some o → h'.get? b = some o) → tn i h'
  item : ∀ (X : Cx), X.prog = P → X.w = w → X.K = K → X.calm = true → ∀ (i : Nat) (pins : List (Addr × Obj)) (s : Shared) (σ : St) (H : Hp) (E : Value → Shared → Prop), Inv X pins σ H s → (∀ b ∈ fp, FpOk X pins H b) → tn i s.heap → J.go i H →
    wpAny (model P w) X.A (pyNext (.ref it)) (fun r s1 => ∃ u, r = some u ∧
      wpAny (model P w) X.A (letOwnedTupleGo tg (.ref it) u) (fun _ s2 => ∃ x H', Inv X pins σ H' s2 ∧ RelV x u ∧ J.yld i H x H' ∧ tn (i + 1) s2.heap ∧ ∀ b ∈ fp, H' b = none) E s1) E s
  done : ∀ (X : Cx), X.prog = P → X.w = w → X.K = K → X.calm = true → ∀ (i : Nat) (pins : List (Addr × Obj)) (s : Shared) (σ : St) (H : Hp) (E : Value → Shared → Prop), Inv X pins σ H s → (∀ b ∈ fp, FpOk X pins H b) → tn i s.heap → J.stop i H →
    wpAny (model P w) X.A (pyNext (.ref it)) (fun r s1 => r = none ∧ Inv X pins σ H s1) E s
  self : ∀ (A : Around) (i : Nat) (s : Shared) (Q : Value → Shared → Prop) (E : Value → Shared → Prop), tn i s.heap → Q (.ref it) s → wpAny (model P w) A (pyIter (.ref it)) Q E s
abbrev TI := St → Hp → (It → Hp → Prop) → Prop
def PIE (X : Cx) (pins : List (Addr × Obj)) (σ : St) (tg : Expr) (R : It → Hp → Prop) (itv : Value) (s2 : Shared) : Prop :=
  ∃ (it : Addr) (fp : List Addr) (tn : Nat → Heap → Prop) (J : It) (H' : Hp), itv = .ref it ∧ Inv X pins σ H' s2 ∧ Turn X.prog X.w X.K tg J fp it tn ∧ tn 0 s2.heap ∧ (∀ b ∈ fp, FpOk X pins H' b) ∧ R J H'
def PI (X : Cx) (tg iter : Expr) (wi : TI) : Prop :=
  ∀ (pins : List (Addr × Obj)) (s : Shared) (σ : St) (H : Hp) (R : It → Hp → Prop), Inv X pins σ H s → wi σ H R →
    wpAny (model X.prog X.w) X.A (eval iter X.env) (fun v s1 => wpAny (model X.prog X.w) X.A (pyIter v) (PIE X pins σ tg R) X.xe s1) X.xe s
theorem go_of {M : Model} {A : Around} {E : Value → Shared → Prop} {s : Shared} {tg : Expr} {it : Addr} {u : Value} {o : Obj} {n : String} {vs : Array Value} {Q : Unit → Shared → Prop} (ho : s.heap.get? it = some o) (hc : o.cls = .type n) (hd : o.data = .fields vs)
    (hn : ["enumerate", "zip", "dict_itemiterator", "dict_reverseitemiterator", "odict_iterator", "itertools.zip_longest", "itertools.pairwise"].contains n = false) (hQ : Q () s) : wpAny M A (letOwnedTupleGo tg (.ref it) u) Q E s := by
  unfold letOwnedTupleGo
  cases tg <;> first
    | exact wpAny_pure hQ
    | (cases u <;> first
        | exact wpAny_pure hQ
        | (refine wpAny_bind (wpAny_load ho ?_)
           rw [hc, hd]
           show wpAny M A (if (["enumerate", "zip", "dict_itemiterator", "dict_reverseitemiterator", "odict_iterator", "itertools.zip_longest", "itertools.pairwise"].contains n && vs[0]? == some (rawInt _)) = true then _ else _) Q E s
           rw [if_neg (by intro h; rw [hn, Bool.false_and] at h; cases h)]
           exact wpAny_pure hQ))
def Itl (K : PySem.W.Frag) (a : Addr) : It :=
  ⟨fun i H => ∃ xs x, SqL K H a xs ∧ xs[i]? = some x, fun i H x H' => H' = H ∧ ∀ xs, SqL K H a xs → xs[i]? = some x, fun i H => ∃ xs, SqL K H a xs ∧ xs.length ≤ i⟩
def Itt (K : PySem.W.Frag) (a : Addr) : It :=
  ⟨fun i H => ∃ xs x, SqT K H a xs ∧ xs[i]? = some x, fun i H x H' => H' = H ∧ ∀ xs, SqT K H a xs → xs[i]? = some x, fun i H => ∃ xs, SqT K H a xs ∧ xs.length ≤ i⟩
def Itr (lo : Int) (n : Nat) : It := ⟨fun i _ => i < n, fun i H x H' => H' = H ∧ x = .int (lo + i), fun i _ => n ≤ i⟩
theorem turn_list {P : Program} {w : World} {K : PySem.W.Frag} {tg : Expr} (a it : Addr) : Turn P w K tg (Itl K a) [it] it (fun i h => h.IsListIter it a i) where
  mem := by simp
  obj := fun i h st b hb => by
    have e : b = it := by simpa using hb
    subst e
    obtain ⟨o, e, c, d⟩ := st
    exact ⟨o, e, fun v z => by rw [d] at z; cases z⟩
  keep := fun i h h' st k => st.at fun o e => k it (by simp) o e
  item := by
    intro X hP hw hK hc i pins s σ H E I hf st hg
    subst hP hw hK
    obtain ⟨xs, x, hq, hx⟩ := hg
    obtain ⟨its, rv, p, hz⟩ := I.list hq
    obtain ⟨u, hu, ru⟩ := rv.get hx
    obtain ⟨f0, f1, f2, f3, f4, f5⟩ := hf it (by simp)
    refine wpAny_pyNext_list_item st p.isList (x := u) (by simpa using hu) fun h' st' sb => ?_
    have I1 : Inv X pins σ H { s with heap := h' } := I.turned (t' := s.toks) (fun b o hb e => (sb.2 b hb).trans e) f0 f1 f3 f4 f5
    obtain ⟨o, e, c, d⟩ := id st'
    exact ⟨u, rfl, go_of (s := { s with heap := h' }) e c d (by decide) ⟨x, H, I1, ru, ⟨rfl, fun ys hy => by rw [I.list_inj hy hq]; exact hx⟩, st', fun b hb => (hf b hb).1⟩⟩
  done := by
    intro X hP hw hK hc i pins s σ H E I hf st hg
    subst hP hw hK
    obtain ⟨xs, hq, hx⟩ := hg
    obtain ⟨its, rv, p, hz⟩ := I.list hq
    obtain ⟨f0, f1, f2, f3, f4, f5⟩ := hf it (by simp)
    have hl := rv.length
    exact wpAny_pyNext_list_end (I.ok.hd hc) st p.isList (by simp; omega) fun h' eb => ⟨rfl, I.turned (t' := s.toks) (fun b o hb e => eb b o hb e) f0 f1 f3 f4 f5⟩
  self := fun _ _ _ _ _ st h => wpAny_pyIter_listiter st h
theorem turn_tuple {P : Program} {w : World} {K : PySem.W.Frag} {tg : Expr} (a it : Addr) : Turn P w K tg (Itt K a) [it] it (fun i h => h.IsTupleIter it a i) where
  mem := by simp
  obj := fun i h st b hb => by
    have e : b = it := by simpa using hb
    subst e
    obtain ⟨o, e, c, d⟩ := st
    exact ⟨o, e, fun v z => by rw [d] at z; cases z⟩
  keep := fun i h h' st k => st.at fun o e => k it (by simp) o e
  item := by
    intro X hP hw hK hc i pins s σ H E I hf st hg
    subst hP hw hK
    obtain ⟨xs, x, hq, hx⟩ := hg
    obtain ⟨its, rv, p, hz⟩ := I.tuple hq
    obtain ⟨u, hu, ru⟩ := rv.get hx
    obtain ⟨f0, f1, f2, f3, f4, f5⟩ := hf it (by simp)
    refine wpAny_pyNext_tuple_item st (show s.heap.IsTuple a its.toArray from p) (x := u) (by simpa using hu) fun h' st' sb => ?_
    have I1 : Inv X pins σ H { s with heap := h' } := I.turned (t' := s.toks) (fun b o hb e => (sb.2 b hb).trans e) f0 f1 f3 f4 f5
    obtain ⟨o, e, c, d⟩ := id st'
    exact ⟨u, rfl, go_of (s := { s with heap := h' }) e c d (by decide) ⟨x, H, I1, ru, ⟨rfl, fun ys hy => by rw [I.tuple_inj hy hq]; exact hx⟩, st', fun b hb => (hf b hb).1⟩⟩
  done := by
    intro X hP hw hK hc i pins s σ H E I hf st hg
    subst hP hw hK
    obtain ⟨xs, hq, hx⟩ := hg
    obtain ⟨its, rv, p, hz⟩ := I.tuple hq
    obtain ⟨f0, f1, f2, f3, f4, f5⟩ := hf it (by simp)
    have hl := rv.length
    exact wpAny_pyNext_tuple_end (I.ok.hd hc) st (show s.heap.IsTuple a its.toArray from p) (by simp; omega) fun h' eb => ⟨rfl, I.turned (t' := s.toks) (fun b o hb e => eb b o hb e) f0 f1 f3 f4 f5⟩
  self := fun _ _ _ _ _ st h => wpAny_pyIter_tupleiter st h
theorem turn_range {P : Program} {w : World} {K : PySem.W.Frag} {tg : Expr} (it : Addr) (lo : Int) (n : Nat) : Turn P w K tg (Itr lo n) [it] it (fun i h => IsRangeIter h it (lo + (i : Nat) * 1) ((n : Int) - (i : Nat)) 1) where
  mem := by simp
  obj := fun i h st b hb => by
    have e : b = it := by simpa using hb
    subst e
    exact ⟨_, st, fun v z => by
      have z' : Data.fields _ = Data.cell v := z
      cases z'⟩
  keep := fun i h h' st k => k it (by simp) _ st
  item := by
    intro X hP hw hK hc i pins s σ H E I hf st hg
    subst hP hw hK
    obtain ⟨f0, f1, f2, f3, f4, f5⟩ := hf it (by simp)
    have W := Walks.range (prog := X.prog) (w := X.w) (I.ok.hd hc) it lo 1 n
    refine W.item i s _ _ hg st fun v h' tk hv st' kk => ?_
    obtain ⟨t, rfl⟩ := hv
    have I1 : Inv X pins σ H { s with heap := h', toks := tk } := I.turned (fun b o hb e => kk b o (by simpa using hb) e) f0 f1 f3 f4 f5
    refine ⟨_, rfl, go_of (s := { s with heap := h', toks := tk }) (n := "range_iterator") st' rfl rfl (by decide) ⟨.int (lo + i), H, I1, ⟨t, ?_⟩, ⟨rfl, rfl⟩, st', fun b hb => (hf b hb).1⟩⟩
    rw [Int.mul_one]
  done := by
    intro X hP hw hK hc i pins s σ H E I hf st hg
    subst hP hw hK
    obtain ⟨f0, f1, f2, f3, f4, f5⟩ := hf it (by simp)
    exact wpAny_pyNext_range_end (I.ok.hd hc) st (by have : n ≤ i := hg; omega) fun h' eb => ⟨rfl, I.turned (t' := s.toks) (fun b o hb e => eb b o hb e) f0 f1 f3 f4 f5⟩
  self := fun _ _ _ _ _ st h => wpAny_pyIter_rangeiter st h
end L2
namespace L2
open PySem PySem.Spec PyProof.Rows
section
variable {X : Cx} {tg : Expr}
theorem range_it {pins : List (Addr × Obj)} {σ : St} {H : Hp} {s : Shared} {R : It → Hp → Prop} {E : Value → Shared → Prop} {lo hi : Int} {t u v : Tok} {tk : Nat} (I : Inv X pins σ H s) (h1 : -(2 ^ 62) ≤ lo) (h2 : lo < 2 ^ 62) (h3 : -(2 ^ 62) ≤ hi) (h4 : hi < 2 ^ 62)
    (q : R (Itr lo (hi - lo).toNat) H) : wpAny (model X.prog X.w) X.A (pyIter (.ref s.heap.objs.size)) (PIE X pins σ tg R) E { s with heap := s.heap.push { cls := .type "range", data := .fields #[.int lo t, .int hi u, .int 1 v] }, toks := tk } := by
  refine wpAny_pyIter_range (IsRange.new ..) (small_one h1 h2 h3 h4) ?_
  have I1 : Inv X pins σ H { s with heap := s.heap.push { cls := .type "range", data := .fields #[.int lo t, .int hi u, .int 1 v] }, toks := tk } := I.kept fun b o e => Heap.get?_push_of_some _ e
  refine ⟨(s.heap.push { cls := .type "range", data := .fields #[.int lo t, .int hi u, .int 1 v] }).objs.size, [(s.heap.push { cls := .type "range", data := .fields #[.int lo t, .int hi u, .int 1 v] }).objs.size], _, _, H, rfl,
    I1.kept (t' := tk) fun b o e => Heap.get?_push_of_some _ e, turn_range _ lo (hi - lo).toNat, ?_, fun b hb => ?_, q⟩
  · have e1 : lo + ((0 : Nat) : Int) * 1 = lo := by simp
    have e2 : (((hi - lo).toNat : Nat) : Int) - ((0 : Nat) : Int) = Builtin.Range.rangeSize lo hi 1 := by rw [rangeSize_one]; split <;> omega
    show IsRangeIter _ _ (lo + ((0 : Nat) : Int) * 1) ((((hi - lo).toNat : Nat) : Int) - ((0 : Nat) : Int)) 1
    rw [e1, e2]
    exact Heap.get?_push_size _ rfl
  · have e : b = (s.heap.push { cls := .type "range", data := .fields #[.int lo t, .int hi u, .int 1 v] }).objs.size := by simpa using hb
    subst e
    exact I1.fpOk (Nat.le_refl _) (I1.hok.fresh (Nat.le_refl _))
def iRng1 (ta : TA) : TI := fun σ H R => ta σ H fun vs H1 => ∃ j : Int, vs = [.int j] ∧ -(2 ^ 62) ≤ j ∧ j < 2 ^ 62 ∧ R (Itr 0 j.toNat) H1
theorem pi_range1 {a : Expr} {ta : TA} {p pos : Pos} (hg : Gl X "range") (hm : X.mg "range" = none) (ha : PA X [a] ta) (hs : starEach [a] X.env = [(false, eval a X.env)] := by rfl) : PI X tg (.Call (.Name "range" p) [a] [] pos) (iRng1 ta) := by
  intro pins s σ H R I h
  refine Call_ (ld_blt I hg hm boot_range (PyProof.Rows.callWith_type1 (thn (ha pos pins s σ H _ I h) fun us s1 ⟨vs, H1, I1, r1, q1⟩ => ?_) hs rfl))
  obtain ⟨j, e, q1, q2, q⟩ := q1
  subst e
  cases r1 with
  | cons r rr =>
    cases rr
    obtain ⟨t, rfl⟩ := r
    exact call_range_1 (range_it I1 (by omega) (by omega) q1 q2 (by simpa using q))
def tFor (wi : TI) (g : TG) (tb : TS) : TS := fun D σ H => wi σ H fun J H1 => ∃ W : Nat → Nat → St → Hp → Prop, (∃ m, W 0 m σ H1) ∧ ∀ i m σ H, W i m σ H →
  (J.stop i H ∧ D.nx σ H) ∨ (J.go i H ∧ ∃ N : St → Hp → Prop, (∀ σ' H', N σ' H' → ∃ m', m' < m ∧ W (i + 1) m' σ' H') ∧ ∀ x H', J.yld i H x H' → g x σ H' fun σ2 H2 => tb { D with nx := N, ct := N, bk := D.nx } σ2 H2)
def pinsAt (fp : List Addr) (h : Heap) : List (Addr × Obj) := fp.filterMap fun b => (h.get? b).map fun o => (b, o)
theorem mem_pinsAt {fp : List Addr} {h : Heap} {b : Addr} {o : Obj} (hb : b ∈ fp) (e : h.get? b = some o) : (b, o) ∈ pinsAt fp h := List.mem_filterMap.mpr ⟨b, hb, by rw [e]; rfl⟩
theorem of_pinsAt {fp : List Addr} {h : Heap} {p : Addr × Obj} (hp : p ∈ pinsAt fp h) : p.1 ∈ fp ∧ h.get? p.1 = some p.2 := by
  obtain ⟨b, hb, e⟩ := List.mem_filterMap.mp hp
  cases q : h.get? b with
  | none => rw [q] at e; cases e
  | some o =>
    rw [q] at e
    have e' : (b, o) = p := Option.some.inj e
    subst e'
    exact ⟨hb, q⟩
theorem Inv.pinned {pins : List (Addr × Obj)} {σ : St} {H : Hp} {s : Shared} {fp : List Addr} (I : Inv X pins σ H s) (hf : ∀ b ∈ fp, FpOk X pins H b) (ho : ∀ b ∈ fp, ∃ o, s.heap.get? b = some o ∧ ∀ v, o.data ≠ .cell v) : Inv X (pins ++ pinsAt fp s.heap) σ H s :=
  I.pins_of fun p hp => (List.mem_append.mp hp).elim (fun z => I.pin p (List.mem_append_right _ z)) fun z => by
    obtain ⟨hb, e⟩ := of_pinsAt z
    obtain ⟨f0, f1, f2, _⟩ := hf p.1 hb
    obtain ⟨o, e', d⟩ := ho p.1 hb
    rw [e] at e'; cases e'
    exact ⟨e, f0, f1, f2, d⟩
theorem Inv.unpinned {pins pl : List (Addr × Obj)} {σ : St} {H : Hp} {s : Shared} (I : Inv X (pins ++ pl) σ H s) : Inv X pins σ H s := I.pins_of fun p hp => I.pin p (List.mem_append_right _ (List.mem_append_left _ hp))
theorem ps_for {iter : Expr} {body : List Stmt} {wi : TI} {g : TG} {tb : TS} {pos : Pos} (hp : PassesOwn (model X.prog X.w) X.A X.env X.xe) (hc : X.calm = true) (hi : PI X tg iter wi) (hg : PG X tg g) (hb : PSs X body tb)
    (hs : ∀ x, foldedSetIterable iter X.env x = pure x := by intro _; rfl) : PS X (.For tg iter body [] pos) (tFor wi g tb) := by
  intro pins s σ H D I h
  refine wpAny_For (thn (hi pins s σ H _ I h) fun v s1 h1 => thn h1 fun itv s2 h2 => ?_) hs
  obtain ⟨it, fp, tn, J, H2, e, I2, T, st2, f2, W, ⟨m0, w0⟩, turn⟩ := h2
  subst e
  -- what stays true of the iterator's objects through the loop
  have stat : ∀ {H' : Hp}, (∀ b ∈ fp, H' b = none) → ∀ b ∈ fp, FpOk X pins H' b := fun hn b hb => ⟨hn b hb, (f2 b hb).2⟩
  refine codeAny_forLoop_any (fun n s' => ∃ i σ' H', Inv X pins σ' H' s' ∧ tn i s'.heap ∧ (∀ b ∈ fp, H' b = none) ∧ W i n σ' H') ?_ m0 ⟨0, σ, H2, I2, st2, fun b hb => (f2 b hb).1, w0⟩
  rintro n s3 ⟨i, σ3, H3, I3, st3, fr3, w3⟩
  rcases turn i n σ3 H3 w3 with ⟨stop, qn⟩ | ⟨go, N, hN, step⟩
  · refine wpAny_passesOwn hp (thn (T.done X rfl rfl rfl hc i pins s3 σ3 H3 X.xe I3 (stat fr3) st3 stop) fun r s4 ⟨hr, I4⟩ => ?_)
    subst hr
    exact wpAny_execs_nil ⟨σ3, H3, I4, qn⟩
  · refine wpAny_passesOwn hp (thn (T.item X rfl rfl rfl hc i pins s3 σ3 H3 X.xe I3 (stat fr3) st3 go) fun r s4 ⟨u, hr, h4⟩ => ?_)
    subst hr
    refine wpAny_passesOwn hp (thn h4 fun _ s5 ⟨x, H5, I5, r5, y5, st5, fr5⟩ => ?_)
    have I5' := I5.pinned (stat fr5) (T.obj _ _ st5)
    refine wpAny_passesOwn hp (thn (hg _ s5 σ3 H5 x u _ I5' r5 (step x H5 y5)) fun _ s6 ⟨σ6, H6, I6, q6⟩ => ?_)
    refine wpAny_passesOwn hp (thn (hb _ s6 σ6 H6 _ I6 q6) fun f s7 q7 => ?_)
    have again : ∀ {σ7 : St} {H7 : Hp}, Inv X (pins ++ pinsAt fp s5.heap) σ7 H7 s7 → N σ7 H7 → ∃ m, m < n ∧ ∃ i σ' H', Inv X pins σ' H' s7 ∧ tn i s7.heap ∧ (∀ b ∈ fp, H' b = none) ∧ W i m σ' H' := fun {σ7 H7} I7 n7 => by
      obtain ⟨m', hm, w7⟩ := hN σ7 H7 n7
      refine ⟨m', hm, i + 1, σ7, H7, I7.unpinned, T.keep _ _ _ st5 fun b hb o e => (I7.pin (b, o) (List.mem_append_right _ (List.mem_append_right _ (mem_pinsAt hb e)))).1, fun b hb => ?_, w7⟩
      obtain ⟨o, e, d⟩ := T.obj _ _ st5 b hb
      exact (I7.pin (b, o) (List.mem_append_right _ (List.mem_append_right _ (mem_pinsAt hb e)))).2.1
    cases f with
    | next => obtain ⟨σ7, H7, I7, n7⟩ := q7; exact again I7 n7
    | cont => obtain ⟨σ7, H7, I7, n7⟩ := q7; exact again I7 n7
    | brk => obtain ⟨σ7, H7, I7, q7⟩ := q7; exact ⟨σ7, H7, I7.unpinned, q7⟩
    | ret v => obtain ⟨x7, σ7, H7, I7, r7, q7⟩ := q7; exact ⟨x7, σ7, H7, I7.unpinned, r7, q7⟩
end
end L2
namespace L2
open PySem PySem.Spec PyProof.Rows
abbrev R2 := V → V → Hp → VK → Prop
def OpR (X : Cx) (f : Value → Value → Sem Value) (r : R2) : Prop :=
  ∀ (pins : List (Addr × Obj)) (s : Shared) (σ : St) (H : Hp) (x y : V) (v u : Value) (Q : VK), Inv X pins σ H s → RelV x v → RelV y u → r x y H Q →
    wpAny (model X.prog X.w) X.A (f v u) (EP X pins σ Q) X.xe s
def CallR (X : Cx) (f : Value) (r : List V → Hp → VK → Prop) : Prop :=
  ∀ (pins : List (Addr × Obj)) (s : Shared) (σ : St) (H : Hp) (xs : List V) (us : List Value) (Q : VK), Inv X pins σ H s → Vals xs us → r xs H Q →
    wpAny (model X.prog X.w) X.A (call f us) (EP X pins σ Q) X.xe s
def tOp (r : R2) (ta tb : TE) : TE := fun σ H Q => ta σ H fun x H1 => tb σ H1 fun y H2 => r x y H2 Q
def rI (C : Int → Int → Prop) (g : Int → Int → V) : R2 := fun x y H Q => ∃ i j, x = .int i ∧ y = .int j ∧ C i j ∧ Q (g i j) H
def rI0 (g : Int → Int → V) : R2 := fun x y H Q => ∃ i j, x = .int i ∧ y = .int j ∧ Q (g i j) H
section
variable {X : Cx} {a b c : Expr} {ta tb tc : TE} {pos : Pos}
theorem binT (ha : PE X a ta) (hb : PE X b tb) {pins : List (Addr × Obj)} {s : Shared} {σ : St} {H : Hp} {R : V → V → Hp → Prop} (I : Inv X pins σ H s)
    (h : ta σ H fun x H1 => tb σ H1 fun y H2 => R x y H2) {Q : Value → Shared → Prop} {f : Value → Value → Sem Value}
    (hf : ∀ v u s2 x y H2, Inv X pins σ H2 s2 → RelV x v → RelV y u → R x y H2 → wpAny (model X.prog X.w) X.A (f v u) Q X.xe s2) :
    wpAny (model X.prog X.w) X.A (eval a X.env) (fun v s₁ => wpAny (model X.prog X.w) X.A (eval b X.env) (fun u s₂ => wpAny (model X.prog X.w) X.A (f v u) Q X.xe s₂) X.xe s₁) X.xe s := by
  refine thn (ha pins s σ H _ I h) fun v s1 ⟨x, H1, I1, r1, q1⟩ => ?_
  refine thn (hb pins s1 σ H1 _ I1 q1) fun u s2 ⟨y, H2, I2, r2, q2⟩ => ?_
  exact hf v u s2 x y H2 I2 r1 r2 q2
theorem opI {f : Value → Value → Sem Value} {C : Int → Int → Prop} {g : Int → Int → Int}
    (rule : ∀ (i j : Int) (t u : Tok) (s : Shared) (Q : Value → Shared → Prop) (E : Value → Shared → Prop), C i j → Q (.int (g i j) s.toks) { s with toks := s.toks + 1 } → wpAny (model X.prog X.w) X.A (f (.int i t) (.int j u)) Q E s) :
    OpR X f (rI C fun i j => .int (g i j)) := by
  intro pins s σ H x y v u Q I rx ry h
  obtain ⟨i, j, rfl, rfl, hc, q⟩ := h
  obtain ⟨t, rfl⟩ := rx
  obtain ⟨t', rfl⟩ := ry
  exact rule i j t t' s _ _ hc ⟨.int (g i j), H, I.tok _, ⟨_, rfl⟩, q⟩
theorem opI0 {f : Value → Value → Sem Value} {g : Int → Int → Int}
    (rule : ∀ (i j : Int) (t u : Tok) (s : Shared) (Q : Value → Shared → Prop) (E : Value → Shared → Prop), Q (.int (g i j) s.toks) { s with toks := s.toks + 1 } → wpAny (model X.prog X.w) X.A (f (.int i t) (.int j u)) Q E s) :
    OpR X f (rI0 fun i j => .int (g i j)) := by
  intro pins s σ H x y v u Q I rx ry h
  obtain ⟨i, j, rfl, rfl, q⟩ := h
  obtain ⟨t, rfl⟩ := rx
  obtain ⟨t', rfl⟩ := ry
  exact rule i j t t' s _ _ ⟨.int (g i j), H, I.tok _, ⟨_, rfl⟩, q⟩
theorem opB0 {f : Value → Value → Sem Value} {g : Int → Int → Bool}
    (rule : ∀ (i j : Int) (t u : Tok) (s : Shared) (Q : Value → Shared → Prop) (E : Value → Shared → Prop), Q (.bool (g i j)) s → wpAny (model X.prog X.w) X.A (f (.int i t) (.int j u)) Q E s) :
    OpR X f (rI0 fun i j => .bl (g i j)) := by
  intro pins s σ H x y v u Q I rx ry h
  obtain ⟨i, j, rfl, rfl, q⟩ := h
  obtain ⟨t, rfl⟩ := rx
  obtain ⟨t', rfl⟩ := ry
  exact rule i j t t' s _ _ ⟨.bl (g i j), H, I, rfl, q⟩
def CPow (i j : Int) : Prop := 0 ≤ j ∧ j ≤ 1000000 ∧ i.natAbs < 2 ^ 64
def CMul (i j : Int) : Prop := (-(2 ^ 64) < i ∧ i < 2 ^ 64) ∨ (-(2 ^ 64) < j ∧ j < 2 ^ 64)
theorem CMul.ok {i j : Int} (h : CMul i j) : IntMulOk i j := by
  rcases h with ⟨h1, h2⟩ | ⟨h1, h2⟩
  · exact .of_left (intBits_le_64 h1 h2)
  · exact .of_right (intBits_le_64 h1 h2)
theorem op_add : OpR X (binaryOp .Add) (rI0 fun i j => .int (i + j)) := opI0 fun _ _ _ _ _ _ _ q => add_int q
theorem op_sub : OpR X (binaryOp .Sub) (rI0 fun i j => .int (i - j)) := opI0 fun _ _ _ _ _ _ _ q => sub_int q
theorem op_modN : OpR X (binaryOp .Mod) (rI (fun _ j => j ≠ 0) fun i j => .int (i.fmod j)) := opI fun _ _ _ _ _ _ _ hc q => mod_int' hc q
theorem op_pow : OpR X (binaryOp .Pow) (rI CPow fun i j => .int (i ^ j.toNat)) := opI fun _ _ _ _ _ _ _ hc q => pow_int_small hc.1 hc.2.1 hc.2.2 q
end
def scal : V → V → Bool
  | .non, .non => true | .non, .int _ => true | .int _, .non => true | .non, .bl _ => true | .bl _, .non => true | .non, .str _ => true | .str _, .non => true
  | .int _, .int _ => true | .bl _, .bl _ => true | .str _, .str _ => true | .byt _, .byt _ => true
  | .int _, .str _ => true | .str _, .int _ => true | .bl _, .str _ => true | .str _, .bl _ => true
  | _, _ => false
def rEq : R2 := fun x y H Q => scal x y = true ∧ Q (.bl (decide (x = y))) H
def rNe : R2 := fun x y H Q => scal x y = true ∧ Q (.bl (!decide (x = y))) H
theorem dec_int {i j : Int} : decide (V.int i = V.int j) = (i == j) := by
  rw [Bool.eq_iff_iff]
  simp
theorem dec_bl {i j : Bool} : decide (V.bl i = V.bl j) = (i == j) := by
  rw [Bool.eq_iff_iff]
  simp
theorem dec_str {i j : Str} : decide (V.str i = V.str j) = (i == j) := by
  rw [Bool.eq_iff_iff]
  simp
theorem dec_byt {i j : Array UInt8} : decide (V.byt i = V.byt j) = (i.toList == j.toList) := by
  rw [Bool.eq_iff_iff]
  cases i
  cases j
  simp
section
variable {X : Cx} {a b c : Expr} {ta tb tc : TE} {pos : Pos}
theorem fin_bl {pins : List (Addr × Obj)} {σ : St} {H : Hp} {s : Shared} {Q : VK} {k k' : Bool} (I : Inv X pins σ H s) (q : Q (.bl k) H) (e : k = k') : EP X pins σ Q (.bool k') s := by
  subst e
  exact ⟨.bl k, H, I, rfl, q⟩
theorem op_eq : OpR X (compareOp .Eq) rEq := by
  intro pins s σ H x y v u Q I rx ry h
  obtain ⟨hs, q⟩ := h
  cases x with
  | non =>
    cases rx
    cases y with
    | non => cases ry; exact PySem.EqNone.eq_none_none (fin_bl I q (by simp))
    | bl j => cases ry; exact PySem.EqNone.eq_none_bool (fin_bl I q (by simp))
    | int j => obtain ⟨t', rfl⟩ := ry; exact PySem.EqNone.eq_none_int (fin_bl I q (by simp))
    | str j => obtain ⟨t', rfl⟩ := ry; exact PySem.EqNone.eq_none_str (fin_bl I q (by simp))
    | _ => exact absurd (show false = true from hs) Bool.false_ne_true
  | bl i =>
    cases rx
    cases y with
    | non => cases ry; exact PySem.EqNone.eq_bool_none (fin_bl I q (by simp))
    | bl j => cases ry; exact eq_bool (fin_bl I q dec_bl)
    | str j => obtain ⟨t', rfl⟩ := ry; exact PySem.EqMixed.eq_bool_str (fin_bl I q (by simp))
    | _ => exact absurd (show false = true from hs) Bool.false_ne_true
  | int i =>
    obtain ⟨t, rfl⟩ := rx
    cases y with
    | non => cases ry; exact PySem.EqNone.eq_int_none (fin_bl I q (by simp))
    | int j => obtain ⟨t', rfl⟩ := ry; exact eq_int (fin_bl I q dec_int)
    | str j => obtain ⟨t', rfl⟩ := ry; exact PySem.EqMixed.eq_int_str (fin_bl I q (by simp))
    | _ => exact absurd (show false = true from hs) Bool.false_ne_true
  | str i =>
    obtain ⟨t, rfl⟩ := rx
    cases y with
    | non => cases ry; exact PySem.EqNone.eq_str_none (fin_bl I q (by simp))
    | bl j => cases ry; exact PySem.EqMixed.eq_str_bool (fin_bl I q (by simp))
    | int j => obtain ⟨t', rfl⟩ := ry; exact PySem.EqMixed.eq_str_int (fin_bl I q (by simp))
    | str j => obtain ⟨t', rfl⟩ := ry; exact eq_str (fin_bl I q dec_str)
    | _ => exact absurd (show false = true from hs) Bool.false_ne_true
  | byt i =>
    obtain ⟨t, rfl⟩ := rx
    cases y with
    | byt j => obtain ⟨t', rfl⟩ := ry; exact PySem.W.eq_bytes (fin_bl I q dec_byt)
    | _ => exact absurd (show false = true from hs) Bool.false_ne_true
  | _ => cases y <;> exact absurd (show false = true from hs) Bool.false_ne_true
theorem op_ne : OpR X (compareOp .NotEq) rNe := by
  intro pins s σ H x y v u Q I rx ry h
  obtain ⟨hs, q⟩ := h
  cases x with
  | non =>
    cases rx
    cases y with
    | non => cases ry; exact PySem.EqNone.ne_none_none (fin_bl I q (by simp))
    | bl j => cases ry; exact PySem.EqNone.ne_none_bool (fin_bl I q (by simp))
    | int j => obtain ⟨t', rfl⟩ := ry; exact PySem.EqNone.ne_none_int (fin_bl I q (by simp))
    | str j => obtain ⟨t', rfl⟩ := ry; exact PySem.EqNone.ne_none_str (fin_bl I q (by simp))
    | _ => exact absurd (show false = true from hs) Bool.false_ne_true
  | bl i =>
    cases rx
    cases y with
    | non => cases ry; exact PySem.EqNone.ne_bool_none (fin_bl I q (by simp))
    | bl j => cases ry; exact ne_bool (fin_bl I q (congrArg not dec_bl))
    | str j => obtain ⟨t', rfl⟩ := ry; exact PySem.EqMixed.ne_bool_str (fin_bl I q (by simp))
    | _ => exact absurd (show false = true from hs) Bool.false_ne_true
  | int i =>
    obtain ⟨t, rfl⟩ := rx
    cases y with
    | non => cases ry; exact PySem.EqNone.ne_int_none (fin_bl I q (by simp))
    | int j => obtain ⟨t', rfl⟩ := ry; exact ne_int (fin_bl I q (congrArg not dec_int))
    | str j => obtain ⟨t', rfl⟩ := ry; exact PySem.EqMixed.ne_int_str (fin_bl I q (by simp))
    | _ => exact absurd (show false = true from hs) Bool.false_ne_true
  | str i =>
    obtain ⟨t, rfl⟩ := rx
    cases y with
    | non => cases ry; exact PySem.EqNone.ne_str_none (fin_bl I q (by simp))
    | bl j => cases ry; exact PySem.EqMixed.ne_str_bool (fin_bl I q (by simp))
    | int j => obtain ⟨t', rfl⟩ := ry; exact PySem.EqMixed.ne_str_int (fin_bl I q (by simp))
    | str j => obtain ⟨t', rfl⟩ := ry; exact ne_str (fin_bl I q (congrArg not dec_str))
    | _ => exact absurd (show false = true from hs) Bool.false_ne_true
  | byt i =>
    obtain ⟨t, rfl⟩ := rx
    cases y with
    | byt j => obtain ⟨t', rfl⟩ := ry; exact PySem.W.ne_bytes (fin_bl I q (congrArg not dec_byt))
    | _ => exact absurd (show false = true from hs) Bool.false_ne_true
  | _ => cases y <;> exact absurd (show false = true from hs) Bool.false_ne_true
theorem op_lt : OpR X (compareOp .Lt) (rI0 fun i j => .bl (decide (i < j))) := opB0 fun _ _ _ _ _ _ _ q => lt_int q
theorem op_gt : OpR X (compareOp .Gt) (rI0 fun i j => .bl (decide (j < i))) := opB0 fun _ _ _ _ _ _ _ q => gt_int q
theorem op_notN : OpR X (compareOp .IsNot) (fun x y H Q => y = .non ∧ Q (.bl (!decide (x = .non))) H) := by
  intro pins s σ H x y v u Q I rx ry h
  obtain ⟨rfl, q⟩ := h
  cases ry
  refine isnot_none_gen (fin_bl I q ?_)
  cases x <;> first
    | (cases rx; rfl)
    | (obtain ⟨t, rfl⟩ := rx; rfl)
theorem OpR.or {f : Value → Value → Sem Value} {r r' : R2} (h : OpR X f r) (h' : OpR X f r') : OpR X f (fun x y H Q => r x y H Q ∨ r' x y H Q) := by
  intro pins s σ H x y v u Q I rx ry q
  rcases q with q | q
  · exact h pins s σ H x y v u Q I rx ry q
  · exact h' pins s σ H x y v u Q I rx ry q
theorem nomark (b : Expr) {op : CmpOp} (h : op ≠ .In := by decide) (h2 : op ≠ .NotIn := by decide) : behindInMarks op b = false := by
  have e1 : (op == CmpOp.In) = false := by cases op <;> first | rfl | exact absurd rfl h
  have e2 : (op == CmpOp.NotIn) = false := by cases op <;> first | rfl | exact absurd rfl h2
  cases b <;> simp [behindInMarks, e1, e2]
theorem line63 : (sizeLine : Nat) < 2 ^ 63 := by rw [sizeLine_eq]; decide
theorem op_add_str : OpR X (binaryOp .Add) (fun x y H Q => ∃ i j, x = .str i ∧ y = .str j ∧ i.length + j.length ≤ sizeLine ∧ Q (.str (i ++ j)) H) := by
  intro pins s σ H x y v u Q I rx ry h
  obtain ⟨i, j, rfl, rfl, hz, q⟩ := h
  obtain ⟨t, rfl⟩ := rx
  obtain ⟨t', rfl⟩ := ry
  exact add_str (fun t' tk => ⟨.str (i ++ j), H, I.tok _, ⟨_, rfl⟩, q⟩) hz
theorem vals1 {x : V} {us : List Value} (r : Vals [x] us) : ∃ u, us = [u] ∧ RelV x u := by
  cases r with
  | cons r1 r2 => cases r2; exact ⟨_, rfl, r1⟩
theorem vals2 {x y : V} {us : List Value} (r : Vals [x, y] us) : ∃ u w', us = [u, w'] ∧ RelV x u ∧ RelV y w' := by
  cases r with
  | cons r1 r2 =>
    cases r2 with
    | cons r3 r4 => cases r4; exact ⟨_, _, rfl, r1, r3⟩
theorem call_max2 (hc : X.calm = true) : CallR X (.builtin "max") (fun xs H Q => ∃ i j, xs = [.int i, .int j] ∧ Q (.int (if j > i then j else i)) H) := by
  intro pins s σ H xs us Q I r h
  obtain ⟨i, j, rfl, q⟩ := h
  obtain ⟨u, w', rfl, ⟨t, rfl⟩, ⟨t', rfl⟩⟩ := vals2 r
  refine max_two_ints (I.ok.hd hc) fun h' tk k => ⟨_, H, I.kept k, ?_, q⟩
  by_cases hj : j > i
  · rw [if_pos hj, if_pos hj]; exact ⟨_, rfl⟩
  · rw [if_neg hj, if_neg hj]; exact ⟨_, rfl⟩
theorem call_int1 : CallR X (.type "int") (fun xs H Q => (∃ i, xs = [.int i] ∧ Q (.int i) H) ∨ ∃ k, xs = [.bl k] ∧ Q (.int (if k then 1 else 0)) H) := by
  intro pins s σ H xs us Q I r h
  rcases h with ⟨i, rfl, q⟩ | ⟨k, rfl, q⟩
  · obtain ⟨u, rfl, t, rfl⟩ := vals1 r
    exact call_int_int ⟨.int i, H, I, ⟨_, rfl⟩, q⟩
  · obtain ⟨u, rfl, r1⟩ := vals1 r
    cases r1
    exact call_int_bool ⟨.int (if k then 1 else 0), H, I.tok _, ⟨_, rfl⟩, q⟩
end
end L2
namespace L2
open PySem PySem.Spec PyProof.Rows
structure ObjM (h : Heap) (x dx C : Addr) (mA : Str → Option Value) : Prop where
  obj : h.get? x = some (PySem.W.instObj C dx)
  ns : h.Ns1 dx mA
  ne : dx ≠ x
theorem lookIn_ns {h : Heap} {dx : Addr} {mA : Str → Option Value} (n : h.Ns1 dx mA) : ∃ od, h.get? dx = some od ∧ ∀ name, PySem.W.lookIn name od = some (mA name) := by
  obtain ⟨o, es, ep, ho, hd, hk, _, hm⟩ := n
  refine ⟨o, ho, fun name => ?_⟩
  have e := hm name
  unfold nsFind findBy at e
  rw [← Array.find?_toList] at e
  unfold PySem.W.lookIn
  rw [hd]
  dsimp only
  split
  · rename_i y q
    rw [q] at e
    exact congrArg some e
  · rename_i q
    rw [q] at e
    have a : es.toList.any (·.refKey) = false := by
      rw [List.any_eq_false]
      intro y hy
      obtain ⟨z, t, hkey⟩ := hk y (Array.mem_toList_iff.mp hy)
      simp [DictEntry.refKey, hkey]
    have a' : ¬ es.toList.any (·.refKey) = true := by rw [a]; exact Bool.false_ne_true
    rw [if_neg a']
    exact congrArg some e
theorem ObjM.look {h : Heap} {x dx C : Addr} {mA : Str → Option Value} (I : ObjM h x dx C mA) : ∃ od, PySem.W.InstAt h x (PySem.W.instObj C dx) C (some od) ∧ ∀ name, PySem.W.lookIn name od = some (mA name) :=
  let ⟨od, ho, hl⟩ := lookIn_ns I.ns
  ⟨od, ⟨I.obj, rfl, rfl, ho⟩, hl⟩
section
variable {prog : Program} {w : World} {A : Around} {E : Value → Shared → Prop} {s : Shared} {K : PySem.W.Frag} {x dx C f : Addr} {mA : Str → Option Value} {name : Str} {v : Value}
theorem get_map {expr : Bool} {Q : Value → Shared → Prop} (X : K.In s.heap) (I : ObjM s.heap x dx C mA) (hg : PySem.W.plainGet K C name = true) (hh : PySem.W.hasDictIn K C = true)
    (ha : PySem.W.findIn K (.ref C) name = some none) (hv : mA name = some v) (hv' : PySem.W.handedIn v = true) (h : Q v { s with toks := s.toks + 1 }) :
    wpAny (model prog w) A (getAttr (.ref x) name expr) Q E s := by
  obtain ⟨od, J, hl⟩ := I.look
  exact PySem.W.get_value X J (PySem.W.plainGet_of hg).1 (PySem.W.findObj_own hh ha rfl (by rw [hl, hv])) hv' h
theorem get_meth {pl : Sem Bool} {Q : Value × List Value → Shared → Prop} (X : K.In s.heap) (I : ObjM s.heap x dx C mA) (hg : PySem.W.plainGet K C name = true)
    (hf : PySem.W.findIn K (.ref C) name = some (some (.ref f))) (ht : PySem.W.isFn K (.ref f) = true) (hv : mA name = none) (h : Q (.ref f, [.ref x]) s) :
    wpAny (model prog w) A (getMethod (.ref x) name pl) Q E s := by
  obtain ⟨od, J, hl⟩ := I.look
  exact PySem.W.method_fn X J (PySem.W.plainGet_of hg).1 (PySem.W.plainGet_of hg).2 hf (beq_iff_eq.mp ht) (by show (PySem.W.lookIn name od).map (·.isSome) = some false; rw [hl, hv]; rfl) h
theorem set_map {ns : List Str} {Q : Unit → Shared → Prop} (X : K.In s.heap) (I : ObjM s.heap x dx C mA)
    (hs : PySem.W.findIn K (.ref C) "__setattr__" = some (some (.builtin "object.__setattr__"))) (hp : PySem.W.plainOver K C = true) (ht : PySem.W.takerIn K C name = some none) (hh : PySem.W.hasDictIn K C = true)
    (hw : PySem.Within mA ns) (hsz : ns.length ≤ sizeLine)
    (h : ∀ h', ObjM h' x dx C (fun y => if y = name then some v else mA y) → Heap.SameBut dx s.heap h' → Q () { s with heap := h', toks := s.toks + 2 }) :
    wpAny (model prog w) A (setAttr (.ref x) name v) Q E s := by
  obtain ⟨od, J, hl⟩ := I.look
  refine PySem.W.set_plain X J hs (PySem.W.osa_open (s := { s with toks := s.toks + 1 }) (r := none) X J hp ht fun b => ?_)
  obtain ⟨cd, hc, hd'⟩ := PySem.W.any_some hh
  have hx : s.heap.get? x = some ⟨.ref C, some dx, .plain, #[]⟩ := I.obj
  refine wpAny_bind (wpAny_pure (wpAny_bind (wpAny_bind (wpAny_loadPart hx (wpAny_bind (PySem.W.Looks.here (s := { s with toks := s.toks + 1 }) (PySem.W.looks_clsIn X hc) ?_))))))
  rw [hd']
  refine wpAny_pure (a := some dx) (wpAny_bind (wpAny_pure (wpAny_bind ?_)))
  refine wpAny_nsSet1 (s := { s with toks := s.toks + 1 }) I.ns fun h' hn2 hs2 => ?_
  obtain ⟨oD, esD, epD, hoD, hdD, hcD⟩ := hn2.count (PySem.Within.cons name v hw)
  refine wpAny_bind (wpAny_lookBehind hoD (by rw [hdD]; exact pastItsLine_dict (Nat.le_trans hcD (by rw [List.length_cons]; omega))) ?_)
  exact wpAny_pure (h _ ⟨(hs2.2 _ (Ne.symm I.ne)).trans I.obj, hn2, I.ne⟩ hs2)
theorem make_map {R : Result → Shared → Prop} {vs : List Value} {kw : List (Str × Value)} (X : K.In s.heap) (hm : PySem.W.makesIn K C = true)
    (hi : PySem.W.findIn K (.ref C) "__init__" = some (some (.ref f))) (hf : PySem.W.typeIn K (.ref f) = some (.type "function"))
    (h : codeAny (model prog w) (A.under (.builtin "type.__call__" ⟨.ref C :: vs, kw⟩)) (.call (.ref f) ⟨.ref (s.heap.objs.size + 1) :: vs, kw⟩) (PySem.W.InitBack (s.heap.objs.size + 1) R)
      { s with heap := (s.heap.push PySem.W.emptyDict).push (PySem.W.instObj C s.heap.objs.size) }) :
    codeAny (model prog w) A (.call (.ref C) ⟨vs, kw⟩) R s := by
  obtain ⟨hh, g, d, t, os⟩ := s
  exact PySem.W.make_core (PySem.W.makes_of X hm) (PySem.W.looks_findIn X hi) (fun self => PySem.W.bind_fn X self hf) (.inl rfl) h
end
def putF (f : Str) (v : V) : List (Str × V) → List (Str × V)
  | [] => [(f, v)]
  | (g, x) :: r => if g = f then (g, v) :: r else (g, x) :: putF f v r
theorem lookup_putF (f g : Str) (v : V) : ∀ fs : List (Str × V), (putF f v fs).lookup g = if g = f then some v else fs.lookup g
  | [] => by
    show List.lookup g [(f, v)] = _
    by_cases h : g = f
    · have hb : (g == f) = true := beq_iff_eq.mpr h
      simp only [List.lookup, hb, if_pos h]
    · have hb : (g == f) = false := beq_eq_false_iff_ne.mpr h
      simp only [List.lookup, hb, if_neg h]
  | (k, x) :: r => by
    have ih := lookup_putF f g v r
    rw [show putF f v ((k, x) :: r) = (if k = f then (k, v) :: r else (k, x) :: putF f v r) from rfl]
    by_cases hk : k = f
    · rw [if_pos hk]
      by_cases h : g = k
      · have hb : (g == k) = true := beq_iff_eq.mpr h
        simp only [List.lookup, hb, if_pos (h.trans hk)]
      · have hb : (g == k) = false := beq_eq_false_iff_ne.mpr h
        simp only [List.lookup, hb, if_neg (fun e : g = f => h (e.trans hk.symm))]
    · rw [if_neg hk]
      by_cases h : g = k
      · have hb : (g == k) = true := beq_iff_eq.mpr h
        simp only [List.lookup, hb, if_neg (fun e : g = f => hk (h.symm.trans e))]
      · have hb : (g == k) = false := beq_eq_false_iff_ne.mpr h
        simp only [List.lookup, hb]
        exact ih
theorem keys_putF (f : Str) (v : V) : ∀ fs : List (Str × V), f ∈ (putF f v fs).map (·.1) ∧ ∀ g, g ∈ fs.map (·.1) → g ∈ (putF f v fs).map (·.1)
  | [] => ⟨by simp [putF], fun g h => by simp at h⟩
  | (k, x) :: r => by
    obtain ⟨i1, i2⟩ := keys_putF f v r
    rw [show putF f v ((k, x) :: r) = (if k = f then (k, v) :: r else (k, x) :: putF f v r) from rfl]
    by_cases hk : k = f
    · rw [if_pos hk]
      subst hk
      exact ⟨by simp, fun g h => by simpa using h⟩
    · rw [if_neg hk]
      refine ⟨?_, fun g h => ?_⟩
      · rw [List.map_cons]
        exact List.mem_cons_of_mem _ i1
      · rw [List.map_cons] at h ⊢
        rcases List.mem_cons.mp h with e | e
        · exact List.mem_cons.mpr (.inl e)
        · exact List.mem_cons_of_mem _ (i2 g e)
theorem length_putF (f : Str) (v : V) : ∀ fs : List (Str × V), (putF f v fs).length ≤ fs.length + 1
  | [] => by simp [putF]
  | (k, x) :: r => by
    have ih := length_putF f v r
    rw [show putF f v ((k, x) :: r) = (if k = f then (k, v) :: r else (k, x) :: putF f v r) from rfl]
    by_cases hk : k = f
    · rw [if_pos hk, List.length_cons, List.length_cons]; omega
    · rw [if_neg hk, List.length_cons, List.length_cons]; omega
theorem RelO.some_of {v : V} {o : Option Value} (r : RelO (some v) o) : ∃ u, o = some u ∧ RelV v u := by
  cases o with
  | none => exact (show False from r).elim
  | some u => exact ⟨u, rfl, r⟩
theorem RelO.none_of {o : Option Value} (r : RelO none o) : o = none := by
  cases o with
  | none => rfl
  | some u => exact (show False from r).elim
theorem handed_of {v : V} {u : Value} (r : RelV v u) : PySem.W.handedIn u = true := by
  cases v with
  | non => cases (show u = Value.none from r); rfl
  | bl b => cases (show u = Value.bool b from r); rfl
  | int i => obtain ⟨t, e⟩ := (show ∃ t, u = Value.int i t from r); cases e; rfl
  | str x => obtain ⟨t, e⟩ := (show ∃ t, u = Value.str x t from r); cases e; rfl
  | byt b => obtain ⟨t, e⟩ := (show ∃ t, u = Value.bytes b t from r); cases e; rfl
  | flt b => obtain ⟨t, e⟩ := (show ∃ t, u = Value.float b t from r); cases e; rfl
  | ref a => cases (show u = Value.ref a from r); rfl
  | ty n => cases (show u = Value.type n from r); rfl
section
variable {P : Program} {w : World} {H H' : Hp} {h h' : Heap} {a C dx : Addr} {fs fs' : List (Str × V)}
theorem ins_get (hok : HOk P w H h) (e : H a = some (.ins C dx fs)) : ∃ mA, ObjM h a dx C mA ∧ (∀ f, RelO (fs.lookup f) (mA f)) ∧ PySem.Within mA (fs.map (·.1)) ∧ fs.length ≤ 1000 ∧ H dx = some (.own a) := by
  obtain ⟨d, z, ne, ob, mA, n, r, q⟩ := (show ObjOk P w H h a (.ins C dx fs) from hok a _ e)
  exact ⟨mA, ⟨ob, n, ne⟩, r, q, z, d⟩
end
structure Cls (K : PySem.W.Frag) (C : Addr) : Prop where
  pg : PySem.W.plainGet K C Str.empty = true
  hd : PySem.W.hasDictIn K C = true
  po : PySem.W.plainOver K C = true
  sa : PySem.W.findIn K (.ref C) "__setattr__" = some (some (.builtin "object.__setattr__"))
theorem Cls.get {K : PySem.W.Frag} {C : Addr} (c : Cls K C) (f : Str) : PySem.W.plainGet K C f = true := c.pg
def NoAttr (K : PySem.W.Frag) (C : Addr) (f : Str) : Prop := PySem.W.findIn K (.ref C) f = some none
theorem NoAttr.taker {K : PySem.W.Frag} {C : Addr} {f : Str} (n : NoAttr K C f) : PySem.W.takerIn K C f = some none := by
  unfold PySem.W.takerIn
  rw [show PySem.W.findIn K (.ref C) f = some none from n]
  rfl
structure Meth (K : PySem.W.Frag) (C : Addr) (m : Str) (f : Addr) : Prop where
  at_ : PySem.W.findIn K (.ref C) m = some (some (.ref f))
  fn : PySem.W.isFn K (.ref f) = true
  kp : PySem.W.keepIn K (.ref f) = true
section
variable {X : Cx} {pins : List (Addr × Obj)} {σ : St} {H : Hp} {s : Shared} {a C dx : Addr} {fs : List (Str × V)} {f : Str} {v : V} {A : Around} {E : Value → Shared → Prop}
theorem getattr_ok {b : Bool} {Q : Value → Shared → Prop} (I : Inv X pins σ H s) (e : H a = some (.ins C dx fs)) (c : Cls X.K C) (n : NoAttr X.K C f) (l : fs.lookup f = some v)
    (h : ∀ u s', Inv X pins σ H s' → RelV v u → Q u s') : wpAny (model X.prog X.w) A (getAttr (.ref a) f b) Q E s := by
  obtain ⟨mA, O, r, _, _, _⟩ := ins_get I.hok e
  obtain ⟨u, hu, ru⟩ := RelO.some_of (v := v) (o := mA f) (by rw [← l]; exact r f)
  exact get_map I.kIn O (c.get f) c.hd n hu (handed_of ru) (h u _ (I.tok _) ru)
theorem getmeth_ok {m : Str} {g : Addr} {pl : Sem Bool} {Q : Value × List Value → Shared → Prop} (I : Inv X pins σ H s) (e : H a = some (.ins C dx fs)) (c : Cls X.K C) (k : Meth X.K C m g) (l : fs.lookup m = none)
    (h : Q (.ref g, [.ref a]) s) : wpAny (model X.prog X.w) A (getMethod (.ref a) m pl) Q E s := by
  obtain ⟨mA, O, r, _, _, _⟩ := ins_get I.hok e
  have hn : mA m = none := RelO.none_of (by rw [← l]; exact r m)
  exact get_meth I.kIn O (c.get m) k.at_ k.fn hn h
theorem setattr_ok {y : V} {u : Value} {Q : Unit → Shared → Prop} (I : Inv X pins σ H s) (e : H a = some (.ins C dx fs)) (c : Cls X.K C) (n : NoAttr X.K C f) (hl : fs.length < 1000) (ry : RelV y u)
    (h : ∀ s', Inv X pins σ (upd H a (.ins C dx (putF f y fs))) s' → Q () s') : wpAny (model X.prog X.w) A (setAttr (.ref a) f u) Q E s := by
  obtain ⟨mA, O, r, wi, _, ho⟩ := ins_get I.hok e
  have hz : (fs.map (·.1)).length ≤ sizeLine := by rw [List.length_map, sizeLine_eq]; omega
  refine set_map I.kIn O c.sa c.po n.taker c.hd wi hz fun h' O' sb => h _ ?_
  have hd : ∃ o, h'.get? dx = some o := let ⟨o, _, _, e', _⟩ := O'.ns; ⟨o, e'⟩
  refine I.write (x := a) (e := dx) (by rw [e]; exact True.intro) (.inr ho) (fun b q hb z => (sb.2 b hb).trans z) hd ?_
  refine ⟨by rw [upd_ne O.ne]; exact ho, ?_, O.ne, O'.obj, _, O'.ns, fun g => ?_, fun g hg => ?_⟩
  · have := length_putF f y fs; omega
  · show RelO ((putF f y fs).lookup g) (if g = f then some u else mA g)
    rw [lookup_putF]
    by_cases q : g = f
    · rw [if_pos q, if_pos q]; exact ry
    · rw [if_neg q, if_neg q]; exact r g
  · by_cases q : g = f
    · rw [q]; exact (keys_putF f y fs).1
    · refine (keys_putF f y fs).2 g (wi g fun z => hg ?_)
      show (if g = f then some u else mA g) = none
      rw [if_neg q]; exact z
theorem Inv.made (I : Inv X pins σ H s) : Inv X pins σ (upd (upd H s.heap.objs.size (.own (s.heap.objs.size + 1))) (s.heap.objs.size + 1) (.ins C s.heap.objs.size []))
    { s with heap := (s.heap.push PySem.W.emptyDict).push (PySem.W.instObj C s.heap.objs.size) } := by
  have e1 : (s.heap.push PySem.W.emptyDict).get? s.heap.objs.size = some PySem.W.emptyDict := Heap.get?_push_size s.heap rfl
  have e2 : ((s.heap.push PySem.W.emptyDict).push (PySem.W.instObj C s.heap.objs.size)).get? (s.heap.objs.size + 1) = some (PySem.W.instObj C s.heap.objs.size) := by
    have := Heap.get?_push_size (s.heap.push PySem.W.emptyDict) (o := PySem.W.instObj C s.heap.objs.size) rfl
    rwa [Heap.size_push] at this
  have e3 : (s.heap.push PySem.W.emptyDict).Ns s.heap.objs.size (fun _ => none) := ⟨PySem.W.emptyDict, #[], _, e1, rfl, (fun e he => absurd he (by simp)), fun _ => rfl⟩
  have I1 := I.laid (a := s.heap.objs.size) (o := .own (s.heap.objs.size + 1)) (h' := s.heap.push PySem.W.emptyDict) (t' := s.toks) (fun b u q => Heap.get?_push_of_some _ q) (Nat.le_refl _) ⟨_, e1⟩
  refine I1.laid (a := s.heap.objs.size + 1) (o := .ins C s.heap.objs.size []) (t' := s.toks) (fun b u q => Heap.get?_push_of_some _ q) (Nat.le_of_eq (Heap.size_push _ _)) ?_
  have ne : s.heap.objs.size ≠ s.heap.objs.size + 1 := Nat.ne_of_lt (Nat.lt_succ_self _)
  refine ⟨by rw [upd_ne ne, upd_same], Nat.zero_le _, ne, e2, fun _ => none, (Heap.Ns1.of_empty e3).at fun o q => Heap.get?_push_of_some _ q, fun _ => True.intro, fun y hy => absurd rfl hy⟩
theorem attr_of {prog : Program} {w : World} {env : Env} {e : Expr} {f : Str} {pos : Pos} {s : Shared} {Q : Value → Shared → Prop} (hb : attributeBase e f env (eval e env) = eval e env)
    (h : wpAny (model prog w) A (eval e env) (fun o s₁ => wpAny (model prog w) A (getAttr o f true) Q E s₁) E s) : wpAny (model prog w) A (eval (.Attribute e f pos) env) Q E s :=
  Attribute_any_ h (by rw [arm_eval_Attribute, hb])
end
def tFld (K : PySem.W.Frag) (ta : TE) (f : Str) : TE := fun σ H Q => ta σ H fun x H1 => ∃ a C dx fs v, x = .ref a ∧ H1 a = some (.ins C dx fs) ∧ Cls K C ∧ NoAttr K C f ∧ fs.lookup f = some v ∧ Q v H1
def sFld (K : PySem.W.Frag) (ta tv : TE) (f : Str) : TS := fun D σ H => tv σ H fun y H1 => ta σ H1 fun x H2 => ∃ a C dx fs, x = .ref a ∧ H2 a = some (.ins C dx fs) ∧ Cls K C ∧ NoAttr K C f ∧ fs.length < 1000 ∧
  D.nx σ (upd H2 a (.ins C dx (putF f y fs)))
section
variable {X : Cx} {o e value : Expr} {f : Str} {pos pos' tpos : Pos} {ta tv : TE}
theorem pe_fld (he : PE X e ta) (hb : attributeBase e f X.env (eval e X.env) = eval e X.env) : PE X (.Attribute e f pos) (tFld X.K ta f) := by
  intro pins s σ H Q I h
  refine attr_of hb (thn (he pins s σ H _ I h) fun u s1 ⟨x, H1, I1, rx, a, C, dx, fs, v, ex, ea, c, n, l, q⟩ => ?_)
  subst ex
  obtain rfl : u = Value.ref a := rx
  exact getattr_ok I1 ea c n l fun u' s2 I2 ru => ⟨v, H1, I2, ru, q⟩
theorem ps_fld (ha : PE X o ta) (hv : PE X value tv) (hs : swapsWith value (some (.Attribute o f pos')) pos.line X.env = pure false) : PS X (.Assign [.Attribute o f pos'] value pos) (sFld X.K ta tv f) := by
  intro pins s σ H D I h
  refine plainObj_wpAny_Assign_Attribute (thn (hv pins s σ H _ I h) fun u s1 ⟨y, H1, I1, ry, q⟩ => thn (ha pins s1 σ H1 _ I1 q) fun ov s2 ⟨x, H2, I2, rx, a, C, dx, fs, ex, ea, c, n, l, q2⟩ => ?_) hs
  subst ex
  obtain rfl : ov = Value.ref a := rx
  exact setattr_ok I2 ea c n l ry fun s3 I3 => ⟨σ, _, I3, q2⟩
end
section
variable {X : Cx} {pins : List (Addr × Obj)} {σ : St} {H : Hp} {s : Shared} {A : Around} {E : Value → Shared → Prop} {Q : Value → Shared → Prop} {c : Value} {b : Bool}
end
end L2
namespace L2
open PySem PySem.Spec PyProof.Rows
structure Room (k : Nat) (A : Around) : Prop where
  hd : A.handled = none
  gd : A.guards = some []
  dp : A.depth + 3 * k + 5 < recursionLimit
  un : A.units + 16 * k + 200 < cLine
theorem Room.mono {j k : Nat} {A : Around} (r : Room k A) (h : j ≤ k) : Room j A := ⟨r.hd, r.gd, by have := r.dp; omega, by have := r.un; omega⟩
theorem Room.deeper {k : Nat} {A : Around} (r : Room (k + 1) A) (env : Env) : Room k (A.deeper env) :=
  ⟨r.hd, r.gd, by have := r.dp; show A.depth + 1 + 3 * k + 5 < _; omega, by have := r.un; show A.units + 3 + 16 * k + 200 < _; omega⟩
theorem Room.in1 {k : Nat} {A : Around} (r : Room (k + 1) A) : Room k A.in1 :=
  ⟨r.hd, r.gd, by have := r.dp; show A.depth + 3 * k + 5 < _; omega, by have := r.un; show A.units + 1 + 16 * k + 200 < _; omega⟩
theorem make_depth {A : Around} {C : Addr} {us : List Value} {kw : List (Str × Value)} : (A.under (.builtin "type.__call__" ⟨.ref C :: us, kw⟩)).depth = A.depth + 1 := by
  first | rfl | simp [Around.under, Code.weight, Code.isCreation, Code.isGuard, Code.isCaller, Code.frames, Code.isFrame, guardIds]
theorem make_units {A : Around} {C : Addr} {us : List Value} {kw : List (Str × Value)} : (A.under (.builtin "type.__call__" ⟨.ref C :: us, kw⟩)).units = A.units + 1 := by
  first | rfl | simp [Around.under, Code.cUnits, Code.frames, Code.isFrame]
theorem Room.make {k : Nat} {A : Around} (r : Room (k + 1) A) (C : Addr) (us : List Value) (kw : List (Str × Value)) : Room k (A.under (.builtin "type.__call__" ⟨.ref C :: us, kw⟩)) :=
  ⟨r.hd, (by first | exact r.gd | (simpa [Around.under, Code.isGuard, guardIds] using r.gd)), by have := r.dp; rw [make_depth]; omega, by have := r.un; rw [make_units]; omega⟩
theorem Room.depth {k : Nat} {A : Around} (r : Room k A) : A.depth < recursionLimit := by have := r.dp; omega
theorem Room.units {k : Nat} {A : Around} (r : Room k A) : A.units + 64 < cLine := by have := r.un; omega
def tNil : TA := fun _ H Q => Q [] H
def tCons (ta : TE) (tr : TA) : TA := fun σ H Q => ta σ H fun x H1 => tr σ H1 fun xs H2 => Q (x :: xs) H2
section
variable {X : Cx} {e : Expr} {es : List Expr} {te : TE} {t : TA} {pos : Pos}
theorem pa_nil : PA X [] tNil := fun _ _ _ _ H Q I h => Calls.spliced_nil ⟨[], H, I, .nil, h⟩
theorem pa_cons (ha : PE X e te) (hr : PA X es t) (hs : starEach (e :: es) X.env = (false, eval e X.env) :: starEach es X.env := by rfl) : PA X (e :: es) (tCons te t) := by
  intro pos pins s σ H Q I h
  rw [hs]
  show wpAny _ _ (spliced ((false, eval e X.env) :: backTo pos (starEach es X.env))) _ _ s
  refine Calls.spliced_cons (thn (ha pins s σ H _ I h) fun u s1 ⟨x, H1, I1, r1, q1⟩ => ?_)
  exact thn (hr pos pins s1 σ H1 _ I1 q1) fun us s2 ⟨xs, H2, I2, r2, q2⟩ => ⟨x :: xs, H2, I2, .cons r1 r2, q2⟩
def tTup (t : TA) : TE := fun σ H Q => t σ H fun xs H1 => xs.length ≤ sizeLine ∧ ∀ p, H1 p = none → Q (.ref p) (upd H1 p (.tup xs))
theorem pe_tup {x1} (h : PA X es t) : PE X (.Tuple es x1 pos) (tTup t) := by
  intro pins s σ H Q I hq
  refine wpAny_Tuple_spliced (thn (h pos pins s σ H _ I hq) fun us s1 ⟨xs, H1, I1, r, z, q⟩ => ⟨by rw [← r.length]; exact z, ?_⟩)
  have hf : H1 s1.heap.objs.size = none := I1.hok.fresh (Nat.le_refl _)
  refine ⟨.ref s1.heap.objs.size, upd H1 s1.heap.objs.size (.tup xs), I1.laid (t' := s1.toks) (fun b u e => Heap.get?_push_of_some _ e) (Nat.le_refl _) ?_, rfl, q _ hf⟩
  exact ⟨⟨z, NoD.new _ _ _⟩, us, r, ⟨_, Heap.get?_push_size _ rfl, rfl, _, rfl⟩⟩
end
abbrev Sp := List V → Hp → VK → XK → Prop
abbrev CXT := List Env → Hp → Shared → XK → Value → Shared → Prop
structure Env0 (P : Program) (w : World) (K : PySem.W.Frag) (mg : Str → Option Value) (base : Heap) (A : Around) (outer : List Env) (s : Shared) (H : Hp) : Prop where
  frames : A.frames = some outer
  mod : Mod K mg base
  bs : ∀ b o, base.get? b = some o → s.heap.get? b = some o ∧ H b = none
  bsz : base.objs.size ≤ s.heap.objs.size
  funs : s.heap.FunFrames base outer
  frf : ∀ b ∈ frs outer, H b = none
  hok : HOk P w H s.heap
  bare : AllBare s.gens
def CE (outer : List Env) (P : Program) (w : World) (H : Hp) (s : Shared) (Q : VK) (u : Value) (s' : Shared) : Prop :=
  ∃ v H', s'.os = s.os ∧ AllBare s'.gens ∧ Un (frs outer) [] H H' s.heap s'.heap ∧ HOk P w H' s'.heap ∧ RelV v u ∧ Q v H'
def CR (CX : CXT) (outer : List Env) (P : Program) (w : World) (H : Hp) (s : Shared) (Q : VK) (E : XK) (r : Result) (s' : Shared) : Prop :=
  match r with
  | .ok (.ret u) => CE outer P w H s Q u s'
  | .ok _ => False
  | .error e => CX outer H s E e s'
structure FnOk (P : Program) (w : World) (K : PySem.W.Frag) (mg : Str → Option Value) (base : Heap) (CX : CXT) (k : Nat) (f : Addr) (fd : FuncData) (ps : List Str) (sp : Sp) : Prop where
  len : ∀ vs H Q E, sp vs H Q E → vs.length = ps.length
  run : ∀ (A : Around) (outer : List Env) (s : Shared) (H : Hp) (args : Args) (us : List Value) (vs : List V) (Q : VK) (E : XK), Room k A → Env0 P w K mg base A outer s H → BindsTo s fd args (ps.zip us) → Vals vs us → sp vs H Q E →
    codeAny (model P w) A (.call (.ref f) args) (CR CX outer P w H s Q E) s
theorem FnOk.mono {P : Program} {w : World} {K : PySem.W.Frag} {mg : Str → Option Value} {base : Heap} {CX : CXT} {j k : Nat} {f : Addr} {fd : FuncData} {ps : List Str} {sp : Sp} (F : FnOk P w K mg base CX j f fd ps sp) (h : j ≤ k) :
    FnOk P w K mg base CX k f fd ps sp := ⟨F.len, fun A outer s H args us vs Q E hr => F.run A outer s H args us vs Q E (hr.mono h)⟩
theorem FnOk.imp {P : Program} {w : World} {K : PySem.W.Frag} {mg : Str → Option Value} {base : Heap} {CX : CXT} {k : Nat} {f : Addr} {fd : FuncData} {ps : List Str} {sp sp' : Sp} (F : FnOk P w K mg base CX k f fd ps sp)
    (h : ∀ vs H Q E, sp' vs H Q E → sp vs H Q E) : FnOk P w K mg base CX k f fd ps sp' :=
  ⟨fun vs H Q E q => F.len vs H Q E (h _ _ _ _ q), fun A outer s H args us vs Q E hr he hb hv hs => F.run A outer s H args us vs Q E hr he hb hv (h _ _ _ _ hs)⟩
theorem Env0.make {P : Program} {w : World} {K : PySem.W.Frag} {mg : Str → Option Value} {base : Heap} {A : Around} {outer : List Env} {s : Shared} {H : Hp} (e : Env0 P w K mg base A outer s H) (C : Addr) (us : List Value) (kw : List (Str × Value)) :
    Env0 P w K mg base (A.under (.builtin "type.__call__" ⟨.ref C :: us, kw⟩)) outer s H := ⟨by first | exact e.frames | (simpa [Around.under, Code.envs, Code.isFrame, pushEnvs] using e.frames), e.mod, e.bs, e.bsz, e.funs, e.frf, e.hok, e.bare⟩
theorem Env0.in1 {P : Program} {w : World} {K : PySem.W.Frag} {mg : Str → Option Value} {base : Heap} {A : Around} {outer : List Env} {s : Shared} {H : Hp} (e : Env0 P w K mg base A outer s H) :
    Env0 P w K mg base A.in1 outer s H := ⟨e.frames, e.mod, e.bs, e.bsz, e.funs, e.frf, e.hok, e.bare⟩
section
variable {X : Cx} {pins : List (Addr × Obj)} {σ : St} {H : Hp} {s s' : Shared}
theorem Inv.env0 (I : Inv X pins σ H s) : Env0 X.prog X.w X.K X.mg X.base X.A X.stack s H :=
  ⟨I.ok.frames, I.ok.mod, I.bs, Nat.le_trans I.ok.bsz I.sz, I.stack, I.stkFree, I.hok, I.bare⟩
theorem Inv.after {Q : VK} {u : Value} (I : Inv X pins σ H s) (h : CE X.stack X.prog X.w H s Q u s') : EP X pins σ Q u s' := by
  obtain ⟨v, H', os, bare, un, hok, r, q⟩ := h
  obtain ⟨hh, g, d, t, os'⟩ := s'
  obtain rfl : os' = s.os := os
  exact ⟨v, H', I.call (h' := hh) (g' := g) (d' := d) (t' := t) (ch := []) un hok bare (fun b z => absurd z (by simp)), r, q⟩
end
def tCall (sp : Sp) (dvs : List V) (E : XK) (t : TA) : TE := fun σ H Q => t σ H fun vs H1 => sp (vs ++ dvs) H1 Q E
def tMeth (C : Addr) (m : Str) (sp : Sp) (dvs : List V) (E : XK) (ta : TE) (t : TA) : TE := fun σ H Q => ta σ H fun x H1 => ∃ a dx fs, x = .ref a ∧ H1 a = some (.ins C dx fs) ∧ fs.lookup m = none ∧
  t σ H1 fun vs H2 => sp (x :: (vs ++ dvs)) H2 Q E
def Binds (K : PySem.W.Frag) (fd : FuncData) (ps : List Str) (ds : List Value) : Prop :=
  ∀ (s : Shared) (us : List Value), K.In s.heap → (us ++ ds).length = ps.length → BindsTo s fd ⟨us, []⟩ (ps.zip (us ++ ds))
theorem Binds.all {K : PySem.W.Frag} {fd : FuncData} {ps : List Str} (h : ∀ us : List Value, us.length = ps.length → bindArgs fd ⟨us, []⟩ = pure (ps.zip us)) : Binds K fd ps [] := fun s us _ hl => by
  rw [List.append_nil] at hl ⊢
  exact .of_eq (h us hl)
def Passes (CX : CXT) (X : Cx) (E : XK) : Prop := ∀ (pins : List (Addr × Obj)) (σ : St) (H : Hp) (s : Shared) (e : Value) (s' : Shared), Inv X pins σ H s → CX X.stack H s E e s' → X.xe e s'
section
variable {X : Cx} {CX : CXT} {k : Nat} {f C : Addr} {fd : FuncData} {ps : List Str} {sp : Sp} {dvs : List V} {ds : List Value} {E : XK} {x m : Str} {p pos apos : Pos} {e o : Expr} {es : List Expr} {ta : TE} {t : TA}
theorem run_fn {pins : List (Addr × Obj)} {σ : St} {H : Hp} {s : Shared} {Q : VK} {us : List Value} {vs : List V} (F : FnOk X.prog X.w X.K X.mg X.base CX k f fd ps sp) (hr : Room k X.A) (hb : Binds X.K fd ps ds) (hd : Vals dvs ds) (hx : Passes CX X E)
    (I : Inv X pins σ H s) (r : Vals vs us) (h : sp (vs ++ dvs) H Q E) : wpAny (model X.prog X.w) X.A (call (.ref f) us) (EP X pins σ Q) X.xe s := by
  have r2 : Vals (vs ++ dvs) (us ++ ds) := r.append hd
  have hl : (us ++ ds).length = ps.length := by rw [← r2.length]; exact F.len _ _ _ _ h
  refine wpAny_call (codeAny_mono (F.run X.A X.stack s H ⟨us, []⟩ (us ++ ds) (vs ++ dvs) Q E hr I.env0 (hb s us I.kIn hl) r2 h) fun r s' hq => ?_)
  cases r with
  | error e => exact hx pins σ H s e s' I hq
  | ok fl =>
    cases fl with
    | ret u => exact I.after hq
    | next => exact False.elim hq
    | brk => exact False.elim hq
    | cont => exact False.elim hq
theorem pe_call (F : FnOk X.prog X.w X.K X.mg X.base CX k f fd ps sp) (hr : Room k X.A) (hg : Gl X x) (hm : X.mg x = some (.ref f)) (hk : PySem.W.keepIn X.K (.ref f) = true) (hb : Binds X.K fd ps ds) (hd : Vals dvs ds) (hx : Passes CX X E)
    (ha : PA X (e :: es) t) (hdb : (x == ("__debug__" : Str)) = false := by decide) (he : starEach (e :: es) X.env = (false, eval e X.env) :: starEach es X.env := by rfl) (hpl : (backTo pos (starEach es X.env)).any (·.1) = false := by rfl) :
    PE X (.Call (.Name x p) (e :: es) [] pos) (tCall sp dvs E t) := by
  intro pins s σ H Q I h
  refine wpAny_Call_Name_kw (ld_glob I hg hm ?_ hdb)
  refine PySem.W.callWith_K (h₀ := X.base) I.ok.mod.kin hk (thn (ha pos pins s σ H _ I h) fun us s1 ⟨vs, H1, I1, r, q⟩ => ⟨I1.kIn, ?_⟩) he hpl
  exact run_fn F hr hb hd hx I1 r q
theorem pe_meth {pl : Sem Bool} (he : PE X o ta) (c : Cls X.K C) (hm : Meth X.K C m f) (F : FnOk X.prog X.w X.K X.mg X.base CX k f fd ps sp) (hr : Room k X.A) (hb : Binds X.K fd ps ds) (hd : Vals dvs ds) (hx : Passes CX X E) (ha : PA X (e :: es) t)
    (hst : starEach (e :: es) X.env = (false, eval e X.env) :: starEach es X.env := by rfl) (hpl : (backTo pos (starEach es X.env)).any (·.1) = false := by rfl)
    (ht : eval (.Call (.Attribute o m apos) (e :: es) [] pos) X.env = (do
      let ov ← eval o X.env
      standAt apos.atName
      let (f, first) ← holding [ov] (getMethod ov m pl)
      callWith pos f first (backTo pos (starEach (e :: es) X.env)) (backToKw pos (keywordEach [] X.env))) := by rfl) :
    PE X (.Call (.Attribute o m apos) (e :: es) [] pos) (tMeth C m sp dvs E ta t) := by
  intro pins s σ H Q I h
  refine PySem.W.methodCall_KW (pl := pl) (thn (he pins s σ H _ I h) fun u s1 ⟨x, H1, I1, rx, a, dx, fs, ex, ea, l, q⟩ => ?_) ht
  subst ex
  obtain rfl : u = Value.ref a := rx
  refine getmeth_ok I1 ea c hm l ?_
  refine PySem.W.callWith_K (first := [.ref a]) (h₀ := X.base) I.ok.mod.kin hm.kp (thn (ha pos pins s1 σ H1 _ I1 q) fun us s2 ⟨vs, H2, I2, r, q2⟩ => ⟨I2.kIn, ?_⟩) hst hpl
  exact run_fn (us := .ref a :: us) (vs := .ref a :: vs) F hr hb hd hx I2 (.cons rfl r) q2
structure Mk (K : PySem.W.Frag) (C f : Addr) : Prop where
  makes : PySem.W.makesIn K C = true
  init : PySem.W.findIn K (.ref C) "__init__" = some (some (.ref f))
  fn : PySem.W.isFn K (.ref f) = true
  kp : PySem.W.keepIn K (.ref C) = true
end
section
variable {X : Cx} {CX : CXT} {k : Nat} {f C : Addr} {fd : FuncData} {ps ks : List Str} {sp : Sp} {E : XK} {x m : Str} {p pos apos kpos : Pos} {e o : Expr} {es : List Expr} {kws : List Keyword} {te ta : TE} {t tk : TA} {nm : Option Str}
variable {g : List Value → List Value → List Value} {gV : List V → List V → List V}
end
structure FnScope (N P : List Str) (sc : Scope) : Prop where
  kind : sc.kind = .function
  co : sc.isCoroutine = false
  gen : sc.isGenerator = false
  nd : N.Nodup
  pre : N.take P.length = P
  par : ∀ x ∈ P, sc.names.lookup x = some .local ∨ sc.names.lookup x = some .cell
  nofree : ∀ y ∈ sc.names, y.2 ≠ .free
theorem bindL_out {kindOf : Str → Option NameKind} {x : Str} : ∀ {binds : List (Str × Value)} {m : Str → Option Value}, (∀ v, (x, v) ∉ binds) → bindL kindOf binds m x = m x
  | [], _, _ => rfl
  | (n, v) :: r, m, h => by
    unfold bindL
    rw [bindL_out fun w hw => h w (List.mem_cons_of_mem _ hw)]
    split
    · have : x ≠ n := by rintro rfl; exact h v List.mem_cons_self
      simp [this]
    · rfl
theorem bindC_out {kindOf : Str → Option NameKind} {x : Str} : ∀ {binds : List (Str × Value)} {m : Str → Option Value}, (∀ v, (x, v) ∉ binds) → bindC kindOf binds m x = m x
  | [], _, _ => rfl
  | (n, v) :: r, m, h => by
    unfold bindC
    rw [bindC_out fun w hw => h w (List.mem_cons_of_mem _ hw)]
    split
    · rfl
    · have : x ≠ n := by rintro rfl; exact h v List.mem_cons_self
      simp [this]
theorem bindL_get {kindOf : Str → Option NameKind} {x : Str} {v : Value} : ∀ {P : List Str} {vs : List Value} {i : Nat} {m : Str → Option Value}, P.Nodup → P[i]? = some x → vs[i]? = some v → kindOf x = some .local →
    bindL kindOf (P.zip vs) m x = some v
  | [], _, _, _, _, h, _, _ => by simp at h
  | _ :: _, [], _, _, _, _, h, _ => by simp at h
  | p :: P, w :: vs, 0, m, nd, h1, h2, hk => by
    simp at h1 h2; subst h1; subst h2
    show bindL kindOf ((p, w) :: P.zip vs) m p = _
    unfold bindL
    rw [bindL_out fun v hv => (List.nodup_cons.mp nd).1 (List.of_mem_zip hv).1, if_pos hk]
    simp
  | p :: P, w :: vs, i + 1, m, nd, h1, h2, hk => by
    show bindL kindOf ((p, w) :: P.zip vs) m x = _
    unfold bindL
    exact bindL_get (i := i) (List.nodup_cons.mp nd).2 (by simpa using h1) (by simpa using h2) hk
theorem bindC_get {kindOf : Str → Option NameKind} {x : Str} {v : Value} : ∀ {P : List Str} {vs : List Value} {i : Nat} {m : Str → Option Value}, P.Nodup → P[i]? = some x → vs[i]? = some v → kindOf x ≠ some .local →
    bindC kindOf (P.zip vs) m x = some v
  | [], _, _, _, _, h, _, _ => by simp at h
  | _ :: _, [], _, _, _, _, h, _ => by simp at h
  | p :: P, w :: vs, 0, m, nd, h1, h2, hk => by
    simp at h1 h2; subst h1; subst h2
    show bindC kindOf ((p, w) :: P.zip vs) m p = _
    unfold bindC
    rw [bindC_out fun v hv => (List.nodup_cons.mp nd).1 (List.of_mem_zip hv).1, if_neg hk]
    simp
  | p :: P, w :: vs, i + 1, m, nd, h1, h2, hk => by
    show bindC kindOf ((p, w) :: P.zip vs) m x = _
    unfold bindC
    exact bindC_get (i := i) (List.nodup_cons.mp nd).2 (by simpa using h1) (by simpa using h2) hk
def start (N : List Str) (vs : List V) : St := vs.map some ++ List.replicate (N.length - vs.length) none
def cxOf (CX : CXT) (P : Program) (w : World) (K : PySem.W.Frag) (mg : Str → Option Value) (base : Heap) (N : List Str) (qual : Str) (scope : Scope) (f : Addr) (cd : Value) (A : Around) (outer : List Env) (s : Shared) (H : Hp) (E : XK) : Cx where
  prog := P
  w := w
  K := K
  mg := mg
  base := base
  A := A.deeper (envOfC qual scope s.heap.objs.size f cd)
  N := N
  s₀ := s
  H₀ := H
  env := envOfC qual scope s.heap.objs.size f cd
  outer := outer
  stack := envOfC qual scope s.heap.objs.size f cd :: outer
  ex := []
  calm := true
  fn := fun _ => true
  pn := []
  xe := fun e s' => wpAny (model P w) (A.deeper (envOfC qual scope s.heap.objs.size f cd)) («leaving» (envOfC qual scope s.heap.objs.size f cd) e) (fun _ s'' => CX outer H s E e s'') (fun e' s'' => CX outer H s E e' s'') s'
theorem cell_has {sc : Scope} {n : Nat} {x : Str} (h : sc.names.lookup x = some .cell) : ∃ c, (cellsFrom n sc.names []).lookup x = some c := by
  have q := PySem.W.cellsFrom_some sc.names n [] (.inl h)
  exact Option.isSome_iff_exists.mp q
theorem inv_start {CX : CXT} {P : Program} {w : World} {K : PySem.W.Frag} {mg : Str → Option Value} {base : Heap} {N ps : List Str} {qual : Str} {scope : Scope} {f : Addr} {cd : Value} {A : Around} {outer : List Env} {s s1 : Shared} {H : Hp} {E : XK} {us : List Value} {vs : List V}
    (S : FnScope N ps scope) (hd : A.handled = none) (e0 : Env0 P w K mg base A outer s H) (hl : vs.length = ps.length) (r : Vals vs us)
    (x : InCallC s s.heap.objs.size (bindL (envOfC qual scope s.heap.objs.size f cd).kindOf (ps.zip us) fun _ => none) (cellsFrom (s.heap.objs.size + 1) scope.names []) (bindC (envOfC qual scope s.heap.objs.size f cd).kindOf (ps.zip us) fun _ => none) s1) :
    Inv (cxOf CX P w K mg base N qual scope f cd A outer s H E) [] (start N vs) H s1 := by
  have hpl : ps.length ≤ N.length := by have := congrArg List.length S.pre; rw [List.length_take] at this; omega
  obtain ⟨h1, tk, rfl, hk⟩ := x.done
  have noA : ∀ b : Addr, b ∉ (cxOf CX P w K mg base N qual scope f cd A outer s H E).ex := fun b z => absurd (show b ∈ ([] : List Addr) from z) (by simp)
  refine ⟨⟨e0.mod, S.kind, rfl, rfl, Nat.le_refl _, fun y z c h1 h2 => ?_, fun y hy => ?_, fun y c _ h => ?_, fun _ => hd, Around.frames_deeper e0.frames, .inr ⟨rfl, rfl⟩, fun b z => absurd z (noA b), e0.bs, e0.bsz, fun b _ _ => noA b, fun b z => absurd z (noA b), e0.funs, e0.frf⟩,
    rfl, e0.bare, Un.kept hk, ⟨_, x.toInCall.ns, fun i y v h1 h2 h3 => ?_⟩, fun y c h => ⟨_, x.cell y c h⟩, e0.hok.fresh (Nat.le_refl _), fun y c h => ?_, fun p hp => absurd (show p ∈ ([] : List (Addr × Obj)) from hp) (by simp), e0.hok.kept hk, ?_⟩
  · exact name_of_addr x.apart (PySem.mem_of_lookup h1) (PySem.mem_of_lookup h2)
  · have hy : scope.names.lookup y = some .cell ∨ scope.names.lookup y = some .free := hy
    rcases hy with hy | hy
    · exact cell_has hy
    · exact absurd rfl (S.nofree _ (PySem.mem_of_lookup hy))
  · exact Nat.le_of_lt (x.above y c (PySem.mem_of_lookup h))
  · have hi : i < vs.length := by
      unfold start at h2
      by_cases hi : i < vs.length
      · exact hi
      · rw [List.getElem?_append_right (by simpa using hi)] at h2
        rw [List.getElem?_replicate] at h2
        split at h2 <;> cases h2
    have ha : vs[i]? = some v := by
      unfold start at h2
      rw [List.getElem?_append_left (by simpa using hi), List.getElem?_map] at h2
      cases e : vs[i]? with
      | none => rw [e] at h2; cases h2
      | some a => rw [e] at h2; cases h2; rfl
    obtain ⟨u, hu, rv⟩ := r.get ha
    have hp : ps[i]? = some y := by
      rw [← S.pre, List.getElem?_take_of_lt (by omega)]; exact h1
    have ndP : ps.Nodup := by rw [← S.pre]; exact S.nd.sublist (List.take_sublist _ _)
    refine ⟨u, rv, ?_⟩
    rcases S.par y (List.mem_of_getElem? hp) with k | k
    · exact .inl ⟨k, bindL_get ndP hp hu k⟩
    · obtain ⟨c, e⟩ := cell_has (n := s.heap.objs.size + 1) k
      refine .inr ⟨.inl k, c, e, ?_⟩
      have q := x.cell y c e
      rw [bindC_get ndP hp hu (by show scope.names.lookup y ≠ _; rw [k]; decide)] at q
      exact q
  · exact e0.hok.fresh (Nat.le_of_lt (x.above y c (PySem.mem_of_lookup h)))
  · unfold start
    show _ = N.length
    rw [List.length_append, List.length_map, List.length_replicate]
    omega
theorem fn_of {CX : CXT} {P : Program} {w : World} {K : PySem.W.Frag} {mg : Str → Option Value} {base : Heap} {k : Nat} {f : Addr} {name qual : Str} {params : Arguments} {body : List Stmt} {scope : Scope} {dV kV doc pm cdv ct oc : Value} {an od : Option Addr}
    {osl : Array (Option Value)} {N ps : List Str} {sp : Sp} (lk : K.lookup f = some ⟨oc, od, .func (PySem.W.fnOf name qual params body scope dV kV doc pm an cdv ct), osl⟩) (hcd : PySem.W.codeIn K cdv qual = true) (S : FnScope N ps scope)
    (len : ∀ vs H Q E, sp vs H Q E → vs.length = ps.length)
    (hbody : ∀ (A : Around) (outer : List Env) (s : Shared) (H : Hp) (vs : List V) (Q : VK) (E : XK), Room k (A.deeper (envOfC qual scope s.heap.objs.size f cdv)) → sp vs H Q E →
      ∃ t, PSs (cxOf CX P w K mg base N qual scope f cdv A outer s H E) body t ∧ t { nx := fun _ H' => Q .non H', rt := Q } (start N vs) H) :
    FnOk P w K mg base CX (k + 1) f (PySem.W.fnOf name qual params body scope dV kV doc pm an cdv ct) ps sp := by
  refine ⟨len, fun A outer s H args us vs Q E hr e0 hb r hsp => ?_⟩
  have hl := len _ _ _ _ hsp
  have KX : K.In s.heap := e0.mod.kin.keeps fun b o e => (e0.bs b o e).1
  have lim : s.heap.NoLimit := e0.mod.nolimit.keeps fun b o e => (e0.bs b o e).1
  have hkind : ∀ y ∈ ps.zip us, scope.names.lookup y.1 = some .local ∨ (scope.names.lookup y.1 = some .cell ∧ ((cellsFrom (s.heap.objs.size + 1) scope.names []).lookup y.1).isSome = true) := fun ⟨n, v⟩ hy => by
    rcases S.par n (List.of_mem_zip hy).1 with q | q
    · exact .inl q
    · exact .inr ⟨q, PySem.W.cellsFrom_some _ _ _ (.inl q)⟩
  refine codeAny_call_function hr.depth (KX _ _ lk) rfl S.co S.gen rfl (PySem.W.codeRec_of KX hcd) (hb _ _ _ _ ?_)
  refine wpAny_newFunctionEnv_cells S.kind hkind fun env he s1 x => ?_
  subst he
  refine ⟨lim.keeps x.toInCall.keep, codeAny_func ?_⟩
  obtain ⟨t, ht, hq⟩ := hbody A outer s H vs Q E (hr.deeper _) hsp
  have I : Inv (cxOf CX P w K mg base N qual scope f cdv A outer s H E) [] (start N vs) H s1 := inv_start S hr.hd e0 hl r x
  refine wpAny_mono (ht [] s1 (start N vs) H _ I hq) (fun fl s' hs => ?_) fun e s' hs => hs
  have fin : ∀ {σ' : St} {H' : Hp} {v : V} {u : Value}, Inv (cxOf CX P w K mg base N qual scope f cdv A outer s H E) [] σ' H' s' → RelV v u → Q v H' → CE outer P w H s Q u s' :=
    fun {σ' H' v u} J rv q => ⟨v, H', J.os, J.bare, J.base, J.hok, rv, q⟩
  cases fl with
  | ret u =>
    obtain ⟨v, σ', H', J, rv, q⟩ := hs
    exact fin J rv q
  | next =>
    obtain ⟨σ', H', J, q⟩ := hs
    exact fin (v := V.non) (u := Value.none) J rfl q
  | brk =>
    obtain ⟨_, _, _, q⟩ := hs
    exact False.elim q
  | cont =>
    obtain ⟨_, _, _, q⟩ := hs
    exact False.elim q
end L2
namespace L2
open PySem PySem.Spec PyProof.Rows
section
variable {X : Cx} {x : Str} {p pos : Pos} {e : Expr} {es : List Expr} {t : TA} {id T : String} {r : List V → Hp → VK → Prop}
def tCB (r : List V → Hp → VK → Prop) (t : TA) : TE := fun σ H Q => t σ H fun vs H1 => r vs H1 Q
theorem pe_callB (hc : CallR X (.builtin id) r) (hg : Gl X x) (hm : X.mg x = none) (hv : bootBuiltins x = some (.builtin id)) (ha : PA X (e :: es) t) (hn : x ≠ "__name__" := by decide) (hdb : (x == ("__debug__" : Str)) = false := by decide)
    (he : starEach (e :: es) X.env = (false, eval e X.env) :: starEach es X.env := by rfl) (hpl : (backTo pos (starEach es X.env)).any (·.1) = false := by rfl) : PE X (.Call (.Name x p) (e :: es) [] pos) (tCB r t) := by
  intro pins s σ H Q I h
  refine wpAny_Call_Name_kw (ld_blt I hg hm hv ?_ hn hdb)
  exact PyProof.Rows.callWith_builtin1 (thn (ha pos pins s σ H _ I h) fun us s1 ⟨vs, H1, I1, r1, q1⟩ => hc pins s1 σ H1 vs us Q I1 r1 q1) he hpl
theorem pe_callTy (hc : CallR X (.type T) r) (hg : Gl X x) (hm : X.mg x = none) (hv : bootBuiltins x = some (.type T)) (ha : PA X (e :: es) t) (hn : x ≠ "__name__" := by decide) (hdb : (x == ("__debug__" : Str)) = false := by decide)
    (he : starEach (e :: es) X.env = (false, eval e X.env) :: starEach es X.env := by rfl) (hpl : (backTo pos (starEach es X.env)).any (·.1) = false := by rfl) : PE X (.Call (.Name x p) (e :: es) [] pos) (tCB r t) := by
  intro pins s σ H Q I h
  refine wpAny_Call_Name_kw (ld_blt I hg hm hv ?_ hn hdb)
  exact PyProof.Rows.callWith_type1 (thn (ha pos pins s σ H _ I h) fun us s1 ⟨vs, H1, I1, r1, q1⟩ => hc pins s1 σ H1 vs us Q I1 r1 q1) he hpl
end
end L2
namespace HT
open PySem PyProof.Rows
section
open PySem.SeqAt
open PySem.AutoSeq1 (wpAny_loadPart')
open PySem.MeetsSeq PySem.MeetsSeq2 PySem.MeetsSeq3
end
section
variable {prog : Program} {w : World} {A : Around} {E : Value → Shared → Prop} {s : Shared}
theorem cat_tup {t b : Addr} {vs ws : List Value} {Q : Value → Shared → Prop} (ht : IsTup s.heap t vs.toArray) (hb : IsTup s.heap b ws.toArray) (hv : vs ≠ [])
    (h1 : ws = [] → Q (.ref t) s) (h2 : ws ≠ [] → Q (.ref s.heap.objs.size) { s with heap := s.heap.push { cls := .type "tuple", data := .seq (vs ++ ws).toArray } })
    (hsz : vs.length + ws.length ≤ sizeLine) : wpAny (model prog w) A (binaryOp .Add (.ref t) (.ref b)) Q E s := by
  obtain ⟨⟨cls, dd, data, sl⟩, ho, hc, n, hd⟩ := id ht
  obtain ⟨⟨cls2, dd2, data2, sl2⟩, ho2, hc2, n2, hd2⟩ := id hb
  simp only at hc hd hc2 hd2
  subst hc hd hc2 hd2
  have e : vs.toArray ++ ws.toArray = (vs ++ ws).toArray := by simp
  by_cases hw : ws = []
  · exact concat_meets ⟨_, ho, rfl⟩ ⟨_, ho2, rfl⟩ noFill_tuple_add seq_tuple_add PySem.F.slot_tuple_add PySem.F.entry_tuple_add (PySem.F.args_tuple_add_2 _ _)
      (tuple_addW1 t b vs.toArray ws.toArray n n2 dd dd2 sl sl2 (by simpa using hv) (by simp [hw])) ⟨ho, ho2, h1 hw⟩
  · refine concat_meets ⟨_, ho, rfl⟩ ⟨_, ho2, rfl⟩ noFill_tuple_add seq_tuple_add PySem.F.slot_tuple_add PySem.F.entry_tuple_add (PySem.F.args_tuple_add_2 _ _)
      (tuple_addW2 t b vs.toArray ws.toArray n n2 dd dd2 sl sl2 (by simpa using hv) (by simpa using hw) (by rw [List.size_toArray, List.size_toArray]; exact hsz)) ⟨ho, ho2, ?_⟩
    rw [e]
    exact h2 hw
def sIx (n d : Nat) : Option Int → Nat
  | none => d
  | some v => if v < 0 then (v + (n : Int)).toNat else min v.toNat n
theorem sIx_le (n d : Nat) (hd : d ≤ n) (o : Option Int) : sIx n d o ≤ n := by
  cases o with
  | none => exact hd
  | some v =>
    show (if v < 0 then (v + (n : Int)).toNat else min v.toNat n) ≤ n
    by_cases hv : v < 0
    · rw [if_pos hv]; omega
    · rw [if_neg hv]; exact Nat.min_le_right _ _
theorem clip_eq (v : Int) (n d : Nat) : (if v < 0 then max (v + (n : Int)) 0 else min v (n : Int)) = ((sIx n d (some v) : Nat) : Int) := by
  show (if v < 0 then max (v + (n : Int)) 0 else min v (n : Int)) = (((if v < 0 then (v + (n : Int)).toNat else min v.toNat n) : Nat) : Int)
  by_cases hv : v < 0
  · simp only [if_pos hv]; omega
  · simp only [if_neg hv]; omega
theorem adjust_gen (lo hi : Option Int) (n : Nat) : Builtin.Slice.sliceAdjust lo hi 1 (n : Int) = (((sIx n 0 lo : Nat) : Int), ((sIx n n hi : Nat) : Int)) := by
  have h1 : ¬ ((1 : Int) < 0) := by omega
  unfold Builtin.Slice.sliceAdjust
  simp only [h1, if_false]
  refine Prod.ext ?_ ?_
  · cases lo with
    | none => rfl
    | some v => exact clip_eq v n 0
  · cases hi with
    | none => rfl
    | some v => exact clip_eq v n n
theorem places_gen (i j : Nat) : Builtin.Slice.slicePlaces (i : Int) (j : Int) 1 = j - i := by
  unfold Builtin.Slice.slicePlaces
  have h1 : (1 : Int) > 0 := by omega
  simp only [h1, if_true, Int.ediv_one]
  split <;> omega
theorem slicePart_ {v : Value} {o : Option Int} {Q : Option Int → Shared → Prop} (p : IsPart v o) (h : Q o s) : wpAny (model prog w) A (Builtin.Slice.slicePartIndex v) Q E s := by
  cases p with
  | none => exact slicePart_none h
  | int i t => exact slicePart_int h
theorem sliceApplied_gen {sl : Addr} {vl vu : Value} {lo hi : Option Int} {n : Nat} {Q : Int × Int × Nat → Shared → Prop} (hs : s.heap.IsSliceOf sl vl vu .none) (pl : IsPart vl lo) (pu : IsPart vu hi)
    (h : Q (((sIx n 0 lo : Nat) : Int), 1, sIx n n hi - sIx n 0 lo) s) : wpAny (model prog w) A (Builtin.Slice.sliceApplied (.ref sl) (pure (n : Int))) Q E s := by
  obtain ⟨os, hos, hcs, hds⟩ := id hs
  unfold Builtin.Slice.sliceApplied Builtin.Slice.sliceFields
  refine wpAny_bind (wpAny_bind (wpAny_field hos hds (x := vl) rfl (wpAny_bind (wpAny_field hos hds (x := vu) rfl (wpAny_bind (wpAny_field hos hds (x := .none) rfl (wpAny_pure ?_)))))))
  refine wpAny_bind (slicePart_none ?_)
  show wpAny _ _ (if ((1 : Int) == 0) = true then _ else _) _ _ s
  rw [if_neg (by decide)]
  refine wpAny_bind (slicePart_ pl (wpAny_bind (slicePart_ pu (wpAny_bind (wpAny_pure ?_)))))
  show wpAny _ _ (match Builtin.Slice.sliceAdjust lo hi 1 (n : Int) with | (lo, hi) => pure (lo, (1 : Int), Builtin.Slice.slicePlaces lo hi 1)) _ _ s
  rw [adjust_gen lo hi n]
  show wpAny _ _ (pure (((sIx n 0 lo : Nat) : Int), (1 : Int), Builtin.Slice.slicePlaces ((sIx n 0 lo : Nat) : Int) ((sIx n n hi : Nat) : Int) 1)) _ _ s
  rw [places_gen]
  exact wpAny_pure h
theorem pick_gen (xs : Array Value) (i k : Nat) : ((List.range k).filterMap fun (m : Nat) => xs[((i : Int) + (m : Int) * 1).toNat]?).toArray = ((xs.toList.drop i).take k).toArray := by
  have e : (fun (m : Nat) => xs[((i : Int) + (m : Int) * 1).toNat]?) = fun m => xs[i + m]? := by
    funext m
    have : ((i : Int) + (m : Int) * 1).toNat = i + m := by omega
    rw [this]
  rw [e]
  have := pick_run xs i k
  rw [List.filterMap_map] at this
  have e2 : ((fun x => xs[x]?) ∘ fun x => i + x) = fun m => xs[i + m]? := rfl
  rw [e2] at this
  rw [this]
theorem getItem_tuple_cut {t sl : Addr} {items : Array Value} {vl vu : Value} {lo hi : Option Int} {Q : Value → Shared → Prop} (ht : IsTup s.heap t items) (hs : s.heap.IsSliceOf sl vl vu .none) (pl : IsPart vl lo) (pu : IsPart vu hi)
    (hw : ¬ (sIx items.size 0 lo = 0 ∧ sIx items.size items.size hi = items.size))
    (h : Q (.ref s.heap.objs.size) { s with heap := s.heap.push { cls := .type "tuple", data := .seq ((items.toList.drop (sIx items.size 0 lo)).take (sIx items.size items.size hi - sIx items.size 0 lo)).toArray } })
    (hsz : items.size ≤ sizeLine) : wpAny (model prog w) A (getItem (.ref t) (.ref sl)) Q E s := by
  have htake : sizeOk (.seq ((items.toList.drop (sIx items.size 0 lo)).take (sIx items.size items.size hi - sIx items.size 0 lo)).toArray) := by
    show ((items.toList.drop (sIx items.size 0 lo)).take (sIx items.size items.size hi - sIx items.size 0 lo)).toArray.size ≤ sizeLine
    rw [List.size_toArray, List.length_take, List.length_drop, Array.length_toList]
    omega
  have hj : sIx items.size items.size hi ≤ items.size := sIx_le _ _ (Nat.le_refl _) hi
  obtain ⟨os, hos, hcs, hds⟩ := id hs
  have hTs : s.TypeIs (.ref sl) "slice" := ⟨os, hos, hcs⟩
  unfold getItem
  try with_reducible refine wpAny_holding ?_
  first | refine wpAny_bind (wpAny_pure ?_) | skip
  refine wpAny_bind (wpAny_sequenceKey ht.typeIs (by decide) ?_)
  refine wpAny_bind (wpAny_callSpecial?_slot (name := Str.ofString "__getitem__") ht.typeIs PyProof.Rows.slot_tuple_getitem
    (wpAny_call_entry PyProof.Rows.slot_tuple_getitem ht.typeIs entry_tuple_getitem ?_ (args_tuple_getitem _ _)))
  show wpAny _ _ (Builtin.Tuple.tupleItemsOf (.ref t) >>= _) _ _ s
  refine wpAny_bind (tupleItemsOf_ ht ?_)
  refine wpAny_bind (wpAny_typeOf hTs ?_)
  rw [if_pos (by decide)]
  refine wpAny_bind (sliceApplied_gen hs pl pu ?_)
  have hno : ¬ ((((sIx items.size 0 lo : Nat) : Int) == 0 && (1 : Int) == 1 && (sIx items.size items.size hi - sIx items.size 0 lo) == items.size) = true) := by
    intro q
    rw [Bool.and_eq_true, Bool.and_eq_true] at q
    have q1 : ((sIx items.size 0 lo : Nat) : Int) = 0 := eq_of_beq q.1.1
    have q2 : sIx items.size items.size hi - sIx items.size 0 lo = items.size := eq_of_beq q.2
    exact hw ⟨by omega, by omega⟩
  show wpAny _ _ (if (((sIx items.size 0 lo : Nat) : Int) == 0 && (1 : Int) == 1 && (sIx items.size items.size hi - sIx items.size 0 lo) == items.size) = true then _ else _) _ _ s
  rw [if_neg hno, pick_gen]
  first
    | exact wpAny_bind (m := Builtin.Tuple.tupleExact _) (wpAny_newObj_type (wpAny_pure ⟨_, rfl, wpAny_pure h⟩) htake)
    | exact wpAny_bind (m := Builtin.Tuple.tupleExact _) (wpAny_newObj_type (wpAny_bind (wpAny_pure (wpAny_pure ⟨_, rfl, wpAny_pure h⟩))) htake)
    | exact wpAny_bind (wpAny_bind (m := Builtin.Tuple.tupleExact _) (wpAny_newObj_type (wpAny_pure (wpAny_pure ⟨_, rfl, wpAny_pure h⟩)) htake))
    | exact wpAny_bind (wpAny_bind (m := Builtin.Tuple.tupleExact _) (wpAny_newObj_type (wpAny_pure ⟨_, rfl, wpAny_pure h⟩) htake))
end
end HT
namespace L2
open PySem PySem.Spec PyProof.Rows
abbrev TO := St → Hp → (Option Int → Hp → Prop) → Prop
def PO (X : Cx) (e : Option Expr) (t : TO) : Prop :=
  ∀ (pins : List (Addr × Obj)) (s : Shared) (σ : St) (H : Hp) (Q : Option Int → Hp → Prop), Inv X pins σ H s → t σ H Q →
    wpAny (model X.prog X.w) X.A (evalPart e X.env) (fun u s' => ∃ o H', Inv X pins σ H' s' ∧ IsPart u o ∧ Q o H') X.xe s
def tNoPart : TO := fun _ H Q => Q none H
def tPart (t : TE) : TO := fun σ H Q => t σ H fun x H1 => ∃ i, x = .int i ∧ Q (some i) H1
section
variable {X : Cx} {e : Expr} {te : TE} {lo hi : Option Expr} {tl th : TO} {pos p2 : Pos}
theorem po_none : PO X none tNoPart := by
  intro pins s σ H Q I h
  rw [evalPart_none]
  exact wpAny_pure ⟨none, H, I, .none, h⟩
theorem po_some (h : PE X e te) : PO X (some e) (tPart te) := by
  intro pins s σ H Q I hw
  rw [evalPart_some]
  refine thn (h pins s σ H _ I hw) fun u s1 ⟨x, H1, I1, r1, q1⟩ => ?_
  obtain ⟨i, rfl, q⟩ := q1
  obtain ⟨t, rfl⟩ := r1
  exact ⟨some i, H1, I1, .int i t, q⟩
def SlR (X : Cx) (r : V → Option Int → Option Int → Hp → VK → Prop) : Prop :=
  ∀ (pins : List (Addr × Obj)) (s : Shared) (σ : St) (H : Hp) (x : V) (v vl vu : Value) (lo hi : Option Int) (sl : Addr) (Q : VK), Inv X pins σ H s → RelV x v → s.heap.IsSliceOf sl vl vu .none → IsPart vl lo → IsPart vu hi → r x lo hi H Q →
    ∃ T id, typeLookup (.type T) "__getitem__" = pure (some (.builtin id)) ∧ s.TypeIs v T ∧ wpAny (model X.prog X.w) X.A (getItem v (.ref sl)) (EP X pins σ Q) X.xe s
theorem SlR.or {r r' : V → Option Int → Option Int → Hp → VK → Prop} (h : SlR X r) (h' : SlR X r') : SlR X (fun x lo hi H Q => r x lo hi H Q ∨ r' x lo hi H Q) := by
  intro pins s σ H x v vl vu lo hi sl Q I rx hs pl pu q
  rcases q with q | q
  · exact h pins s σ H x v vl vu lo hi sl Q I rx hs pl pu q
  · exact h' pins s σ H x v vl vu lo hi sl Q I rx hs pl pu q
def tSl (r : V → Option Int → Option Int → Hp → VK → Prop) (te : TE) (tl th : TO) : TE := fun σ H Q => te σ H fun x H1 => tl σ H1 fun l H2 => th σ H2 fun u H3 => r x l u H3 Q
theorem pe_slice {r : V → Option Int → Option Int → Hp → VK → Prop} (hr : SlR X r) (he : PE X e te) (hl : PO X lo tl) (hu : PO X hi th) : PE X (.Subscript e (.Slice lo hi none p2) pos) (tSl r te tl th) := by
  intro pins s σ H Q I h
  refine Subscript_ (thn (he pins s σ H _ I h) fun v s1 ⟨x, H1, I1, r1, q1⟩ => ?_)
  refine wpAny_Slice (thn (hl pins s1 σ H1 _ I1 q1) fun vl s2 ⟨l, H2, I2, pl, q2⟩ => thn (hu pins s2 σ H2 _ I2 q2) fun vu s3 ⟨u, H3, I3, pu, q3⟩ => ?_)
  rw [evalPart_none]
  refine wpAny_pure ?_
  have I4 : Inv X pins σ H3 { s3 with heap := s3.heap.push { cls := .type "slice", data := .fields #[vl, vu, .none] } } := I3.kept (t' := s3.toks) fun b ob q => Heap.get?_push_of_some _ q
  obtain ⟨T, id, hT, ht, hg⟩ := hr pins { s3 with heap := s3.heap.push { cls := .type "slice", data := .fields #[vl, vu, .none] } } σ H3 x v vl vu l u s3.heap.objs.size Q I4 r1 (Heap.IsSliceOf.new ..) pl pu q3
  show wpAny (model X.prog X.w) X.A (subscriptTail e (.Slice lo hi none p2) v (.ref s3.heap.objs.size)) (EP X pins σ Q) X.xe { s3 with heap := s3.heap.push { cls := .type "slice", data := .fields #[vl, vu, .none] } }
  exact tail_any (ops := [.ref s3.heap.objs.size, v]) ht hT hg (by with_unfolding_all rfl)
def cutV (xs : List V) (lo hi : Option Int) : List V := (xs.drop (HT.sIx xs.length 0 lo)).take (HT.sIx xs.length xs.length hi - HT.sIx xs.length 0 lo)
theorem cutV_length (xs : List V) (lo hi : Option Int) : (cutV xs lo hi).length ≤ xs.length := by
  unfold cutV
  rw [List.length_take, List.length_drop]
  omega
def rSlT (K : PySem.W.Frag) : V → Option Int → Option Int → Hp → VK → Prop := fun x lo hi H Q => ∃ a xs, x = .ref a ∧ SqT K H a xs ∧
  ¬ (HT.sIx xs.length 0 lo = 0 ∧ HT.sIx xs.length xs.length hi = xs.length) ∧ ∀ p, H p = none → Q (.ref p) (upd H p (.tup (cutV xs lo hi)))
theorem sl_tup : SlR X (rSlT X.K) := by
  intro pins s σ H x v vl vu lo hi sl Q I rx hs pl pu h
  obtain ⟨a, xs, rfl, hx, hw, q⟩ := h
  cases rx
  obtain ⟨its, r, ht, hz⟩ := I.tuple hx
  have hlen : its.toArray.size = xs.length := by rw [List.size_toArray]; exact r.length.symm
  refine ⟨"tuple", _, PyProof.Rows.slot_tuple_getitem.lookup, ht.typeIs, ?_⟩
  refine HT.getItem_tuple_cut ht hs pl pu (by rw [hlen]; exact hw) ?_ (by rw [hlen]; exact hz)
  rw [hlen]
  refine ⟨.ref s.heap.objs.size, _, I.laid (t' := s.toks) (o := .tup (cutV xs lo hi)) (fun b ob q => Heap.get?_push_of_some _ q) (Nat.le_refl _) ?_, rfl, q _ (I.hok.fresh (Nat.le_refl _))⟩
  exact ⟨⟨Nat.le_trans (cutV_length xs lo hi) hz, NoD.new _ _ _⟩, _, (r.drop (HT.sIx xs.length 0 lo)).take (HT.sIx xs.length xs.length hi - HT.sIx xs.length 0 lo), IsTup.new _ _⟩
def rCatT (K : PySem.W.Frag) : R2 := fun x y H Q => ∃ a b xs ys, x = .ref a ∧ y = .ref b ∧ SqT K H a xs ∧ SqT K H b ys ∧ xs ≠ [] ∧ xs.length + ys.length ≤ sizeLine ∧
  (ys = [] → Q (.ref a) H) ∧ (ys ≠ [] → ∀ p, H p = none → Q (.ref p) (upd H p (.tup (xs ++ ys))))
theorem Vals.nil_iff {xs : List V} {us : List Value} (r : Vals xs us) : us = [] ↔ xs = [] := by
  cases r with
  | nil => simp
  | cons _ _ => simp
theorem op_catT : OpR X (binaryOp .Add) (rCatT X.K) := by
  intro pins s σ H x y v u Q I rx ry h
  obtain ⟨a, b, xs, ys, rfl, rfl, ha, hb, hx, hz, q1, q2⟩ := h
  cases rx
  cases ry
  obtain ⟨its, r1, p1, _⟩ := I.tuple ha
  obtain ⟨its2, r2, p2, _⟩ := I.tuple hb
  refine HT.cat_tup p1 p2 (fun z => hx (r1.nil_iff.mp z)) (fun z => ⟨.ref a, H, I, rfl, q1 (r2.nil_iff.mp z)⟩) (fun z => ?_) (by rw [← r1.length, ← r2.length]; exact hz)
  refine ⟨.ref s.heap.objs.size, _, I.laid (t' := s.toks) (o := .tup (xs ++ ys)) (fun b ob q => Heap.get?_push_of_some _ q) (Nat.le_refl _) ?_, rfl, q2 (fun w => z (r2.nil_iff.mpr w)) _ (I.hok.fresh (Nat.le_refl _))⟩
  exact ⟨⟨by rw [List.length_append]; exact hz, NoD.new _ _ _⟩, _, r1.append r2, IsTup.new _ _⟩
end
end L2
namespace L2
open PySem PySem.Spec PyProof.Rows
def ixN (n : Nat) (i : Int) : Option Nat := if 0 ≤ i then (if i < n then some i.toNat else none) else if -(n : Int) ≤ i then some (i + n).toNat else none
def atI {α : Type} (xs : List α) (i : Int) : Option α := (ixN xs.length i).bind fun j => xs[j]?
theorem ixN_seq {n : Nat} {i : Int} {j : Nat} (h : ixN n i = some j) : seqIndex? i n = some j ∧ j < n ∧ -(n : Int) ≤ i ∧ i < n := by
  unfold ixN at h
  by_cases h0 : 0 ≤ i
  · rw [if_pos h0] at h
    by_cases h1 : i < n
    · rw [if_pos h1] at h
      have e : i.toNat = j := Option.some.inj h
      exact ⟨by rw [seqIndex_of h0 h1, e], by omega, by omega, h1⟩
    · rw [if_neg h1] at h; cases h
  · rw [if_neg h0] at h
    by_cases h1 : -(n : Int) ≤ i
    · rw [if_pos h1] at h
      have e : (i + n).toNat = j := Option.some.inj h
      exact ⟨by rw [seqIndex_neg (by omega) h1, e], by omega, h1, by omega⟩
    · rw [if_neg h1] at h; cases h
theorem atI_get {α : Type} {xs : List α} {i : Int} {v : α} (h : atI xs i = some v) : ∃ j, seqIndex? i xs.length = some j ∧ xs[j]? = some v ∧ j < xs.length ∧ -(xs.length : Int) ≤ i ∧ i < xs.length := by
  unfold atI at h
  cases e : ixN xs.length i with
  | none => rw [e] at h; cases h
  | some j =>
    rw [e] at h
    obtain ⟨h1, h2, h3, h4⟩ := ixN_seq e
    exact ⟨j, h1, h, h2, h3, h4⟩
theorem atI_nat {α : Type} {xs : List α} {j : Nat} {v : α} (h : xs[j]? = some v) : atI xs (j : Int) = some v := by
  have hj : j < xs.length := (List.getElem?_eq_some_iff.mp h).1
  have e : ixN xs.length (j : Int) = some j := by
    unfold ixN
    rw [if_pos (by omega), if_pos (by omega)]; simp
  unfold atI; rw [e]; exact h
def PlainIx (b : Expr) : Prop := ∀ o i, subscripted b false o i = operate [o, i] (getItem o i)
def IxR (X : Cx) (r : R2) : Prop :=
  ∀ (value slice : Expr) (pins : List (Addr × Obj)) (s : Shared) (σ : St) (H : Hp) (x y : V) (v u : Value) (Q : VK), Inv X pins σ H s → RelV x v → RelV y u → r x y H Q →
    subscripted slice false v u = operate [v, u] (getItem v u) → wpAny (model X.prog X.w) X.A (subscriptTail value slice v u) (EP X pins σ Q) X.xe s
def MtR (X : Cx) (id : String) (r : V → List V → Hp → VK → Prop) : Prop :=
  ∀ (pins : List (Addr × Obj)) (s : Shared) (σ : St) (H : Hp) (x : V) (xs : List V) (v : Value) (us : List Value) (Q : VK), Inv X pins σ H s → RelV x v → Vals xs us → r x xs H Q →
    wpAny (model X.prog X.w) X.A (call (.builtin id) (v :: us)) (EP X pins σ Q) X.xe s
section
variable {X : Cx} {a b : Expr} {ta tb : TE} {pos : Pos}
theorem IxR.or {r r' : R2} (h : IxR X r) (h' : IxR X r') : IxR X (fun x y H Q => r x y H Q ∨ r' x y H Q) := by
  intro value slice pins s σ H x y v u Q I rx ry q hs
  rcases q with q | q
  · exact h value slice pins s σ H x y v u Q I rx ry q hs
  · exact h' value slice pins s σ H x y v u Q I rx ry q hs
theorem MtR.or {id : String} {r r' : V → List V → Hp → VK → Prop} (h : MtR X id r) (h' : MtR X id r') : MtR X id (fun x xs H Q => r x xs H Q ∨ r' x xs H Q) := by
  intro pins s σ H x xs v us Q I rx rs q
  rcases q with q | q
  · exact h pins s σ H x xs v us Q I rx rs q
  · exact h' pins s σ H x xs v us Q I rx rs q
theorem pe_ix {r : R2} (hr : IxR X r) (ha : PE X a ta) (hb : PE X b tb) (hs : PlainIx b) : PE X (.Subscript a b pos) (tOp r ta tb) := by
  intro pins s σ H Q I h
  exact Subscript_ (binT ha hb I h fun v u s2 x y H2 I2 rx ry q => hr a b pins s2 σ H2 x y v u Q I2 rx ry q (hs _ _))
def rIxL (K : PySem.W.Frag) : R2 := fun x y H Q => ∃ p xs i v, x = .ref p ∧ y = .int i ∧ SqL K H p xs ∧ atI xs i = some v ∧ Q v H
def rIxT (K : PySem.W.Frag) : R2 := fun x y H Q => ∃ p xs i v, x = .ref p ∧ y = .int i ∧ SqT K H p xs ∧ atI xs i = some v ∧ Q v H
def rIxS : R2 := fun x y H Q => ∃ z i c, x = .str z ∧ y = .int i ∧ z.length ≤ sizeLine ∧ atI z.cps.toList i = some c ∧ Q (.str ⟨#[c]⟩) H
theorem ix_list : IxR X (rIxL X.K) := by
  intro value slice pins s σ H x y v u Q I rx ry h hs
  obtain ⟨p, xs, i, z, rfl, rfl, hq, he, q⟩ := h
  cases rx
  obtain ⟨t, rfl⟩ := ry
  obtain ⟨its, r, pl, hz⟩ := I.list hq
  obtain ⟨j, h1, h2, h3, h4, h5⟩ := atI_get he
  obtain ⟨w, ew, rw'⟩ := r.get h2
  have hl := r.length
  have hn := line63
  have fin : EP X pins σ Q w s := ⟨z, H, I, rw', q⟩
  by_cases h0 : 0 ≤ i
  · have hj : i.toNat = j := by
      rw [seqIndex_of h0 h5] at h1
      exact Option.some.inj h1
    exact item_listR pl.isList h0 (by omega) (by rw [hj]; simpa using ew) fin hs
  · have hj : (i + (its.toArray.size : Int)).toNat = j := by
      rw [seqIndex_neg (by omega) h4] at h1
      rw [List.size_toArray, ← hl]
      exact Option.some.inj h1
    exact subscriptTail_builtinR (x := w) pl.isList.typeIs slot_list_getitem.lookup
      (wpAny_getItem_list_neg (Q := fun r s' => r = w ∧ EP X pins σ Q r s') pl.isList (by omega) (by rw [List.size_toArray] <;> omega) (by omega) (by rw [hj]; simpa using ew) ⟨rfl, fin⟩) hs
theorem ix_tup : IxR X (rIxT X.K) := by
  intro value slice pins s σ H x y v u Q I rx ry h hs
  obtain ⟨p, xs, i, z, rfl, rfl, hq, he, q⟩ := h
  cases rx
  obtain ⟨t, rfl⟩ := ry
  obtain ⟨its, r, pl, hz⟩ := I.tuple hq
  obtain ⟨j, h1, h2, h3, h4, h5⟩ := atI_get he
  obtain ⟨w, ew, rw'⟩ := r.get h2
  have hl := r.length
  have hn := line63
  have fin : EP X pins σ Q w s := ⟨z, H, I, rw', q⟩
  exact subscriptTail_builtinR (x := w) pl.typeIs slot_tuple_getitem.lookup
    (getItem_tuple (j := j) (Q := fun r s' => r = w ∧ EP X pins σ Q r s') pl (by omega) (by omega) (by rw [List.size_toArray, ← hl]; exact h1) (by simpa using ew) ⟨rfl, fin⟩) hs
theorem ix_str : IxR X rIxS := by
  intro value slice pins s σ H x y v u Q I rx ry h hs
  obtain ⟨z, i, c, rfl, rfl, hz, he, q⟩ := h
  obtain ⟨t, rfl⟩ := rx
  obtain ⟨t', rfl⟩ := ry
  obtain ⟨j, h1, h2, h3, h4, h5⟩ := atI_get he
  have hl : z.cps.toList.length = z.length := by simp [Str.length]
  rw [hl] at h1 h4 h5
  have hn := line63
  exact tail_any (typeIs_str s z t) slot_str_getitem.lookup (getItem_str (c := c) (by
    have e1 : decide (i < -(2 ^ 63 : Int)) = false := decide_eq_false (by omega)
    have e2 : decide (i ≥ 2 ^ 63) = false := decide_eq_false (by omega)
    rw [e1, e2, Bool.or_false]) (by rw [h1]; simpa using h2) ⟨.str ⟨#[c]⟩, H, I.tok _, ⟨_, rfl⟩, q⟩) hs
def rIx (K : PySem.W.Frag) : R2 := fun x y H Q => rIxL K x y H Q ∨ rIxT K x y H Q ∨ rIxS x y H Q
theorem ix_seq : IxR X (rIx X.K) := ix_list.or (ix_tup.or ix_str)
theorem mapSeq_set (its : List Value) (n j : Nat) (u : Value) : Obj.mapSeq (·.setIfInBounds j u) { cls := .type "list", data := .seq its.toArray n } = { cls := .type "list", data := .seq (its.set j u).toArray n } := by
  simp [Obj.mapSeq]
theorem Inv.lst {pins : List (Addr × Obj)} {σ : St} {H : Hp} {s : Shared} {p : Addr} {xs : List V} (I : Inv X pins σ H s) (h : H p = some (.lst xs)) :
    ∃ (its : List Value) (n : Nat), Vals xs its ∧ s.heap.get? p = some { cls := .type "list", data := .seq its.toArray n } ∧ xs.length ≤ sizeLine := by
  obtain ⟨z, its, n, r, e⟩ := I.hok p _ h
  exact ⟨its, n, r, e, z⟩
theorem Inv.lstUpd {pins : List (Addr × Obj)} {σ : St} {H : Hp} {s : Shared} {p : Addr} {xs ys : List V} {its its' : List Value} {n n' : Nat} {f : Obj → Obj} (I : Inv X pins σ H s) (h : H p = some (.lst xs))
    (ho : s.heap.get? p = some { cls := .type "list", data := .seq its.toArray n }) (hf : f { cls := .type "list", data := .seq its.toArray n } = { cls := .type "list", data := .seq its'.toArray n' }) (r : Vals ys its') (hz : ys.length ≤ sizeLine) (t : Nat) :
    Inv X pins σ (upd H p (.lst ys)) { s with heap := s.heap.update p f, toks := t } := by
  have e : (s.heap.update p f).get? p = some { cls := .type "list", data := .seq its'.toArray n' } := by
    rw [Heap.get?_update_self f ho (by rw [hf] <;> rfl), hf]
  refine I.write (x := p) (e := p) (by rw [h]; trivial) (.inl rfl) (fun b u hb q => (Heap.get?_update_other _ _ (Ne.symm hb)).trans q) ⟨_, e⟩ ?_
  exact ⟨hz, its', n', r, e⟩
def rSetL : V → V → V → Hp → (Hp → Prop) → Prop := fun o i v H Q => ∃ p xs k j, o = .ref p ∧ i = .int k ∧ H p = some (.lst xs) ∧ ixN xs.length k = some j ∧ Q (upd H p (.lst (xs.set j v)))
theorem set_list : PSet X rSetL := by
  intro pins s σ H o i v ov iv u Q I ro ri rv h
  obtain ⟨p, xs, k, j, rfl, rfl, hp, hj, q⟩ := h
  cases ro
  obtain ⟨t, rfl⟩ := ri
  obtain ⟨its, n, r, ho, hz⟩ := I.lst hp
  obtain ⟨h1, h2, h3, h4⟩ := ixN_seq hj
  have hl := r.length
  have hn := line63
  have I' : Inv X pins σ (upd H p (.lst (xs.set j v))) { s with heap := s.heap.update p (Obj.mapSeq (·.setIfInBounds j u)) } :=
    I.lstUpd hp ho (mapSeq_set its n j u) (r.set rv j) (by rw [List.length_set]; exact hz) s.toks
  by_cases h0 : 0 ≤ k
  · have hk : k.toNat = j := by
      rw [seqIndex_of h0 h4] at h1
      exact Option.some.inj h1
    exact PySem.W.ki_setAt ho h0 (by omega) (by rw [List.size_toArray, ← hl]; exact h4) (by rw [hk]; exact ⟨_, I', q⟩)
  · have hk : (k + (its.toArray.size : Int)).toNat = j := by
      rw [seqIndex_neg (by omega) h3] at h1
      rw [List.size_toArray, ← hl]
      exact Option.some.inj h1
    exact PySem.W.ki_setBack ho (by omega) (by rw [List.size_toArray, ← hl]; exact h3) (by omega) (by rw [hk]; exact ⟨_, I', q⟩)
theorem slice_bounds (lo hi : Option Int) (n : Nat) : (sliceBounds lo hi none n).1 = ((HT.sIx n 0 lo : Nat) : Int) ∧ (sliceBounds lo hi none n).2.1 = ((HT.sIx n n hi : Nat) : Int) ∧ (sliceBounds lo hi none n).2.2 = 1 := by
  refine ⟨?_, ?_, rfl⟩
  · cases lo with
    | none => simp [sliceBounds, HT.sIx]
    | some i =>
      simp only [sliceBounds, HT.sIx, Option.getD_none, show (1 : Int) > 0 by decide, if_true]
      by_cases h : i < 0
      · simp only [h, if_true] <;> omega
      · simp only [h, if_false] <;> omega
  · cases hi with
    | none => simp [sliceBounds, HT.sIx]
    | some i =>
      simp only [sliceBounds, HT.sIx, Option.getD_none, show (1 : Int) > 0 by decide, if_true]
      by_cases h : i < 0
      · simp only [h, if_true] <;> omega
      · simp only [h, if_false] <;> omega
theorem slicePick_cut (its : List Value) (lo hi : Option Int) : slicePick its.toArray lo hi none = ((its.drop (HT.sIx its.length 0 lo)).take (HT.sIx its.length its.length hi - HT.sIx its.length 0 lo)).toArray := by
  obtain ⟨h1, h2, h3⟩ := slice_bounds lo hi its.toArray.size
  unfold slicePick
  rw [h1, h2, h3]
  simp only [sliceRange_one, pick_run, List.size_toArray] <;> rfl
def rSlL (K : PySem.W.Frag) : V → Option Int → Option Int → Hp → VK → Prop := fun x lo hi H Q => ∃ a xs, x = .ref a ∧ SqL K H a xs ∧ ∀ p, H p = none → Q (.ref p) (upd H p (.lst (cutV xs lo hi)))
theorem sl_list : SlR X (rSlL X.K) := by
  intro pins s σ H x v vl vu lo hi sl Q I rx hs pl pu h
  obtain ⟨a, xs, rfl, hx, q⟩ := h
  cases rx
  obtain ⟨its, r, ht, hz⟩ := I.list hx
  have hlen := r.length
  refine ⟨"list", _, slot_list_getitem.lookup, ht.isList.typeIs, ?_⟩
  refine wpAny_getItem_list_slice ht.isList hs pl pu .none (by simp) ?_ (by rw [List.size_toArray] <;> omega)
  rw [slicePick_cut, ← hlen]
  refine ⟨.ref s.heap.objs.size, _, I.laid (t' := s.toks) (o := .lst (cutV xs lo hi)) (fun b ob q => Heap.get?_push_of_some _ q) (Nat.le_refl _) ?_, rfl, q _ (I.hok.fresh (Nat.le_refl _))⟩
  exact ⟨Nat.le_trans (cutV_length xs lo hi) hz, _, 0, (r.drop (HT.sIx xs.length 0 lo)).take (HT.sIx xs.length xs.length hi - HT.sIx xs.length 0 lo), Heap.get?_push_size _ rfl⟩
def flatV : V → Bool
  | .non => true
  | .bl _ => true
  | .int _ => true
  | .str _ => true
  | _ => false
def eqV : V → V → Bool
  | .non, .non => true
  | .bl a, .bl b => a == b
  | .bl a, .int b => (if a then 1 else 0) == b
  | .int a, .bl b => a == (if b then 1 else 0)
  | .int a, .int b => a == b
  | .str a, .str b => a == b
  | _, _ => false
theorem eqAt_V {A : Around} {s : Shared} {y x : V} {u v : Value} (ry : RelV y u) (rx : RelV x v) (fy : flatV y = true) (fx : flatV x = true) : SeqAt.EqAt A s u v (eqV y x) := by
  cases y with
  | non =>
    cases ry
    cases x with
    | non => cases rx; exact SeqAt.EqAt.same _
    | bl b => cases rx; exact SeqAt.EqAt.none_bool b
    | int b => obtain ⟨t, rfl⟩ := rx; exact SeqAt.EqAt.none_int b t
    | str b => obtain ⟨t, rfl⟩ := rx; exact SeqAt.EqAt.none_str b t
    | _ => exact absurd (show false = true from fx) Bool.false_ne_true
  | bl a =>
    cases ry
    cases x with
    | non => cases rx; exact SeqAt.EqAt.bool_none a
    | bl b => cases rx; exact SeqAt.EqAt.bool_bool a b
    | int b => obtain ⟨t, rfl⟩ := rx; exact SeqAt.EqAt.bool_int a b t
    | str b => obtain ⟨t, rfl⟩ := rx; exact SeqAt.EqAt.bool_str a b t
    | _ => exact absurd (show false = true from fx) Bool.false_ne_true
  | int a =>
    obtain ⟨t', rfl⟩ := ry
    cases x with
    | non => cases rx; exact SeqAt.EqAt.int_none a t'
    | bl b => cases rx; exact SeqAt.EqAt.int_bool a t' b
    | int b => obtain ⟨t, rfl⟩ := rx; exact SeqAt.EqAt.int_int a t' b t
    | str b => obtain ⟨t, rfl⟩ := rx; exact SeqAt.EqAt.int_str a t' b t
    | _ => exact absurd (show false = true from fx) Bool.false_ne_true
  | str a =>
    obtain ⟨t', rfl⟩ := ry
    cases x with
    | non => cases rx; exact SeqAt.EqAt.str_none a t'
    | bl b => cases rx; exact SeqAt.EqAt.str_bool a t' b
    | int b => obtain ⟨t, rfl⟩ := rx; exact SeqAt.EqAt.str_int a t' b t
    | str b => obtain ⟨t, rfl⟩ := rx; exact SeqAt.EqAt.str_str a t' b t
    | _ => exact absurd (show false = true from fx) Bool.false_ne_true
  | _ => exact absurd (show false = true from fy) Bool.false_ne_true
def eqU (x : V) (u : Value) : Bool := match u with
  | .none => eqV .non x
  | .bool b => eqV (.bl b) x
  | .int i _ => eqV (.int i) x
  | .str z _ => eqV (.str z) x
  | _ => false
theorem eqU_of {x y : V} {u : Value} (r : RelV y u) (f : flatV y = true) : eqU x u = eqV y x := by
  cases y with
  | non => cases r; rfl
  | bl b => cases r; rfl
  | int i => obtain ⟨t, rfl⟩ := r; rfl
  | str z => obtain ⟨t, rfl⟩ := r; rfl
  | _ => exact absurd (show false = true from f) Bool.false_ne_true
theorem any_eqU {x : V} : ∀ {xs : List V} {us : List Value}, Vals xs us → xs.all flatV = true → us.any (eqU x) = xs.any fun y => eqV y x
  | _, _, .nil, _ => rfl
  | y :: xs, u :: us, .cons r t, f => by
    rw [List.all_cons, Bool.and_eq_true] at f
    rw [List.any_cons, List.any_cons, eqU_of r f.1, any_eqU t f.2]
theorem mem_eqAt {A : Around} {s : Shared} {x : V} {v : Value} (rx : RelV x v) (fx : flatV x = true) : ∀ {xs : List V} {us : List Value}, Vals xs us → xs.all flatV = true → ∀ u ∈ us, SeqAt.EqAt A s u v (eqU x u)
  | _, _, .nil, _ => fun u hu => by cases hu
  | y :: xs, u :: us, .cons r t, f => fun u' hu => by
    rw [List.all_cons, Bool.and_eq_true] at f
    rcases List.mem_cons.mp hu with rfl | hu
    · rw [eqU_of r f.1]; exact eqAt_V r rx f.1 fx
    · exact mem_eqAt rx fx t f.2 u' hu
def inV (x : V) (xs : List V) : Bool := xs.any fun y => eqV y x
def rIn (K : PySem.W.Frag) (neg : Bool) : R2 := fun x y H Q => ∃ p xs, y = .ref p ∧ (SqL K H p xs ∨ SqT K H p xs) ∧ flatV x = true ∧ xs.all flatV = true ∧ Q (.bl (if neg then !inV x xs else inV x xs)) H
theorem op_in_seq : OpR X (compareOp .In) (rIn X.K false) := by
  intro pins s σ H x y v u Q I rx ry h
  obtain ⟨p, xs, rfl, hq, fx, fs, q⟩ := h
  cases ry
  rcases hq with hq | hq
  · obtain ⟨its, r, pl, hz⟩ := I.list hq
    refine SeqAt.in_listAt (eqU x) pl.isList (fun w hw => mem_eqAt rx fx r fs w (by simpa using hw)) ⟨.bl _, H, I, rfl, ?_⟩
    rw [show its.toArray.any (eqU x) = its.any (eqU x) by simp, any_eqU r fs]
    exact q
  · obtain ⟨its, r, pl, hz⟩ := I.tuple hq
    refine SeqAt.in_tupleAt (eqU x) pl (fun w hw => mem_eqAt rx fx r fs w (by simpa using hw)) ⟨.bl _, H, I, rfl, ?_⟩
    rw [show its.toArray.any (eqU x) = its.any (eqU x) by simp, any_eqU r fs]
    exact q
theorem call_len_seq : CallR X (.builtin "len") (fun xs H Q => ∃ p ys, xs = [.ref p] ∧ (SqL X.K H p ys ∨ SqT X.K H p ys) ∧ Q (.int ys.length) H) := by
  intro pins s σ H xs us Q I r h
  obtain ⟨p, ys, rfl, hq, q⟩ := h
  obtain ⟨u, rfl, rx⟩ := vals1 r
  cases rx
  have hn := line63
  rcases hq with hq | hq
  · obtain ⟨its, r', pl, hz⟩ := I.list hq
    have hlen := r'.length
    exact Calls.call_len_list pl.isList (by simp only [List.size_toArray] <;> omega) ⟨.int ys.length, H, I.tok _, ⟨s.toks + 1, by rw [List.size_toArray, hlen]⟩, q⟩
  · obtain ⟨its, r', pl, hz⟩ := I.tuple hq
    have hlen := r'.length
    exact len_tuple pl (by simp only [List.size_toArray] <;> omega) ⟨.int ys.length, H, I.tok _, ⟨s.toks + 1, by rw [List.size_toArray, hlen]⟩, q⟩
theorem call_len_str : CallR X (.builtin "len") (fun xs H Q => ∃ z, xs = [.str z] ∧ z.length ≤ sizeLine ∧ Q (.int z.length) H) := by
  intro pins s σ H xs us Q I r h
  obtain ⟨z, rfl, hz, q⟩ := h
  obtain ⟨u, rfl, t, rfl⟩ := vals1 r
  have hn := line63
  exact len_str (by omega) ⟨.int z.length, H, I.tok _, ⟨_, rfl⟩, q⟩
theorem CallR.or {f : Value} {r r' : List V → Hp → VK → Prop} (h : CallR X f r) (h' : CallR X f r') : CallR X f (fun xs H Q => r xs H Q ∨ r' xs H Q) := by
  intro pins s σ H xs us Q I rs q
  rcases q with q | q
  · exact h pins s σ H xs us Q I rs q
  · exact h' pins s σ H xs us Q I rs q
theorem call_tuple_of : CallR X (.type "tuple") (fun xs H Q => ∃ p ys, xs = [.ref p] ∧ ((SqL X.K H p ys ∧ ∀ l, H l = none → Q (.ref l) (upd H l (.tup ys))) ∨ (SqT X.K H p ys ∧ Q (.ref p) H))) := by
  intro pins s σ H xs us Q I r h
  obtain ⟨p, ys, rfl, h⟩ := h
  obtain ⟨u, rfl, rx⟩ := vals1 r
  cases rx
  rcases h with ⟨hq, q⟩ | ⟨hq, q⟩
  · obtain ⟨its, r', pl, hz⟩ := I.list hq
    have hlen := r'.length
    refine call_tuple_list pl.isList (fun h' kp => ?_) (by simp only [List.size_toArray] <;> omega)
    have I1 : Inv X pins σ H { s with heap := h' } := I.kept (t' := s.toks) kp
    have I2 : Inv X pins σ (upd H h'.objs.size (.tup ys)) { s with heap := h'.push { cls := .type "tuple", data := .seq its.toArray } } :=
      I1.laid (t' := s.toks) (fun b o e => Heap.get?_push_of_some _ e) (Nat.le_refl _) (show ObjOk X.prog X.w _ _ _ (.tup ys) from ⟨⟨hz, NoD.new _ _ _⟩, its, r', IsTup.new _ _⟩)
    exact ⟨.ref h'.objs.size, _, I2, rfl, q _ (I1.hok.fresh (Nat.le_refl _))⟩
  · obtain ⟨its, r', pl, hz⟩ := I.tuple hq
    exact call_tuple_same pl ⟨.ref p, H, I, rfl, q⟩
variable {o e : Expr} {es : List Expr} {to : TE} {t : TA} {name : Str} {apos cpos : Pos} {T id : String} {r : V → List V → Hp → VK → Prop}
end
end L2
namespace L2
open PySem PySem.Spec PyProof.Rows
def MtM (X : Cx) (id : String) (r : V → List V → Hp → VK → Prop) : Prop :=
  ∀ (pins : List (Addr × Obj)) (s : Shared) (σ : St) (H : Hp) (x : V) (xs : List V) (v : Value) (us : List Value) (Q : VK), Inv X pins σ H s → RelV x v → Vals xs us → r x xs H Q →
    wpAny (model X.prog X.w) X.A (call (.builtin id) (v :: us)) (EP X pins σ Q) X.xe s
theorem Vals.one : ∀ {x : V} {us : List Value}, Vals [x] us → ∃ u, us = [u] ∧ RelV x u
  | _, _, .cons r .nil => ⟨_, rfl, r⟩
theorem Vals.two : ∀ {x y : V} {us : List Value}, Vals [x, y] us → ∃ u v, us = [u, v] ∧ RelV x u ∧ RelV y v
  | _, _, _, .cons r (.cons q .nil) => ⟨_, _, rfl, r, q⟩
theorem Vals.zero : ∀ {us : List Value}, Vals [] us → us = []
  | _, .nil => rfl
theorem Vals.rep {xs : List V} {us : List Value} (h : Vals xs us) : ∀ k : Nat, Vals (List.replicate k xs).flatten (List.replicate k us).flatten
  | 0 => .nil
  | k + 1 => by
    rw [List.replicate_succ, List.replicate_succ, List.flatten_cons, List.flatten_cons]
    exact Vals.append h (Vals.rep h k)
section
variable {X : Cx} {pins : List (Addr × Obj)} {σ : St} {H : Hp} {s : Shared} {l b : Addr} {xs ys zs : List V}
theorem Inv.lset {its its' : List Value} {n : Nat} {f : Array Value → Array Value} {t' : Nat} (I : Inv X pins σ H s) (hH : H l = some (.lst xs))
    (e : s.heap.get? l = some { cls := .type "list", data := .seq its.toArray n }) (hf : f its.toArray = its'.toArray) (hv : Vals ys its') (hz : ys.length ≤ sizeLine) :
    Inv X pins σ (upd H l (.lst ys)) { s with heap := s.heap.update l (Obj.mapSeq f), toks := t' } := by
  have q := PySem.IsL.update e f
  rw [hf] at q
  refine I.write (x := l) (e := l) (by rw [hH]; exact trivial) (.inl rfl) (fun b' u hb hu => (Heap.get?_update_other s.heap (Obj.mapSeq f) (Ne.symm hb)).trans hu) ⟨_, q⟩ ?_
  exact ⟨hz, its', _, hv, q⟩
theorem Inv.fresh (I : Inv X pins σ H s) : H s.heap.objs.size = none := I.hok.fresh (Nat.le_refl _)
theorem Inv.lstM (I : Inv X pins σ H s) (hH : H l = some (.lst xs)) : xs.length ≤ sizeLine ∧ ∃ (its : List Value) (n : Nat), Vals xs its ∧ xs.length = its.length ∧ s.heap.get? l = some { cls := .type "list", data := .seq its.toArray n } := by
  obtain ⟨z, its, n, r, e⟩ := I.hok l _ hH
  exact ⟨z, its, n, r, r.length, e⟩
end
section
variable {X : Cx}
def rAppend : V → List V → Hp → VK → Prop := fun x vs H Q => ∃ l xs y, x = .ref l ∧ vs = [y] ∧ H l = some (.lst xs) ∧ xs.length < sizeLine ∧ Q .non (upd H l (.lst (xs ++ [y])))
theorem mt_append : MtM X "list.append" rAppend := by
  intro pins s σ H x vs v us Q I rx rv h
  obtain ⟨l, xs, y, rfl, rfl, hH, hz, q⟩ := h
  cases rx
  obtain ⟨u, rfl, ru⟩ := rv.one
  obtain ⟨z, its, n, r, hl, e⟩ := I.lstM hH
  refine call_meets F.slot_list_append ⟨_, e, rfl⟩ F.entry_list_append (F.args_list_append_2 _ _) (PySem.list_append l its.toArray n u (by rw [List.size_toArray]; omega)) ⟨e, ?_⟩
  refine ⟨.non, _, I.lset (its' := its ++ [u]) hH e (by simp) (r.append (.cons ru .nil)) ?_, rfl, q⟩
  rw [List.length_append, List.length_singleton]
  omega
end
section
variable {prog : Program} {w : World} {A : Around} {E : Value → Shared → Prop} {s : Shared}
end
section
variable {X : Cx}
end
end L2
namespace Att
open PySem PySem.W PySem.Calls PyProof.Rows
theorem ints_of_wellAll {P : Params} {h : Heap} : ∀ (ns : List Int) (vs : List Value), WellAll P h vs (ns.map WData.int) → IntsAre vs ns := by
  intro ns
  induction ns with
  | nil =>
    intro vs w
    rw [List.map_nil] at w
    cases w
    exact .nil
  | cons n ns ih =>
    intro vs w
    rw [List.map_cons] at w
    cases w with
    | cons a b =>
      cases a
      exact .cons _ _ (ih _ b)
theorem script_of {l : OpenLaw} {n : Nat} (hn : l.most = some n) {P : Params} {h : Heap} {args : List WData} {vals : List Value}
    (hpre : l.row.toRowW.claim.pre args = true) (hwl : WellAll P h vals args) :
    ∃ a vs ns, vals = [Value.ref a] ∧ args = [WData.list (ns.map WData.int)] ∧ h.get? a = some { cls := .type "list", data := .seq vs.toArray } ∧ IntsAre vs ns ∧ ns.length ≤ n := by
  have hsh : WShape.hasAll [] args [.list .int] = true := (pre_splitW hpre).1
  have hc : l.pre.holds [] { args := args } = true := (pre_splitW hpre).2
  obtain ⟨d, r, rfl, h1, h2⟩ := hasAllW_cons hsh
  obtain rfl := hasAllW_nil h2
  obtain ⟨xs, rfl, h3⟩ := hasW_list h1
  obtain ⟨ns, rfl⟩ := items_int h3
  have hlen : ns.length ≤ n := by
    unfold OpenLaw.pre at hc
    have h4 : (WTm.not (.lt (.lit (.int (n : Int))) (.len (.arg 0)))).holds [] { args := [.list (ns.map .int)] } = true := by
      have h4 := (holds_andW hc).1
      rw [hn] at h4
      exact h4
    have h5 := condW_of h4 (w_not (w_lt w_lit (w_len_list (w_arg rfl))))
    rw [List.length_map] at h5
    refine Nat.le_of_not_lt fun q => ?_
    have q' : (n : Int) < ((ns.length : Nat) : Int) := by omega
    first
      | (rw [decide_eq_true q'] at h5; exact absurd h5 (by decide))
      | (simp at h5; omega)
  cases hwl with
  | cons w1 w2 =>
    cases w2
    cases w1 with
    | list ho hall => exact ⟨_, _, ns, rfl, rfl, ho, ints_of_wellAll ns _ hall, hlen⟩
theorem post_true (l : OpenLaw) (args : List WData) : l.row.toRowW.claim.post args (.bool true) args = true :=
  postW_of (r := l.row.toRowW) (X := (true == true))
    (show WShape.has [] (.bool true) .bool = true by first | rfl | decide | simp [WShape.has, WShape.arms, WShape.armsAll])
    (show (WTm.eq .res (.lit (.bool true))).value [] { args := args, res := some (.bool true), after := args } = some (.bool (true == true)) from w_eq_bool (w_res rfl) w_lit) rfl
theorem attach_call {l : OpenLaw} {n : Nat} {q : Program} {loose : List Str} {XP : (Str → Option Value) → Heap → Prop} {YP : World → Heap → Prop} {d : DefRec}
    (hn : l.most = some n) (hdf : d.params.defaults = [])
    (call : ∀ (w : World) (s₀ s₁ : Shared) (mg mb : Str → Option Value) (fa : Addr) (o : Obj) (pm cd doc : Value) (a : Addr) (vs : List Value) (ns : List Int),
      Ground q loose [] XP w s₀ mg mb s₁.heap → YP w s₁.heap →
      s₁.heap.get? fa = some o → o.data = .func (docDef d.name d.params d.body d.scope pm cd doc) → s₁.heap.CodeRec cd d.name → mg d.name = some (.ref fa) →
      s₁.heap.get? a = some { cls := .type "list", data := .seq vs.toArray } → IntsAre vs ns → ns.length ≤ n → s₁.gens = #[] →
      codeAny (model l.prog w) callerA (.call (.ref fa) ⟨[.ref a], []⟩) (fun r s' => r = .ok (.ret (.bool true)) ∧ OldK s₁.heap s'.heap ∧ s'.os = s₁.os ∧ AllBare s'.gens) s₁) :
    WalkO q loose XP YP l.row.toRowW d [] (fun f vs => PySem.call f vs) := by
  intro w s₀ s₁ mg mb G Y fa o pm cd doc dV kV ho hd hcd hD hmg hg args vals as hpre hlay hrd hwl hlo
  obtain rfl : dV = .none := Dflts.none hD hdf
  obtain rfl : kV = .none := Dflts.noKw hD
  obtain ⟨a, vs, ns, rfl, rfl, hobj, hints, hlen⟩ := script_of hn hpre hwl
  refine enter_call (codeAny_mono (call w s₀ s₁ mg mb fa o pm cd doc a vs ns G Y ho (fd_plain hd) hcd hmg hobj hints hlen hg) fun r s' hq => ?_)
  obtain ⟨rfl, h2, h3, h4⟩ := hq
  exact ⟨.inl ⟨.bool true, .bool true, [], rfl, fun _ => rfl, .bool true, post_true l _, fun _ => ⟨List.Pairwise.nil, fun _ hm => (nomatch hm)⟩⟩, h2, h3, h4⟩
section
variable {prog : Program} {w : World} {A : Around} {E : Value → Shared → Prop} {s : Shared} {K : Frag}
end
end Att
namespace L2
open PySem PySem.Spec PyProof.Rows
theorem vals_ints : ∀ {vs : List Value} {ns : List Int}, IntsAre vs ns → Vals (ns.map V.int) vs
  | _, _, .nil => .nil
  | _, _, .cons n t h => .cons ⟨t, rfl⟩ (vals_ints h)
def Only (H : Hp) : Prop := ∀ b, H b = none ∨ ∃ o xs, H b = some (.frz o (.lst xs))
theorem law_call {P : Program} {w : World} {K : PySem.W.Frag} {mg mb : Str → Option Value} {CX : CXT} {k : Nat} {fa a : Addr} {fd : FuncData} {x : Str} {sp : Sp} {s₁ : Shared} {vs : List Value} {ns : List Int}
    (KX : K.In s₁.heap) (hns : s₁.heap.Ns mainGlobals mg) (hb : s₁.heap.Ns builtinsNs mb) (hbb : ∀ x : Str, x ≠ "__name__" → mb x = bootBuiltins x) (hlim : s₁.heap.NoLimit) (hg : s₁.gens = #[])
    (ha : s₁.heap.get? a = some { cls := .type "list", data := .seq vs.toArray }) (hi : IntsAre vs ns) (hl : ns.length ≤ sizeLine) (hr : Room k callerA)
    (F : ∀ base : Heap, K.In base → base.Ns mainGlobals mg → FnOk P w K mg base CX k fa fd [x] sp) (hbind : ∀ (s : Shared) (u : Value), BindsTo s fd ⟨[u], []⟩ [(x, u)])
    (hsp : ∀ H : Hp, Only H → SqL K H a (ns.map V.int) → sp [.ref a] H (fun v _ => v = .bl true) fun _ _ _ => False)
    (hCX : ∀ H e s', CX [] H s₁ (fun _ _ _ => False) e s' → False) :
    codeAny (model P w) callerA (.call (.ref fa) ⟨[.ref a], []⟩) (fun r s' => r = .ok (.ret (.bool true)) ∧ OldK s₁.heap s'.heap ∧ s'.os = s₁.os ∧ AllBare s'.gens) s₁ := by
  have rv := vals_ints hi
  have lenV := hi.length
  -- from an abstract heap in which nothing but the script may be tracked
  have core : ∀ H : Hp, Only H → SqL K H a (ns.map V.int) → HOk P w H s₁.heap → (∀ b, H b ≠ none → b = a) → (H a ≠ none → K.lookup a = none) →
      codeAny (model P w) callerA (.call (.ref fa) ⟨[.ref a], []⟩) (fun r s' => r = .ok (.ret (.bool true)) ∧ OldK s₁.heap s'.heap ∧ s'.os = s₁.os ∧ AllBare s'.gens) s₁ := by
    intro H hO hS hok hA hK
    have base_of : ∀ {b : Addr} {o : Obj}, s₁.heap.get? b = some o → H b = none → (hidT s₁.heap H).get? b = some o := fun e n => hidT_get e n
    have noA : ∀ {b : Addr} {o : Obj} {es : Array DictEntry} {ep : Nat}, s₁.heap.get? b = some o → o.data = .dict es ep → H b = none := fun {b o es ep} e d => by
      cases q : H b with
      | none => rfl
      | some u =>
        have e' : b = a := hA b (by rw [q]; simp)
        subst e'
        rw [ha] at e; cases e
        have d' : Data.seq vs.toArray _ = Data.dict es ep := d
        cases d'
    have nsK : ∀ {b : Addr} {m : Str → Option Value}, s₁.heap.Ns b m → (hidT s₁.heap H).Ns b m := fun {b m} ⟨o, es, ep, e, d, r⟩ => ⟨o, es, ep, base_of e (noA e d), d, r⟩
    have hKb : K.In (hidT s₁.heap H) := fun b o e => base_of (KX b o e) (by
      cases q : H b with
      | none => rfl
      | some u =>
        have e' : b = a := hA b (by rw [q]; simp)
        subst e'
        rw [hK (by rw [q]; simp)] at e; cases e)
    have hM : Mod K mg (hidT s₁.heap H) := ⟨hKb, nsK hns, ⟨mb, nsK hb, hbb⟩, let ⟨mc, h1, h2⟩ := hlim; ⟨mc, nsK h1, h2⟩⟩
    have e0 : Env0 P w K mg (hidT s₁.heap H) callerA [] s₁ H := ⟨rfl, hM, fun b o e => of_hidT e, Nat.le_of_eq (hidT_size _ _), trivial, fun b hb => absurd (show b ∈ ([] : List Addr) from hb) (by simp), hok, .of_eq hg⟩
    refine codeAny_mono ((F _ hKb (nsK hns)).run callerA [] s₁ H ⟨[.ref a], []⟩ [.ref a] [.ref a] _ _ hr e0 (hbind s₁ (.ref a)) (.cons rfl .nil) (hsp H hO hS)) fun r s' h => ?_
    cases r with
    | error e => exact (hCX H e s' h).elim
    | ok fl =>
      cases fl with
      | next => exact False.elim h
      | brk => exact False.elim h
      | cont => exact False.elim h
      | ret u =>
        obtain ⟨v, H', os, bare, un, hok', r', q⟩ := h
        have q' : v = .bl true := q
        subst q'
        obtain rfl : u = Value.bool true := r'
        refine ⟨rfl, OldK.of_keep fun b o e => ?_, os, bare⟩
        cases q : H b with
        | none => exact un.keep b o e q (by intro z; exact absurd (show b ∈ ([] : List Addr) from z) (by simp)) (by simp)
        | some u =>
          rcases hO b with z | ⟨ob, xs, z⟩
          · rw [q] at z; cases z
          · have z2 := un.frzs b ob _ z
            obtain ⟨e1, _⟩ := hok b _ z
            obtain ⟨e2, _⟩ := hok' b _ z2
            rw [e] at e1; cases e1
            exact e2
  cases hk : K.lookup a with
  | some o =>
    -- the script is one of the module's own objects
    have e := KX a o hk
    rw [ha] at e
    cases e
    refine core (fun _ => none) (fun _ => .inl rfl) (.inr ⟨_, vs.toArray, _, hk, rfl, rfl, rfl, by rw [List.size_toArray, lenV]; exact hl, by simpa using rv⟩) (fun b u z => by have z' : (none : Option HO) = some u := z; cases z') (fun b z => absurd rfl z) fun z => absurd rfl z
  | none =>
    refine core (fun b => if b = a then some (.frz { cls := .type "list", data := .seq vs.toArray } (.lst (ns.map V.int))) else none) (fun b => ?_) (.inl (.inr ⟨{ cls := .type "list", data := .seq vs.toArray }, if_pos rfl⟩)) (fun b u z => ?_) (fun b z => ?_) fun _ => hk
    · by_cases hb : b = a
      · exact .inr ⟨_, _, if_pos hb⟩
      · exact .inl (if_neg hb)
    · by_cases hb : b = a
      · have z' := (if_pos hb).symm.trans z
        cases z'
        subst hb
        exact ⟨ha, by rw [List.length_map]; exact hl, vs, _, rv, ha⟩
      · have z' := (if_neg hb).symm.trans z
        cases z'
    · by_cases hb : b = a
      · exact hb
      · exact absurd (if_neg hb) z
end L2
namespace L2
open PySem PySem.Spec PyProof.Rows
theorem walk_of {l : PySem.W.OpenLaw} {n k : Nat} {q : Program} {loose : List Str} {XP : (Str → Option Value) → Heap → Prop} {YP : World → Heap → Prop} {d : DefRec} {K : Params → PySem.W.Frag} {CX : World → CXT} {sp : World → Sp} {x : Str}
    (hn : l.most = some n) (hn2 : n ≤ sizeLine) (hdf : d.params.defaults = []) (hr : Room k callerA)
    (hY : ∀ (w : World) (h : Heap), YP w h → (K w.params).In h)
    (F : ∀ (w : World) (mg : Str → Option Value) (fa : Addr) (h : Heap), (K w.params).In h → h.Ns mainGlobals mg → mg d.name = some (.ref fa) →
      ∃ fd : FuncData, (∀ (s : Shared) (u : Value), BindsTo s fd ⟨[u], []⟩ [(x, u)]) ∧
        ∀ base : Heap, (K w.params).In base → base.Ns mainGlobals mg → FnOk l.prog w (K w.params) mg base (CX w) k fa fd [x] (sp w))
    (hsp : ∀ (w : World) (H : Hp) (a : Addr) (ns : List Int), ns.length ≤ n → Only H → SqL (K w.params) H a (ns.map V.int) → sp w [.ref a] H (fun v _ => v = .bl true) fun _ _ _ => False)
    (hCX : ∀ (w : World) (H : Hp) (s : Shared) (e : Value) (s' : Shared), CX w [] H s (fun _ _ _ => False) e s' → False) :
    PySem.W.WalkO q loose XP YP l.row.toRowW d [] (fun f vs => PySem.call f vs) := by
  refine Att.attach_call hn hdf fun w s₀ s₁ mg mb fa o pm cd doc a vs ns G Y ho hd hcd hmg hobj hints hlen hg => ?_
  have KX := hY w _ Y
  obtain ⟨fd, hb, hF⟩ := F w mg fa _ KX G.T.g hmg
  exact law_call KX G.T.g G.T.b G.T.builtins G.T.nolimit hg hobj hints (Nat.le_trans hlen hn2) hr hF hb (fun H hO hS => hsp w H a ns hlen hO hS) fun H e s' => hCX w H s₁ e s'
end L2
namespace L2
open PySem PySem.Spec PyProof.Rows
def inClass (s : Stmt) (j : Nat) : Stmt := match s with
  | .ClassDef _ _ _ body _ _ _ _ _ _ _ => body.getD j (.Pass ⟨0, 0, 0, 0⟩)
  | _ => .Pass ⟨0, 0, 0, 0⟩
def defArgs (s : Stmt) : Arguments := match s with
  | .FunctionDef _ a _ _ _ _ _ _ _ _ => a
  | _ => { posonlyargs := [], args := [], vararg := none, kwonlyargs := [], kw_defaults := [], kwarg := none, defaults := [] }
def defBody (s : Stmt) : List Stmt := match s with
  | .FunctionDef _ _ b _ _ _ _ _ _ _ => b
  | _ => []
def defScope (s : Stmt) : Scope := match s with
  | .FunctionDef _ _ _ _ _ _ sc _ _ _ => sc
  | _ => { kind := .function, names := [], isGenerator := false, isCoroutine := false }
abbrev CX0 : CXT := fun _ _ _ _ _ _ => False
abbrev E0 : XK := fun _ _ _ => False
theorem pass0 {X : Cx} : Passes CX0 X E0 := fun _ _ _ _ _ _ _ h => h.elim
structure Fun (K : PySem.W.Frag) (x qual : Str) (st : Stmt) (f : Addr) (fd : FuncData) : Prop where
  ex : ∃ (oc : Value) (od : Option Addr) (kV doc pm : Value) (an : Option Addr) (cdv ct : Value) (osl : Array (Option Value)),
    fd = PySem.W.fnOf x qual (defArgs st) (defBody st) (defScope st) .none kV doc pm an cdv ct ∧ K.lookup f = some ⟨oc, od, .func fd, osl⟩ ∧ PySem.W.codeIn K cdv qual = true
  kp : PySem.W.keepIn K (.ref f) = true
section
variable {P : Program} {w : World} {K : PySem.W.Frag} {mg : Str → Option Value} {base : Heap}
theorem Fun.ok {x qual : Str} {st : Stmt} {f : Addr} {fd : FuncData} {N ps : List Str} {k : Nat} {sp : Sp} (F : Fun K x qual st f fd) (S : FnScope N ps (defScope st)) (len : ∀ vs H Q E, sp vs H Q E → vs.length = ps.length)
    (hbody : ∀ (cdv : Value) (A : Around) (outer : List Env) (s : Shared) (H : Hp) (vs : List V) (Q : VK) (E : XK), Room k (A.deeper (envOfC qual (defScope st) s.heap.objs.size f cdv)) → sp vs H Q E →
      ∃ t, PSs (cxOf CX0 P w K mg base N qual (defScope st) f cdv A outer s H E).nox (defBody st) t ∧ t { nx := fun _ H' => Q .non H', rt := Q } (start N vs) H) : FnOk P w K mg base CX0 (k + 1) f fd ps sp := by
  obtain ⟨oc, od, kV, doc, pm, an, cdv, ct, osl, rfl, lk, hcd⟩ := F.ex
  refine fn_of lk hcd S len fun A outer s H vs Q E hr hsp => ?_
  obtain ⟨t, h, q⟩ := hbody cdv A outer s H vs Q E hr hsp
  exact ⟨t, h.nox, q⟩
theorem Fun.binds {x qual : Str} {st : Stmt} {f : Addr} {fd : FuncData} {ps : List Str} (F : Fun K x qual st f fd)
    (h : ∀ (kV doc pm : Value) (an : Option Addr) (cdv ct : Value) (us : List Value), us.length = ps.length → bindArgs (PySem.W.fnOf x qual (defArgs st) (defBody st) (defScope st) .none kV doc pm an cdv ct) ⟨us, []⟩ = pure (ps.zip us)) : Binds K fd ps [] := by
  obtain ⟨oc, od, kV, doc, pm, an, cdv, ct, osl, rfl, lk, hcd⟩ := F.ex
  exact .all (h kV doc pm an cdv ct)
theorem fun_mk {x qual : Str} {st : Stmt} {f : Addr} {oc : Value} {od an : Option Addr} {osl : Array (Option Value)} {kV doc pm cdv ct : Value} (l : K.lookup f = some ⟨oc, od, .func (PySem.W.fnOf x qual (defArgs st) (defBody st) (defScope st) .none kV doc pm an cdv ct), osl⟩)
    (c : PySem.W.codeIn K cdv qual = true) (k : PySem.W.keepIn K (.ref f) = true) : Fun K x qual st f (PySem.W.fnOf x qual (defArgs st) (defBody st) (defScope st) .none kV doc pm an cdv ct) := ⟨⟨oc, od, kV, doc, pm, an, cdv, ct, osl, rfl, l, c⟩, k⟩
end
section
variable {X : Cx}
end
theorem iteF {A B : Prop} (h : B) : if false = true then A else B := by
  rw [if_neg Bool.false_ne_true]
  exact h
theorem iteT {A B : Prop} (h : A) : if true = true then A else B := by
  rw [if_pos rfl]
  exact h
def Same (H H' : Hp) : Prop := ∀ b o, H b = some o → H' b = some o
theorem Same.refl (H : Hp) : Same H H := fun _ _ h => h
theorem Same.trans {H H1 H2 : Hp} (a : Same H H1) (b : Same H1 H2) : Same H H2 := fun c o h => b c o (a c o h)
theorem Same.free {H H' : Hp} (e : Same H H') {l : Addr} (h : H' l = Option.none) : H l = Option.none := by
  cases q : H l with
  | none => rfl
  | some o =>
    rw [e l o q] at h
    cases h
theorem Same.seq {K : PySem.W.Frag} {H H' : Hp} {a : Addr} {xs : List V} (e : Same H H') (h : SqL K H a xs) : SqL K H' a xs := by
  rcases h with (h | ⟨o, h⟩) | h
  · exact .inl (.inl (e _ _ h))
  · exact .inl (.inr ⟨o, e _ _ h⟩)
  · exact .inr h
end L2
set_option Elab.async false
set_option linter.all false
set_option maxRecDepth 100000
namespace L2
open PySem PySem.Spec PyProof.Rows
section
variable {κ : Type} [DecidableEq κ]
def valV (kvs : List (κ × V)) (k : κ) : Option V := (kvs.find? fun kv => decide (kv.1 = k)).map (·.2)
def putK (kvs : List (κ × V)) (k : κ) (v : V) : List (κ × V) :=
  if (kvs.any fun kv => decide (kv.1 = k)) = true then kvs.map (fun kv => if kv.1 = k then (kv.1, v) else kv) else kvs ++ [(k, v)]
def dropK (kvs : List (κ × V)) (k : κ) : List (κ × V) := kvs.filter fun kv => decide (kv.1 ≠ k)
theorem valV_pos {p : κ × V} {r : List (κ × V)} {k : κ} (e : p.1 = k) : valV (p :: r) k = some p.2 := by simp [valV, List.find?_cons, e]
theorem valV_neg {p : κ × V} {r : List (κ × V)} {k : κ} (e : ¬ p.1 = k) : valV (p :: r) k = valV r k := by simp [valV, List.find?_cons, e]
theorem valV_any (k : κ) : ∀ kvs : List (κ × V), (kvs.any fun kv => decide (kv.1 = k)) = (valV kvs k).isSome
  | [] => rfl
  | p :: r => by
    rw [List.any_cons]
    by_cases e : p.1 = k
    · simp only [valV_pos e, decide_eq_true e, Bool.true_or, Option.isSome_some]
    · rw [valV_neg e, decide_eq_false e, Bool.false_or]; exact valV_any k r
theorem length_putK (kvs : List (κ × V)) (k : κ) (v : V) : (putK kvs k v).length ≤ kvs.length + 1 := by
  unfold putK
  split
  · rw [List.length_map]; omega
  · rw [List.length_append, List.length_cons, List.length_nil]; omega
theorem RelO.isSome_eq {o : Option V} {u : Option Value} (r : RelO o u) : o.isSome = u.isSome := by
  cases o with
  | none => cases u with
    | none => rfl
    | some _ => exact (show False from r).elim
  | some _ => cases u with
    | none => exact (show False from r).elim
    | some _ => rfl
theorem RelO.getD {o : Option V} {u : Option Value} {d : V} {d' : Value} (r : RelO o u) (rd : RelV d d') : RelV (o.getD d) (u.getD d') := by
  cases o with
  | none => cases u with
    | none => exact rd
    | some _ => exact (show False from r).elim
  | some _ => cases u with
    | none => exact (show False from r).elim
    | some _ => exact r
theorem KV.val {kvs : List (κ × V)} {vs : List (κ × Value)} (r : KV kvs vs) (k : κ) : RelO (valV kvs k) (valueAt vs k) := by
  unfold KV at r
  induction r with
  | nil => exact True.intro
  | @cons p q ps qs h t ih =>
    obtain ⟨h1, h2⟩ := h
    by_cases e : p.1 = k
    · have e' : q.1 = k := h1.symm.trans e
      have b : valueAt (q :: qs) k = some q.2 := by simp [valueAt, List.find?_cons, e']
      rw [valV_pos e, b]; exact h2
    · have e' : ¬ q.1 = k := fun z => e (h1.trans z)
      have b : valueAt (q :: qs) k = valueAt qs k := by simp [valueAt, List.find?_cons, e']
      rw [valV_neg e, b]; exact ih
theorem KV.any {kvs : List (κ × V)} {vs : List (κ × Value)} (r : KV kvs vs) (k : κ) : (kvs.any fun kv => decide (kv.1 = k)) = vs.any fun kv => decide (kv.1 = k) := by
  unfold KV at r
  induction r with
  | nil => rfl
  | cons h t ih => rw [List.any_cons, List.any_cons, ih, h.1]
theorem KV.repl {kvs : List (κ × V)} {vs : List (κ × Value)} (r : KV kvs vs) (k : κ) {y : V} {u : Value} (ry : RelV y u) :
    KV (kvs.map fun kv => if kv.1 = k then (kv.1, y) else kv) (vs.map fun kv => if kv.1 = k then (kv.1, u) else kv) := by
  unfold KV at r ⊢
  induction r with
  | nil => exact .nil
  | @cons p q ps qs h t ih =>
    rw [List.map_cons, List.map_cons]
    refine .cons ?_ ih
    obtain ⟨h1, h2⟩ := h
    by_cases e : p.1 = k
    · rw [if_pos e, if_pos (h1.symm.trans e)]; exact ⟨h1, ry⟩
    · rw [if_neg e, if_neg (fun z => e (h1.trans z))]; exact ⟨h1, h2⟩
theorem KV.put {kvs : List (κ × V)} {vs : List (κ × Value)} (r : KV kvs vs) (k : κ) {y : V} {u : Value} (ry : RelV y u) : KV (putK kvs k y) (stored vs k u) := by
  unfold putK stored
  rw [r.any k]
  by_cases e : (vs.any fun kv => decide (kv.1 = k)) = true
  · rw [if_pos e, if_pos e]; exact r.repl k ry
  · rw [if_neg e, if_neg e]; exact Paired.snoc r ⟨rfl, ry⟩
theorem KV.drop {kvs : List (κ × V)} {vs : List (κ × Value)} (r : KV kvs vs) (k : κ) : KV (dropK kvs k) (without vs k) := by
  unfold KV at r ⊢
  unfold dropK without
  induction r with
  | nil => exact .nil
  | @cons p q ps qs h t ih =>
    obtain ⟨h1, h2⟩ := h
    rw [List.filter_cons, List.filter_cons]
    by_cases e : p.1 = k
    · have a : ¬ decide (p.1 ≠ k) = true := by simp [e]
      have b : ¬ decide (q.1 ≠ k) = true := by simp [h1.symm.trans e]
      rw [if_neg a, if_neg b]; exact ih
    · have e' : ¬ q.1 = k := fun z => e (h1.trans z)
      have a : decide (p.1 ≠ k) = true := by simp [e]
      have b : decide (q.1 ≠ k) = true := by simp [e']
      rw [if_pos a, if_pos b]; exact .cons ⟨h1, h2⟩ ih
theorem KV.keys {kvs : List (κ × V)} {vs : List (κ × Value)} (r : KV kvs vs) : kvs.map (·.1) = vs.map (·.1) := by
  unfold KV at r
  induction r with
  | nil => rfl
  | cons h t ih => rw [List.map_cons, List.map_cons, ih, h.1]
theorem KV.length {kvs : List (κ × V)} {vs : List (κ × Value)} (r : KV kvs vs) : kvs.length = vs.length := Paired.length r
end
theorem kV_is {P : Program} {w : World} {k : Key} {u : Value} (r : RelV (kV k) u) : (mixKind P w).is k u = true := by
  cases k with
  | inl i => obtain ⟨t, e⟩ := (show ∃ t, u = Value.int i t from r); subst e; exact mixKind_int P w i t
  | inr x => obtain ⟨t, e⟩ := (show ∃ t, u = Value.str x t from r); subst e; exact mixKind_str P w x t
theorem items_are {P : Program} {w : World} : ∀ {ks : List Key} {us : List Value}, Vals (ks.map kV) us → ItemsAre (mixKind P w) ks us
  | [], _, r => by rw [List.map_nil] at r; cases r; exact .nil
  | k :: ks, _, r => by
    rw [List.map_cons] at r
    cases r with
    | cons h t => exact .cons (kV_is h) (items_are t)
abbrev KT (H : Hp) : List (List Key × V) → List (List Key × Addr × Value) → Prop := Paired fun p q => p.1 = q.1 ∧ H q.2.1 = some (.tup (p.1.map kV)) ∧ RelV p.2 q.2.2
theorem KT.val {H : Hp} {kvs : List (List Key × V)} {xs : List (List Key × Addr × Value)} (r : KT H kvs xs) (k : List Key) : RelO (valV kvs k) ((atKey xs k).map (·.2)) := by
  induction r with
  | nil => exact True.intro
  | @cons p q ps qs h t ih =>
    obtain ⟨h1, _, h2⟩ := h
    by_cases e : p.1 = k
    · have e' : q.1 = k := h1.symm.trans e
      have b : atKey (q :: qs) k = some q.2 := by simp [atKey, List.find?_cons, e']
      rw [valV_pos e, b]; exact h2
    · have e' : ¬ q.1 = k := fun z => e (h1.trans z)
      have b : atKey (q :: qs) k = atKey qs k := by simp [atKey, List.find?_cons, e']
      rw [valV_neg e, b]; exact ih
theorem KT.repl {H : Hp} {kvs : List (List Key × V)} {xs : List (List Key × Addr × Value)} (r : KT H kvs xs) (k : List Key) {y : V} {u : Value} (ry : RelV y u) :
    KT H (kvs.map fun kv => if kv.1 = k then (kv.1, y) else kv) (xs.map (putAt k u)) := by
  induction r with
  | nil => exact .nil
  | @cons p q ps qs h t ih =>
    rw [List.map_cons, List.map_cons]
    refine .cons ?_ ih
    obtain ⟨h1, h2, h3⟩ := h
    unfold putAt
    by_cases e : p.1 = k
    · rw [if_pos e, if_pos (h1.symm.trans e)]; exact ⟨h1, h2, ry⟩
    · rw [if_neg e, if_neg (fun z => e (h1.trans z))]; exact ⟨h1, h2, h3⟩
theorem KT.put {H : Hp} {kvs : List (List Key × V)} {xs : List (List Key × Addr × Value)} (r : KT H kvs xs) (k : List Key) {b : Addr} {y : V} {u : Value} (hb : H b = some (.tup (k.map kV))) (ry : RelV y u) :
    KT H (putK kvs k y) (storedH xs k b u) := by
  have e : (kvs.any fun kv => decide (kv.1 = k)) = (atKey xs k).isSome := by
    rw [valV_any, (r.val k).isSome_eq, Option.isSome_map]
  unfold putK storedH
  rw [e]
  by_cases q : (atKey xs k).isSome = true
  · rw [if_pos q, if_pos q]; exact r.repl k ry
  · rw [if_neg q, if_neg q]; exact Paired.snoc r ⟨rfl, hb, ry⟩
theorem KT.keeps {H H' : Hp} {kvs : List (List Key × V)} {xs : List (List Key × Addr × Value)} (r : KT H kvs xs) (ht : ∀ b ys, H b = some (.tup ys) → H' b = some (.tup ys)) : KT H' kvs xs :=
  Paired.mapP r fun _ _ z => ⟨z.1, ht _ _ z.2.1, z.2.2⟩
section
variable {P : Program} {w : World} {H : Hp} {h : Heap} {a : Addr}
theorem rd_of {u : HO} (ok : HOk P w H h) (e : Rd H a u) : ObjOk P w H h a u := e.ok ok
theorem dk_rd {kvs : List (Key × V)} (ok : HOk P w H h) (e : Rd H a (.dK kvs)) : kvs.length ≤ sizeLine ∧ (a == sysModules) = false ∧ ∃ vs, KV kvs vs ∧ h.DictOf (mixKind P w) a vs :=
  show ObjOk P w H h a (.dK kvs) from rd_of ok e
theorem dk_of {kvs : List (Key × V)} (ok : HOk P w H h) (e : H a = some (.dK kvs)) : kvs.length ≤ sizeLine ∧ (a == sysModules) = false ∧ ∃ vs, KV kvs vs ∧ h.DictOf (mixKind P w) a vs := dk_rd ok (.inl e)
theorem key_of {ks : List Key} (ok : HOk P w H h) (e : H a = some (.tup (ks.map kV))) : (tupleKind (mixKind P w)).is h ks a := by
  obtain ⟨_, its, r, o, h1, h2, n, h3⟩ := (show ObjOk P w H h a (.tup (ks.map kV)) from ok a _ e)
  exact ⟨o, its.toArray, n, h1, h2, h3, by simpa using items_are r⟩
theorem dt_rd {kvs : List (List Key × V)} (ok : HOk P w H h) (e : Rd H a (.dT kvs)) : kvs.length ≤ sizeLine ∧ (a == sysModules) = false ∧
    ∃ xs, KT H kvs xs ∧ h.DictOfH (tupleKind (mixKind P w)) a xs := by
  obtain ⟨z, y, xs, r, o, es, ep, h1, h2, h3, h4, h5⟩ := (show ObjOk P w H h a (.dT kvs) from rd_of ok e)
  refine ⟨z, y, xs, r, o, es, ep, h1, h2, h3, h4, fun x hx => ?_, h5⟩
  have all : ∀ {l : List (List Key × V)} {m : List (List Key × Addr × Value)}, KT H l m → ∀ x ∈ m, (tupleKind (mixKind P w)).is h x.1 x.2.1 := by
    intro l m q
    induction q with
    | nil => intro x hx; exact nomatch hx
    | @cons p q ps qs hq t ih =>
      intro x hx
      rcases List.mem_cons.mp hx with e | hx
      · subst e
        exact key_of ok (by rw [← hq.1]; exact hq.2.1)
      · exact ih x hx
  exact all r x hx
theorem dt_of {kvs : List (List Key × V)} (ok : HOk P w H h) (e : H a = some (.dT kvs)) : kvs.length ≤ sizeLine ∧ (a == sysModules) = false ∧
    ∃ xs, KT H kvs xs ∧ h.DictOfH (tupleKind (mixKind P w)) a xs := dt_rd ok (.inl e)
end
def DGet (H : Hp) (a : Addr) (y : V) (r : Option V) : Prop :=
  (∃ kvs k, Rd H a (.dK kvs) ∧ y = kV k ∧ r = valV kvs k) ∨ ∃ kvs k b, Rd H a (.dT kvs) ∧ y = .ref b ∧ H b = some (.tup (k.map kV)) ∧ r = valV kvs k
def DPut (H : Hp) (a : Addr) (y v : V) (H' : Hp) : Prop :=
  (∃ kvs k, H a = some (.dK kvs) ∧ y = kV k ∧ kvs.length < sizeLine ∧ H' = upd H a (.dK (putK kvs k v))) ∨
  ∃ kvs k b, H a = some (.dT kvs) ∧ y = .ref b ∧ H b = some (.tup (k.map kV)) ∧ kvs.length < sizeLine ∧ H' = upd H a (.dT (putK kvs k v))
theorem DGet.k {H : Hp} {a : Addr} {kvs : List (Key × V)} {k : Key} (e : H a = some (.dK kvs)) : DGet H a (kV k) (valV kvs k) := .inl ⟨kvs, k, .inl e, rfl, rfl⟩
theorem DGet.t {H : Hp} {a b : Addr} {kvs : List (List Key × V)} {k : List Key} (e : H a = some (.dT kvs)) (eb : H b = some (.tup (k.map kV))) : DGet H a (.ref b) (valV kvs k) := .inr ⟨kvs, k, b, .inl e, rfl, eb, rfl⟩
theorem DPut.k {H : Hp} {a : Addr} {kvs : List (Key × V)} {k : Key} {v : V} (e : H a = some (.dK kvs)) (hl : kvs.length < sizeLine) : DPut H a (kV k) v (upd H a (.dK (putK kvs k v))) := .inl ⟨kvs, k, e, rfl, hl, rfl⟩
theorem DPut.t {H : Hp} {a b : Addr} {kvs : List (List Key × V)} {k : List Key} {v : V} (e : H a = some (.dT kvs)) (eb : H b = some (.tup (k.map kV))) (hl : kvs.length < sizeLine) :
    DPut H a (.ref b) v (upd H a (.dT (putK kvs k v))) := .inr ⟨kvs, k, b, e, rfl, eb, hl, rfl⟩
section
variable {X : Cx} {pins : List (Addr × Obj)} {σ : St} {H : Hp} {s : Shared} {a : Addr} {y v : V} {u r : Value} {o : Option V} {A : Around} {E : Value → Shared → Prop}
theorem Inv.big (I : Inv X pins σ H s) : sysModules < s.heap.objs.size := by
  have h : mainGlobals < s.heap.objs.size := (I.mod.glob.keeps I.bk).lt
  exact Nat.lt_trans (by decide) h
theorem d_in {Q : Value → Shared → Prop} (hu : A.units + 1 < cLine) (I : Inv X pins σ H s) (g : DGet H a y o) (ry : RelV y u) (h : ∀ s', Inv X pins σ H s' → Q (.bool o.isSome) s') :
    wpAny (model X.prog X.w) A (compareOp .In u (.ref a)) Q E s := by
  rcases g with ⟨kvs, k, e, ey, l⟩ | ⟨kvs, k, b, e, ey, eb, l⟩
  · subst ey
    obtain ⟨z, hd, vs, rel, dd⟩ := dk_rd I.hok e
    refine wpAny_in_of (kV_is ry) hd dd.mapOf ?_
    rw [← (rel.val k).isSome_eq, ← l]
    exact h _ (I.tok _)
  · subst ey
    cases (show u = Value.ref b from ry)
    obtain ⟨z, hd, xs, rel, dd⟩ := dt_rd I.hok e
    refine wpAny_in_heap (tupleKind_room_in1 hu) (key_of I.hok eb) hd dd ?_
    have q := (rel.val k).isSome_eq
    rw [Option.isSome_map] at q
    rw [← q, ← l]
    exact h _ (I.tok _)
theorem d_notIn {Q : Value → Shared → Prop} (hu : A.units + 1 < cLine) (I : Inv X pins σ H s) (g : DGet H a y o) (ry : RelV y u) (h : ∀ s', Inv X pins σ H s' → Q (.bool (!o.isSome)) s') :
    wpAny (model X.prog X.w) A (compareOp .NotIn u (.ref a)) Q E s := by
  rcases g with ⟨kvs, k, e, ey, l⟩ | ⟨kvs, k, b, e, ey, eb, l⟩
  · subst ey
    obtain ⟨z, hd, vs, rel, dd⟩ := dk_rd I.hok e
    refine wpAny_notIn_of (kV_is ry) hd dd.mapOf ?_
    rw [← (rel.val k).isSome_eq, ← l]
    exact h _ (I.tok _)
  · subst ey
    cases (show u = Value.ref b from ry)
    obtain ⟨z, hd, xs, rel, dd⟩ := dt_rd I.hok e
    refine wpAny_notIn_heap (tupleKind_room_in1 hu) (key_of I.hok eb) hd dd ?_
    have q := (rel.val k).isSome_eq
    rw [Option.isSome_map] at q
    rw [← q, ← l]
    exact h _ (I.tok _)
theorem d_write {h' : Heap} {t' : Nat} {ob : HO} (I : Inv X pins σ H s) (mu : Mut (H a)) (hs : Heap.SameBut a s.heap h') (he : ∃ q, h'.get? a = some q) (new : ObjOk X.prog X.w (upd H a ob) h' a ob) :
    Inv X pins σ (upd H a ob) { s with heap := h', toks := t' } :=
  I.write (x := a) (e := a) mu (.inl rfl) (fun b q hb z => (hs.2 b hb).trans z) he new
theorem dk_new {P : Program} {w : World} {H' : Hp} {h' : Heap} {kvs : List (Key × V)} {vs : List (Key × Value)} (z : kvs.length ≤ sizeLine) (hd : (a == sysModules) = false) (rel : KV kvs vs) (dd : h'.DictOf (mixKind P w) a vs) :
    ObjOk P w H' h' a (.dK kvs) := ⟨z, hd, vs, rel, dd⟩
theorem d_setItem {H' : Hp} {Q : Unit → Shared → Prop} (hu : A.units + 1 < cLine) (I : Inv X pins σ H s) (g : DPut H a y v H') (ry : RelV y u) (rv : RelV v r) (h : ∀ s', Inv X pins σ H' s' → Q () s') :
    wpAny (model X.prog X.w) A (setItem (.ref a) u r) Q E s := by
  rcases g with ⟨kvs, k, e, ey, l, eH⟩ | ⟨kvs, k, b, e, ey, eb, l, eH⟩
  · subst ey eH
    obtain ⟨z, hd, vs, rel, dd⟩ := dk_of I.hok e
    have hz : vs.length ≤ sizeLine := by rw [← rel.length]; exact z
    have hl : (putK kvs k v).length ≤ sizeLine := by have := length_putK kvs k v; omega
    refine wpAny_setItem_pairs (hsz := hz) (kV_is ry) dd fun h' dd' hs => h _ ?_
    have he : ∃ q, h'.get? a = some q := let ⟨q, _, _, hq, _⟩ := dd'; ⟨q, hq⟩
    exact d_write I (by rw [e]; exact True.intro) hs he (dk_new hl hd (rel.put k rv) dd')
  · subst ey eH
    cases (show u = Value.ref b from ry)
    obtain ⟨z, hd, xs, rel, dd⟩ := dt_of I.hok e
    have hz : xs.length ≤ sizeLine := by rw [← Paired.length rel]; exact z
    have hl : (putK kvs k v).length ≤ sizeLine := by have := length_putK kvs k v; omega
    refine wpAny_setItem_heap (hsz := hz) (tupleKind_room_in1 hu) (key_of I.hok eb) dd fun h' dd' hs => h _ ?_
    obtain ⟨q, es, ep, hq, h2, h3, h4, _, h5⟩ := dd'
    refine d_write I (by rw [e]; exact True.intro) hs ⟨q, hq⟩ ⟨hl, hd, _, (rel.put k eb rv).keeps fun c ys ec => ?_, q, es, ep, hq, h2, h3, h4, h5⟩
    rw [upd_ne (ne_of ec e (fun z => nomatch z))]
    exact ec
end
section
variable {X : Cx} {pins : List (Addr × Obj)} {σ : St} {H : Hp} {s : Shared} {a : Addr} {kvs : List (Key × V)} {k : Key} {u : Value} {A : Around} {E : Value → Shared → Prop}
theorem d_len {Q : Value → Shared → Prop} (I : Inv X pins σ H s) (e : Rd H a (.dK kvs)) (h : ∀ t s', Inv X pins σ H s' → Q (.int kvs.length t) s') : wpAny (model X.prog X.w) A (call (.builtin "len") [.ref a]) Q E s := by
  obtain ⟨z, hd, vs, rel, dd⟩ := dk_rd I.hok e
  refine call_len_dict hd dd (by rw [← rel.length]; rw [sizeLine_eq] at z; omega) ?_
  rw [← rel.length]
  exact h _ _ (I.tok _)
end
def NoSl (i : Expr) : Prop := ∀ ov iv, subscripted i false ov iv = operate [ov, iv] (getItem ov iv)
theorem subD_of {prog : Program} {w : World} {A : Around} {E : Value → Shared → Prop} {s : Shared} {env : Env} {value slice : Expr} {pos : Pos} {T id : String} {Q : Value → Shared → Prop}
    (hl : typeLookup (.type T) "__getitem__" = pure (some (.builtin id))) (hs : NoSl slice)
    (h : wpAny (model prog w) A (eval value env) (fun o s₁ => wpAny (model prog w) A (eval slice env) (fun i s₂ => s₂.TypeIs o T ∧ wpAny (model prog w) A (getItem o i) Q E s₂) E s₁) E s) :
    wpAny (model prog w) A (eval (.Subscript value slice pos) env) Q E s := by
  refine Subscript_ (wpAny_mono h (fun o s₁ h₁ => wpAny_mono h₁ (fun i s₂ h₂ => ?_) fun _ _ x => x) fun _ _ x => x)
  obtain ⟨hT, h₂⟩ := h₂
  unfold subscriptTail
  refine wpAny_bind ?_
  rw [getitemInPython_of_ne hT.not_modules]
  refine wpAny_bind (wpAny_specialOf hT hl ?_)
  have fin : wpAny (model prog w) A (subscripted slice false o i) (fun r s₃ => wpAny (model prog w) A (letTemporaryGo value o r >>= fun _ => pure r) Q E s₃) E s₂ := by
    rw [hs o i]
    exact wpAny_operating (wpAny_mono h₂ (fun r s₃ h₃ => wpAny_bind (wpAny_letTemporaryGo (wpAny_pure h₃))) fun _ _ x => x)
  first
    | exact wpAny_pure (wpAny_bind fin)
    | exact wpAny_bind (wpAny_pure (wpAny_bind fin))
    | exact wpAny_bind fin
def sDPut (td ty tv : TE) : TS := fun D σ H => tv σ H fun v H1 => td σ H1 fun x H2 => ty σ H2 fun y H3 => ∃ a H4, x = .ref a ∧ DPut H3 a y v H4 ∧ D.nx σ H4
section
variable {X : Cx} {o i e value : Expr} {pos pos' tpos : Pos} {td ty tv : TE}
theorem ps_dput (hu : X.A.units + 1 < cLine) (ho : PE X o td) (hi : PE X i ty) (hv : PE X value tv) (hs : swapsWith value (some (.Subscript o i pos')) pos.line X.env = pure false) :
    PS X (.Assign [.Subscript o i pos'] value pos) (sDPut td ty tv) := by
  intro pins s σ H D I h
  refine wpAny_Assign_Subscript (thn (hv pins s σ H _ I h) fun r s1 ⟨v, H1, I1, rv, q1⟩ => thn (ho pins s1 σ H1 _ I1 q1) fun u s2 ⟨x, H2, I2, rx, q2⟩ => thn (hi pins s2 σ H2 _ I2 q2) fun iv s3 ⟨y, H3, I3, ry, a, H4, ex, g, q3⟩ => ?_) hs
  subst ex
  obtain rfl : u = Value.ref a := rx
  exact d_setItem hu I3 g ry rv fun s4 I4 => ⟨σ, H4, I4, q3⟩
end
theorem dk_empty {P : Program} {w : World} {H : Hp} (h : Heap) (hb : sysModules < h.objs.size) : ObjOk P w H (h.push { cls := .type "dict", data := .dict #[] }) h.objs.size (.dK []) :=
  ⟨Nat.zero_le _, beq_eq_false_iff_ne.mpr (Ne.symm (Nat.ne_of_lt hb)), [], .nil, Heap.DictOf.new h⟩
section
variable {X : Cx} {pos : Pos}
end
section
variable {X : Cx} {pins : List (Addr × Obj)} {σ : St} {H : Hp} {s : Shared} {a : Addr} {y d : V} {u r : Value} {o : Option V} {A : Around} {E : Value → Shared → Prop}
end
section
variable {X : Cx} {o e f : Expr} {apos cpos : Pos} {td ty tx : TE}
end
section
variable {X : Cx} {pins : List (Addr × Obj)} {σ : St} {H : Hp} {s : Shared} {a : Addr} {kvs : List (Key × V)} {A : Around} {E : Value → Shared → Prop}
end
section
variable {X : Cx} {pins : List (Addr × Obj)} {σ : St} {H : Hp} {s : Shared} {a : Addr} {y : V} {u : Value} {A : Around} {E : Value → Shared → Prop}
end
end L2
set_option Elab.async false
set_option linter.all false
set_option maxRecDepth 100000
set_option maxHeartbeats 4000000
namespace DL
open PySem PySem.Spec PyProof.Rows L2
inductive D where
  | dat (p : PyData)
  | cel (a : Addr)
inductive Cel where
  | l (xs : List PyData)
  | d (kvs : List (Key × PyData))
  | t (kvs : List (List Key × PyData))
  | dl (kas : List (Key × Addr))
  | fd (kvs : List (Key × PyData))
  | ft (kvs : List (List Key × PyData))
  | n (kvs : List (List PyData × D))
  | g (kvs : List (Key × D))
  | o (N : Str) (fs : List (Str × D))
@[simp] def isF : Option Cel → Bool
  | some (.fd _) => true
  | some (.ft _) => true
  | _ => false
abbrev Mu := Addr → Option Cel
abbrev St2 := List (Option D)
mutual
def RP (K : PySem.W.Frag) (Z : Addr → Prop) (m : Mu) (H : Hp) : PyData → V → Prop
  | .none, v => v = .non
  | .bool b, v => v = .bl b
  | .int i, v => v = .int i
  | .str x, v => v = .str x
  | .tuple xs, v => ∃ a vs, v = .ref a ∧ SqT K H a vs ∧ RPs K Z m H xs vs
  | .list xs, v => ∃ a vs, v = .ref a ∧ (m a = none ∧ ¬ Z a) ∧ SqL K H a vs ∧ RPs K Z m H xs vs
  | .dict _, _ => False
def RPs (K : PySem.W.Frag) (Z : Addr → Prop) (m : Mu) (H : Hp) : List PyData → List V → Prop
  | [], vs => vs = []
  | x :: xs, vs => ∃ v r, vs = v :: r ∧ RP K Z m H x v ∧ RPs K Z m H xs r
end
def RD (K : PySem.W.Frag) (Z : Addr → Prop) (m : Mu) (H : Hp) : D → V → Prop
  | .dat p, v => RP K Z m H p v
  | .cel a, v => v = .ref a ∧ (m a).isSome = true
def RDs (K : PySem.W.Frag) (Z : Addr → Prop) (m : Mu) (H : Hp) : List D → List V → Prop
  | [], vs => vs = []
  | x :: xs, vs => ∃ v r, vs = v :: r ∧ RD K Z m H x v ∧ RDs K Z m H xs r
def RKV {κ : Type} (K : PySem.W.Frag) (Z : Addr → Prop) (m : Mu) (H : Hp) : List (κ × PyData) → List (κ × V) → Prop
  | [], vs => vs = []
  | (k, p) :: xs, vs => ∃ v r, vs = (k, v) :: r ∧ RP K Z m H p v ∧ RKV K Z m H xs r
def RW (K : PySem.W.Frag) (Z : Addr → Prop) (m : Mu) (H : Hp) : D → V → Prop
  | .dat p, v => RP K Z m H p v
  | .cel a, v => v = .ref a
def RKW {κ : Type} (K : PySem.W.Frag) (Z : Addr → Prop) (m : Mu) (H : Hp) : List (κ × D) → List (κ × V) → Prop
  | [], vs => vs = []
  | (k, p) :: xs, vs => ∃ v r, vs = (k, v) :: r ∧ RW K Z m H p v ∧ RKW K Z m H xs r
def RC (K : PySem.W.Frag) (Z : Addr → Prop) (m : Mu) (H : Hp) : Cel → HO → Prop
  | .l xs, .lst vs => RPs K Z m H xs vs
  | .d kvs, .dK vs => RKV K Z m H kvs vs
  | .t kvs, .dT vs => RKV K Z m H kvs vs
  | .dl kas, .dK vs => vs = kas.map fun x => (x.1, V.ref x.2)
  | .fd kvs, .frz _ (.dK vs) => RKV K Z m H kvs vs
  | .ft kvs, .frz _ (.dT vs) => RKV K Z m H kvs vs
  | .n kvs, .dN K' vs => K' = K ∧ RKW K Z m H kvs vs
  | .g kvs, .dK vs => RKW K Z m H kvs vs
  | .o N fs, .ins C _ vs => PySem.W.nsIn K mainGlobals N = some (some (.ref C)) ∧ RKW K Z m H fs vs
  | _, _ => False
structure Ok (K : PySem.W.Frag) (Z : Addr → Prop) (m : Mu) (H : Hp) : Prop where
  g : ∀ a c, m a = some c → ∃ o, H a = some o ∧ RC K Z m H c o
  z : ∀ a, Z a → m a = none ∧ H a ≠ none
structure Ext (K : PySem.W.Frag) (Z : Addr → Prop) (m : Mu) (H : Hp) (m' : Mu) (H' : Hp) : Prop where
  t : ∀ a vs, SqT K H a vs → SqT K H' a vs
  l : ∀ a vs, (m a = none ∧ ¬ Z a) → SqL K H a vs → m' a = none ∧ SqL K H' a vs
  z : ∀ a, Z a → H' a = H a
  c : ∀ a, (m a).isSome = true → (m' a).isSome = true
  fz : ∀ a o u, H a = some (.frz o u) → H' a = some (.frz o u)
  fm : ∀ a, isF (m a) = true → m' a = m a
section
variable {K : PySem.W.Frag} {Z : Addr → Prop} {m m' m2 : Mu} {H H' H2 : Hp}
theorem Ext.refl : Ext K Z m H m H := ⟨fun _ _ h => h, fun _ _ h1 h2 => ⟨h1.1, h2⟩, fun _ _ => rfl, fun _ h => h, fun _ _ _ h => h, fun _ _ => rfl⟩
theorem Ext.trans (a : Ext K Z m H m' H') (b : Ext K Z m' H' m2 H2) : Ext K Z m H m2 H2 :=
  ⟨fun x vs h => b.t x vs (a.t x vs h), fun x vs h1 h2 => let ⟨q1, q2⟩ := a.l x vs h1 h2; b.l x vs ⟨q1, h1.2⟩ q2, fun x h => (b.z x h).trans (a.z x h), fun x h => b.c x (a.c x h), fun x o u h => b.fz x o u (a.fz x o u h), fun x h => by
    have q := a.fm x h
    rw [b.fm x (by rw [q]; exact h), q]⟩
mutual
theorem RP.ext (e : Ext K Z m H m' H') : ∀ (p : PyData) (v : V), RP K Z m H p v → RP K Z m' H' p v
  | .none, v, h => by simpa only [RP] using h
  | .bool _, v, h => by simpa only [RP] using h
  | .int _, v, h => by simpa only [RP] using h
  | .str _, v, h => by simpa only [RP] using h
  | .tuple xs, v, h => by
    simp only [RP] at h ⊢
    obtain ⟨a, vs, h1, h2, h3⟩ := h
    exact ⟨a, vs, h1, e.t a vs h2, RPs.ext e xs vs h3⟩
  | .list xs, v, h => by
    simp only [RP] at h ⊢
    obtain ⟨a, vs, h1, h2, h3, h4⟩ := h
    obtain ⟨q1, q2⟩ := e.l a vs h2 h3
    exact ⟨a, vs, h1, ⟨q1, h2.2⟩, q2, RPs.ext e xs vs h4⟩
  | .dict _, v, h => by simp only [RP] at h
theorem RPs.ext (e : Ext K Z m H m' H') : ∀ (xs : List PyData) (vs : List V), RPs K Z m H xs vs → RPs K Z m' H' xs vs
  | [], vs, h => by simpa only [RPs] using h
  | x :: xs, vs, h => by
    simp only [RPs] at h ⊢
    obtain ⟨v, r, h1, h2, h3⟩ := h
    exact ⟨v, r, h1, RP.ext e x v h2, RPs.ext e xs r h3⟩
end
theorem RD.ext (e : Ext K Z m H m' H') {d : D} {v : V} (h : RD K Z m H d v) : RD K Z m' H' d v := by
  cases d with
  | dat p => exact RP.ext e p v h
  | cel a => exact ⟨h.1, e.c a h.2⟩
theorem RDs.ext (e : Ext K Z m H m' H') : ∀ {xs : List D} {vs : List V}, RDs K Z m H xs vs → RDs K Z m' H' xs vs
  | [], _, h => h
  | _ :: _, _, ⟨v, r, h1, h2, h3⟩ => ⟨v, r, h1, h2.ext e, RDs.ext e h3⟩
theorem RKV.lift {κ : Type} {Z' : Addr → Prop} (tr : ∀ p v, RP K Z m H p v → RP K Z' m' H' p v) : ∀ {xs : List (κ × PyData)} {vs : List (κ × V)}, RKV K Z m H xs vs → RKV K Z' m' H' xs vs
  | [], _, h => h
  | _ :: _, _, ⟨v, r, h1, h2, h3⟩ => ⟨v, r, h1, tr _ _ h2, RKV.lift tr h3⟩
theorem RKW.lift {κ : Type} {Z' : Addr → Prop} (tr : ∀ p v, RP K Z m H p v → RP K Z' m' H' p v) : ∀ {xs : List (κ × D)} {vs : List (κ × V)}, RKW K Z m H xs vs → RKW K Z' m' H' xs vs
  | [], _, h => h
  | (_, .dat _) :: _, _, ⟨v, r, h1, h2, h3⟩ => ⟨v, r, h1, tr _ _ h2, RKW.lift tr h3⟩
  | (_, .cel _) :: _, _, ⟨v, r, h1, h2, h3⟩ => ⟨v, r, h1, h2, RKW.lift tr h3⟩
theorem RPs.lift {Z' : Addr → Prop} (tr : ∀ p v, RP K Z m H p v → RP K Z' m' H' p v) : ∀ {ps : List PyData} {vs : List V}, RPs K Z m H ps vs → RPs K Z' m' H' ps vs
  | [], _, h => by simpa only [RPs] using h
  | _ :: _, _, h => by
    simp only [RPs] at h ⊢
    obtain ⟨v, r, h1, h2, h3⟩ := h
    exact ⟨v, r, h1, tr _ _ h2, RPs.lift tr h3⟩
theorem RC.lift {Z' : Addr → Prop} {c : Cel} {o : HO} (tr : ∀ p v, RP K Z m H p v → RP K Z' m' H' p v) (h : RC K Z m H c o) : RC K Z' m' H' c o := by
  cases c <;> cases o <;> first | exact RPs.lift tr h | exact RKV.lift tr h | exact RKW.lift tr h | exact ⟨h.1, RKW.lift tr h.2⟩ | exact h | (rename_i ob u; cases u <;> first | exact RKV.lift tr h | exact h)
theorem RC.ext {c : Cel} {o : HO} (e : Ext K Z m H m' H') (h : RC K Z m H c o) : RC K Z m' H' c o := h.lift fun p v q => RP.ext e p v q
theorem RC.mut {c : Cel} {o : HO} (h : RC K Z m H c o) (nf : isF (some c) = false) : (∀ xs, o ≠ .tup xs) ∧ (∀ a b, o ≠ .frz a b) := by
  cases c with
  | fd _ => cases nf
  | ft _ => cases nf
  | dl _ => cases o <;> first | exact h.elim | exact ⟨fun _ e => (nomatch e), fun _ _ e => (nomatch e)⟩
  | l _ => cases o <;> first | exact h.elim | exact ⟨fun _ e => (nomatch e), fun _ _ e => (nomatch e)⟩
  | d _ => cases o <;> first | exact h.elim | exact ⟨fun _ e => (nomatch e), fun _ _ e => (nomatch e)⟩
  | n _ => cases o <;> first | exact h.elim | exact ⟨fun _ e => (nomatch e), fun _ _ e => (nomatch e)⟩
  | g _ => cases o <;> first | exact h.elim | exact ⟨fun _ e => (nomatch e), fun _ _ e => (nomatch e)⟩
  | o _ _ => cases o <;> first | exact h.elim | exact ⟨fun _ e => (nomatch e), fun _ _ e => (nomatch e)⟩
  | t _ => cases o <;> first | exact h.elim | exact ⟨fun _ e => (nomatch e), fun _ _ e => (nomatch e)⟩
theorem Ok.l {a : Addr} {xs : List PyData} (ok : Ok K Z m H) (h : m a = some (.l xs)) : ∃ vs, H a = some (.lst vs) ∧ RPs K Z m H xs vs := by
  obtain ⟨o, h1, h2⟩ := ok.g a _ h
  cases o <;> first | exact ⟨_, h1, h2⟩ | exact h2.elim
theorem Ok.d {a : Addr} {xs : List (Key × PyData)} (ok : Ok K Z m H) (h : m a = some (.d xs)) : ∃ vs, H a = some (.dK vs) ∧ RKV K Z m H xs vs := by
  obtain ⟨o, h1, h2⟩ := ok.g a _ h
  cases o <;> first | exact ⟨_, h1, h2⟩ | exact h2.elim
theorem Ok.t {a : Addr} {xs : List (List Key × PyData)} (ok : Ok K Z m H) (h : m a = some (.t xs)) : ∃ vs, H a = some (.dT vs) ∧ RKV K Z m H xs vs := by
  obtain ⟨o, h1, h2⟩ := ok.g a _ h
  cases o <;> first | exact ⟨_, h1, h2⟩ | exact h2.elim
theorem RPs.length : ∀ {xs : List PyData} {vs : List V}, RPs K Z m H xs vs → vs.length = xs.length
  | [], _, h => by simp only [RPs] at h; subst h; rfl
  | _ :: xs, _, h => by
    simp only [RPs] at h
    obtain ⟨v, r, h1, _, h3⟩ := h
    subst h1
    rw [List.length_cons, List.length_cons, RPs.length h3]
theorem RDs.length : ∀ {xs : List D} {vs : List V}, RDs K Z m H xs vs → vs.length = xs.length
  | [], _, h => by cases (show _ = [] from h); rfl
  | _ :: xs, _, ⟨v, r, h1, _, h3⟩ => by
    subst h1
    rw [List.length_cons, List.length_cons, RDs.length h3]
theorem RPs.get : ∀ {xs : List PyData} {vs : List V} {i : Nat} {p : PyData}, RPs K Z m H xs vs → xs[i]? = some p → ∃ v, vs[i]? = some v ∧ RP K Z m H p v
  | [], _, _, _, _, e => by simp at e
  | x :: xs, _, 0, p, h, e => by
    simp only [RPs] at h
    obtain ⟨v, r, h1, h2, _⟩ := h
    simp at e
    subst h1 e
    exact ⟨v, rfl, h2⟩
  | x :: xs, _, i + 1, p, h, e => by
    simp only [RPs] at h
    obtain ⟨v, r, h1, _, h3⟩ := h
    obtain ⟨u, q1, q2⟩ := RPs.get (i := i) (p := p) h3 (by simpa using e)
    subst h1
    exact ⟨u, by simpa using q1, q2⟩
theorem RPs.set : ∀ {xs : List PyData} {vs : List V} {i : Nat} {p : PyData} {v : V}, RPs K Z m H xs vs → RP K Z m H p v → RPs K Z m H (xs.set i p) (vs.set i v)
  | [], _, _, _, _, h, _ => by simp only [RPs] at h; subst h; simp [RPs]
  | x :: xs, _, 0, p, v, h, q => by
    simp only [RPs] at h
    obtain ⟨w, r, h1, _, h3⟩ := h
    subst h1
    simp only [List.set_cons_zero, RPs]
    exact ⟨v, r, rfl, q, h3⟩
  | x :: xs, _, i + 1, p, v, h, q => by
    simp only [RPs] at h
    obtain ⟨w, r, h1, h2, h3⟩ := h
    subst h1
    simp only [List.set_cons_succ, RPs]
    exact ⟨w, _, rfl, h2, RPs.set h3 q⟩
theorem RPs.append : ∀ {xs ys : List PyData} {vs ws : List V}, RPs K Z m H xs vs → RPs K Z m H ys ws → RPs K Z m H (xs ++ ys) (vs ++ ws)
  | [], _, _, _, h, q => by simp only [RPs] at h; subst h; simpa using q
  | x :: xs, _, _, _, h, q => by
    simp only [RPs] at h
    obtain ⟨w, r, h1, h2, h3⟩ := h
    subst h1
    simp only [List.cons_append, RPs]
    exact ⟨w, _, rfl, h2, RPs.append h3 q⟩
theorem RPs.drop : ∀ {xs : List PyData} {vs : List V} (n : Nat), RPs K Z m H xs vs → RPs K Z m H (xs.drop n) (vs.drop n)
  | _, _, 0, h => by simpa using h
  | [], _, n + 1, h => by simp only [RPs] at h; subst h; simp [RPs]
  | x :: xs, _, n + 1, h => by
    simp only [RPs] at h
    obtain ⟨w, r, h1, h2, h3⟩ := h
    subst h1
    simpa using RPs.drop n h3
theorem RPs.take : ∀ {xs : List PyData} {vs : List V} (n : Nat), RPs K Z m H xs vs → RPs K Z m H (xs.take n) (vs.take n)
  | _, _, 0, h => by simp [RPs]
  | [], _, n + 1, h => by simp only [RPs] at h; subst h; simp [RPs]
  | x :: xs, _, n + 1, h => by
    simp only [RPs] at h
    obtain ⟨w, r, h1, h2, h3⟩ := h
    subst h1
    simp only [List.take_succ_cons, RPs]
    exact ⟨w, _, rfl, h2, RPs.take n h3⟩
@[simp] def pds : List D → Option (List PyData)
  | [] => some []
  | .dat p :: r => (pds r).map (p :: ·)
  | .cel _ :: _ => none
theorem RDs.pds : ∀ {xs : List D} {vs : List V} {ps : List PyData}, RDs K Z m H xs vs → DL.pds xs = some ps → RPs K Z m H ps vs
  | [], vs, ps, h, e => by
    cases (show vs = [] from h)
    cases (show some [] = some ps from e)
    simp [RPs]
  | .dat p :: r, vs, ps, ⟨v, w, h1, h2, h3⟩, e => by
    simp only [DL.pds] at e
    cases q : DL.pds r with
    | none => rw [q] at e; cases e
    | some qs =>
      rw [q] at e
      cases e
      simp only [RPs]
      exact ⟨v, w, h1, h2, RDs.pds h3 q⟩
  | .cel a :: r, _, _, _, e => by simp only [DL.pds] at e; cases e
theorem SqT.same {a : Addr} {xs : List V} (e : Same H H') (h : SqT K H a xs) : SqT K H' a xs := by
  rcases h with (h | ⟨o, h⟩) | h
  · exact .inl (.inl (e _ _ h))
  · exact .inl (.inr ⟨o, e _ _ h⟩)
  · exact .inr h
theorem Ext.grow (s : Same H H') (hz : ∀ a, Z a → H a ≠ none) : Ext K Z m H m H' := ⟨fun _ _ h => SqT.same s h, fun _ _ h1 h2 => ⟨h1.1, s.seq h2⟩, fun a h => by
  cases q : H a with
  | none => exact absurd q (hz a h)
  | some o => exact s a o q, fun _ h => h, fun a o u h => s _ _ h, fun _ _ => rfl⟩
theorem Ok.grow (s : Same H H') (ok : Ok K Z m H) : Ok K Z m H' := by
  have e : Ext K Z m H m H' := Ext.grow s fun a h => (ok.z a h).2
  refine ⟨fun a c h => ?_, fun a h => ⟨(ok.z a h).1, by rw [e.z a h]; exact (ok.z a h).2⟩⟩
  obtain ⟨o, h1, h2⟩ := ok.g a c h
  exact ⟨o, s _ _ h1, h2.ext e⟩
theorem Ok.ext (s : Same H H') (ok : Ok K Z m H) : Ext K Z m H m H' := Ext.grow s fun a h => (ok.z a h).2
theorem same_new {p : Addr} {o : HO} (h : H p = none) : Same H (upd H p o) := fun b u q => by rw [upd_ne (ne_of_none q h)]; exact q
def updM (m : Mu) (a : Addr) (c : Cel) : Mu := fun b => if b = a then some c else m b
theorem updM_same {a : Addr} {c : Cel} : updM m a c a = some c := by unfold updM; rw [if_pos rfl]
theorem updM_ne {a b : Addr} {c : Cel} (h : b ≠ a) : updM m a c b = m b := by unfold updM; rw [if_neg h]
theorem SqL.ne {p a : Addr} {xs : List V} (hp : H p = none) (hk : K.lookup p = none) (h : SqL K H a xs) : a ≠ p := by
  rintro rfl
  rcases h with (h | ⟨o, h⟩) | ⟨o, _, _, h, _⟩
  · rw [hp] at h; cases h
  · rw [hp] at h; cases h
  · rw [hk] at h; cases h
theorem Ext.cell {p : Addr} {o : HO} {c : Cel} (ok : Ok K Z m H) (hp : H p = none) (hk : K.lookup p = none) : Ext K Z m H (updM m p c) (upd H p o) := by
  refine ⟨fun _ _ h => SqT.same (same_new hp) h, fun a xs h1 h2 => ?_, fun a h => ?_, fun a h => ?_, fun a o u h => same_new hp _ _ h, fun a h => ?_⟩
  · have ne := SqL.ne hp hk h2
    exact ⟨by rw [updM_ne ne]; exact h1.1, (same_new hp).seq h2⟩
  · have ne : a ≠ p := fun e => (ok.z a h).2 (by rw [e]; exact hp)
    exact upd_ne ne
  · by_cases e : a = p
    · subst e; rw [updM_same]; rfl
    · rw [updM_ne e]; exact h
  · have ne : a ≠ p := by
      rintro rfl
      cases q : m a with
      | none => rw [q] at h; cases h
      | some x =>
        obtain ⟨w, h1, _⟩ := ok.g a x q
        rw [hp] at h1
        cases h1
    exact updM_ne ne
theorem Ok.updC {p : Addr} {o : HO} {c : Cel} (ok : Ok K Z m H) (hz : ¬ Z p) (e : Ext K Z m H (updM m p c) (upd H p o)) (r : RC K Z m H c o) : Ok K Z (updM m p c) (upd H p o) := by
  refine ⟨fun a x h => ?_, fun a h => ?_⟩
  · by_cases q : a = p
    · subst q
      rw [updM_same] at h
      cases h
      exact ⟨o, upd_same, r.ext e⟩
    · rw [updM_ne q] at h
      obtain ⟨w, h1, h2⟩ := ok.g a x h
      exact ⟨w, by rw [upd_ne q]; exact h1, h2.ext e⟩
  · have ne : a ≠ p := fun e => hz (e ▸ h)
    exact ⟨by rw [updM_ne ne]; exact (ok.z a h).1, by rw [upd_ne ne]; exact (ok.z a h).2⟩
theorem Ok.cell {p : Addr} {o : HO} {c : Cel} (ok : Ok K Z m H) (hp : H p = none) (hk : K.lookup p = none) (r : RC K Z m H c o) : Ok K Z (updM m p c) (upd H p o) :=
  ok.updC (fun h => (ok.z p h).2 hp) (Ext.cell ok hp hk) r
theorem Ext.put {a : Addr} {o o0 : HO} {c c0 : Cel} (ok : Ok K Z m H) (hm : m a = some c0) (hH : H a = some o0) (nf : isF (some c0) = false := by rfl) : Ext K Z m H (updM m a c) (upd H a o) := by
  have mu : (∀ xs, o0 ≠ .tup xs) ∧ (∀ a b, o0 ≠ .frz a b) := by
    obtain ⟨w, h1, h2⟩ := ok.g a c0 hm
    rw [hH] at h1
    cases h1
    exact h2.mut nf
  refine ⟨fun b xs h => ?_, fun b xs h1 h2 => ?_, fun b h => ?_, fun b h => ?_, fun b w u h => ?_, fun b h => ?_⟩
  · rcases h with (h | ⟨w, h⟩) | h
    · have ne : b ≠ a := by rintro rfl; rw [hH] at h; cases h; exact absurd rfl (mu.1 _)
      exact .inl (.inl (by rw [upd_ne ne]; exact h))
    · have ne : b ≠ a := by rintro rfl; rw [hH] at h; cases h; exact absurd rfl (mu.2 _ _)
      exact .inl (.inr ⟨w, by rw [upd_ne ne]; exact h⟩)
    · exact .inr h
  · have ne : b ≠ a := by rintro rfl; rw [hm] at h1; cases h1.1
    refine ⟨by rw [updM_ne ne]; exact h1.1, ?_⟩
    rcases h2 with (h | ⟨w, h⟩) | h
    · exact .inl (.inl (by rw [upd_ne ne]; exact h))
    · exact .inl (.inr ⟨w, by rw [upd_ne ne]; exact h⟩)
    · exact .inr h
  · have ne : b ≠ a := by rintro rfl; have := (ok.z b h).1; rw [hm] at this; cases this
    exact upd_ne ne
  · by_cases e : b = a
    · subst e; rw [updM_same]; rfl
    · rw [updM_ne e]; exact h
  · have ne : b ≠ a := by rintro rfl; rw [hH] at h; cases h; exact absurd rfl (mu.2 _ _)
    rw [upd_ne ne]
    exact h
  · have ne : b ≠ a := by rintro rfl; rw [hm, nf] at h; cases h
    exact updM_ne ne
theorem Ok.put {a : Addr} {o o0 : HO} {c c0 : Cel} (ok : Ok K Z m H) (hm : m a = some c0) (hH : H a = some o0) (r : RC K Z m H c o) (nf : isF (some c0) = false := by rfl) : Ok K Z (updM m a c) (upd H a o) :=
  ok.updC (fun h => by have := (ok.z a h).1; rw [hm] at this; cases this) (Ext.put ok hm hH nf) r
def RS (K : PySem.W.Frag) (Z : Addr → Prop) (m : Mu) (H : Hp) (d : St2) (s : L2.St) : Prop := d.length = s.length ∧ ∀ (i : Nat) (x : D), d[i]? = some (some x) → ∃ v, s[i]? = some (some v) ∧ RD K Z m H x v
theorem RS.ext {d : St2} {s : L2.St} (r : RS K Z m H d s) (e : Ext K Z m H m' H') : RS K Z m' H' d s := ⟨r.1, fun i x h => let ⟨v, h1, h2⟩ := r.2 i x h; ⟨v, h1, h2.ext e⟩⟩
theorem RS.set {d : St2} {s : L2.St} {i : Nat} {x : D} {v : V} (r : RS K Z m H d s) (h : RD K Z m H x v) : RS K Z m H (d.set i (some x)) (s.set i (some v)) := by
  refine ⟨by rw [List.length_set, List.length_set]; exact r.1, fun j y q => ?_⟩
  by_cases e : j = i
  · subst e
    rw [List.getElem?_set] at q
    simp only [if_true] at q
    split at q
    · rename_i hl
      cases q
      refine ⟨v, ?_, h⟩
      rw [List.getElem?_set]
      simp only [if_true]
      rw [if_pos (by rw [← r.1]; exact hl)]
    · cases q
  · rw [List.getElem?_set_ne (Ne.symm e)] at q
    obtain ⟨w, h1, h2⟩ := r.2 j y q
    exact ⟨w, by rw [List.getElem?_set_ne (Ne.symm e)]; exact h1, h2⟩
end
abbrev DK := D → Mu → Prop
abbrev DE := St2 → Mu → DK → Prop
abbrev DT := St2 → Mu → (Bool → Mu → Prop) → Prop
abbrev DA := St2 → Mu → (List D → Mu → Prop) → Prop
structure Ends2 where
  nx : St2 → Mu → Prop
  rt : DK
  bk : St2 → Mu → Prop := fun _ _ => False
  ct : St2 → Mu → Prop := fun _ _ => False
abbrev DS := Ends2 → St2 → Mu → Prop
def LE (K : PySem.W.Frag) (f : DE) : TE := fun s H Q => ∃ (Z : Addr → Prop) (d : St2) (m : Mu) (R : DK), Ok K Z m H ∧ RS K Z m H d s ∧ f d m R ∧
  ∀ x m' v H', R x m' → Ext K Z m H m' H' → Ok K Z m' H' → RD K Z m' H' x v → Q v H'
def LT (K : PySem.W.Frag) (f : DT) : TT := fun s H Q => ∃ (Z : Addr → Prop) (d : St2) (m : Mu) (R : Bool → Mu → Prop), Ok K Z m H ∧ RS K Z m H d s ∧ f d m R ∧
  ∀ b m' H', R b m' → Ext K Z m H m' H' → Ok K Z m' H' → Q b H'
def LA (K : PySem.W.Frag) (f : DA) : TA := fun s H Q => ∃ (Z : Addr → Prop) (d : St2) (m : Mu) (R : List D → Mu → Prop), Ok K Z m H ∧ RS K Z m H d s ∧ f d m R ∧
  ∀ xs m' vs H', R xs m' → Ext K Z m H m' H' → Ok K Z m' H' → RDs K Z m' H' xs vs → Q vs H'
def LS (K : PySem.W.Frag) (f : DS) : TS := fun E s H => ∃ (Z : Addr → Prop) (d : St2) (m : Mu) (R : Ends2), Ok K Z m H ∧ RS K Z m H d s ∧ f R d m ∧
  (∀ d' m' s' H', R.nx d' m' → Ext K Z m H m' H' → Ok K Z m' H' → RS K Z m' H' d' s' → E.nx s' H') ∧
  (∀ x m' v H', R.rt x m' → Ext K Z m H m' H' → Ok K Z m' H' → RD K Z m' H' x v → E.rt v H') ∧
  (∀ d' m' s' H', R.bk d' m' → Ext K Z m H m' H' → Ok K Z m' H' → RS K Z m' H' d' s' → E.bk s' H') ∧
  (∀ d' m' s' H', R.ct d' m' → Ext K Z m H m' H' → Ok K Z m' H' → RS K Z m' H' d' s' → E.ct s' H')
theorem PE.imp {X : Cx} {e : Expr} {t t' : TE} (h : PE X e t) (q : ∀ s H Q, t' s H Q → t s H Q) : PE X e t' := fun pins s d H Q I w => h pins s d H Q I (q _ _ _ w)
theorem PT.imp {X : Cx} {e : Expr} {t t' : TT} (h : PT X e t) (q : ∀ s H Q, t' s H Q → t s H Q) : PT X e t' := fun pins s d H Q I w => h pins s d H Q I (q _ _ _ w)
theorem PA.imp {X : Cx} {e : List Expr} {t t' : TA} (h : PA X e t) (q : ∀ s H Q, t' s H Q → t s H Q) : PA X e t' := fun pos pins s d H Q I w => h pos pins s d H Q I (q _ _ _ w)
theorem PS.imp {X : Cx} {e : Stmt} {t t' : TS} (h : PS X e t) (q : ∀ E s H, t' E s H → t E s H) : PS X e t' := fun pins s d H E I w => h pins s d H E I (q _ _ _ w)
theorem PSs.imp {X : Cx} {e : List Stmt} {t t' : TS} (h : PSs X e t) (q : ∀ E s H, t' E s H → t E s H) : PSs X e t' := fun pins s d H E I w => h pins s d H E I (q _ _ _ w)
section
variable {X : Cx} {pos : Pos}
@[simp] def dVar (i : Nat) : DE := fun d m Q => ∃ x, d[i]? = some (some x) ∧ Q x m
theorem le_var (i : Nat) {x : Str} (hN : X.N[i]? = some x := by rfl) (hv : Vis X.env.scope x := by first | exact Or.inl rfl | exact Or.inr (Or.inl rfl) | exact Or.inr (Or.inr rfl)) (hd : (x == ("__debug__" : Str)) = false := by decide)
    (hcd : (x == ("__classdict__" : Str)) = false := by decide) : PE X (.Name x pos) (LE X.K (dVar i)) :=
  PE.imp (pe_var hN hv hd hcd) fun s H Q h => by
    obtain ⟨Z, d, m, R, ok, rs, ⟨x, h1, h2⟩, k⟩ := h
    obtain ⟨v, q1, q2⟩ := rs.2 i x h1
    exact ⟨v, q1, k x m v H h2 Ext.refl ok q2⟩
@[simp] def dCon (p : PyData) : DE := fun _ m Q => Q (.dat p) m
theorem le_con {e : Expr} {p : PyData} {v : V} (h : PE X e (tC v)) (r : ∀ Z m H, RP X.K Z m H p v) : PE X e (LE X.K (dCon p)) :=
  PE.imp h fun s H Q ⟨Z, d, m, R, ok, rs, h2, k⟩ => k _ m v H h2 Ext.refl ok (r Z m H)
theorem le_int {i : Int} {j : Nat} : PE X (.Constant (.int i) j pos) (LE X.K (dCon (.int i))) := le_con pe_int fun Z m H => by simp only [RP]
theorem le_bl {b : Bool} {j : Nat} : PE X (.Constant (.bool b) j pos) (LE X.K (dCon (.bool b))) := le_con pe_bl fun Z m H => by simp only [RP]
theorem le_non {j : Nat} : PE X (.Constant .none j pos) (LE X.K (dCon .none)) := le_con pe_non fun Z m H => by simp only [RP]
theorem le_str {x : Str} {j : Nat} : PE X (.Constant (.str x) j pos) (LE X.K (dCon (.str x))) := le_con pe_str fun Z m H => by simp only [RP]
end
end DL
set_option Elab.async false
set_option linter.all false
set_option maxRecDepth 100000
set_option maxHeartbeats 4000000
namespace DL
open PySem PySem.Spec PyProof.Rows L2
section
variable {X : Cx} {pins : List (Addr × Obj)} {σ : L2.St} {H : Hp} {s : Shared} {Z : Addr → Prop} {m : Mu}
mutual
theorem RP.reads (I : Inv X pins σ H s) : ∀ (p : PyData) (v : V) (u : Value), RP X.K Z m H p v → RelV v u → ∃ as, Reads s.heap u p as
  | .none, v, u, h, r => by simp only [RP] at h; subst h; cases r; exact ⟨_, .none⟩
  | .bool b, v, u, h, r => by simp only [RP] at h; subst h; cases r; exact ⟨_, .bool b⟩
  | .int i, v, u, h, r => by simp only [RP] at h; subst h; obtain ⟨t, rfl⟩ := r; exact ⟨_, .int i t⟩
  | .str x, v, u, h, r => by simp only [RP] at h; subst h; obtain ⟨t, rfl⟩ := r; exact ⟨_, .str x t⟩
  | .tuple xs, v, u, h, r => by
    simp only [RP] at h
    obtain ⟨a, vs, rfl, h2, h3⟩ := h
    cases r
    obtain ⟨its, rv, ⟨o, e, c, n, d⟩, _⟩ := I.tuple h2
    obtain ⟨as, q⟩ := RPs.reads I xs vs its h3 rv
    exact ⟨_, .tuple e c d (by simpa using q)⟩
  | .list xs, v, u, h, r => by
    simp only [RP] at h
    obtain ⟨a, vs, rfl, _, h2, h3⟩ := h
    cases r
    obtain ⟨its, rv, ⟨o, n, e, c, _, d⟩, _⟩ := I.list h2
    obtain ⟨as, q⟩ := RPs.reads I xs vs its h3 rv
    exact ⟨_, .list e c d (by simpa using q)⟩
  | .dict _, v, u, h, r => by simp only [RP] at h
theorem RPs.reads (I : Inv X pins σ H s) : ∀ (xs : List PyData) (vs : List V) (us : List Value), RPs X.K Z m H xs vs → Vals vs us → ∃ as, ReadsAll s.heap us xs as
  | [], vs, us, h, r => by simp only [RPs] at h; subst h; cases r; exact ⟨_, .nil⟩
  | x :: xs, vs, us, h, r => by
    simp only [RPs] at h
    obtain ⟨v, w, rfl, h1, h2⟩ := h
    cases r with
    | cons r1 r2 =>
      obtain ⟨as, q1⟩ := RP.reads I x v _ h1 r1
      obtain ⟨bs, q2⟩ := RPs.reads I xs w _ h2 r2
      exact ⟨_, .cons q1 q2⟩
end
theorem RP.noDict (K : PySem.W.Frag) : ∀ (p : PyData) (v : V), RP K Z m H p v → p.hasDict = false
  | .none, _, _ => rfl
  | .bool _, _, _ => rfl
  | .int _, _, _ => rfl
  | .str _, _, _ => rfl
  | .tuple xs, v, h => by
    simp only [RP] at h
    obtain ⟨_, vs, _, _, h⟩ := h
    simp only [PyData.hasDict]
    exact go xs vs h
  | .list xs, v, h => by
    simp only [RP] at h
    obtain ⟨_, vs, _, _, _, h⟩ := h
    simp only [PyData.hasDict]
    exact go xs vs h
  | .dict _, v, h => by simp only [RP] at h
where go : ∀ (xs : List PyData) (vs : List V), RPs K Z m H xs vs → PyData.hasDictAll xs = false
  | [], _, _ => rfl
  | x :: xs, vs, h => by
    simp only [RPs] at h
    obtain ⟨v, w, rfl, h1, h2⟩ := h
    simp only [PyData.hasDictAll, RP.noDict K x v h1, go xs w h2, Bool.or_self]
end
abbrev D2 := D → D → Mu → DK → Prop
def OpD (X : Cx) (op : Value → Value → Sem Value) (r : D2) : Prop :=
  ∀ (pins : List (Addr × Obj)) (s : Shared) (σ : L2.St) (H : Hp) (Z : Addr → Prop) (m : Mu) (x y : V) (dx dy : D) (v u : Value) (R : DK) (Q : VK), Inv X pins σ H s → Ok X.K Z m H → RelV x v → RelV y u → RD X.K Z m H dx x → RD X.K Z m H dy y → r dx dy m R →
    (∀ d m' v' H', R d m' → Ext X.K Z m H m' H' → Ok X.K Z m' H' → RD X.K Z m' H' d v' → Q v' H') → wpAny (model X.prog X.w) X.A (op v u) (EP X pins σ Q) X.xe s
@[simp] def dBin (r : D2) (f g : DE) : DE := fun d m Q => f d m fun x m1 => g d m1 fun y m2 => r x y m2 Q
section
variable {X : Cx} {a b c : Expr} {f g : DE} {pos : Pos}
theorem le2 {op : Value → Value → Sem Value} {r : D2} (ho : OpD X op r) (ha : PE X a (LE X.K f)) (hb : PE X b (LE X.K g)) {pins : List (Addr × Obj)} {s : Shared} {σ : L2.St} {H : Hp} {Q : VK} (I : Inv X pins σ H s)
    (h : LE X.K (dBin r f g) σ H Q) :
    wpAny (model X.prog X.w) X.A (eval a X.env) (fun v s₁ => wpAny (model X.prog X.w) X.A (eval b X.env) (fun u s₂ => wpAny (model X.prog X.w) X.A (op v u) (EP X pins σ Q) X.xe s₂) X.xe s₁) X.xe s := by
  obtain ⟨Z, d, m, R, ok, rs, hf, k⟩ := h
  refine binT ha hb I (R := fun x y H2 => ∃ m2 dx dy, Ok X.K Z m2 H2 ∧ Ext X.K Z m H m2 H2 ∧ RD X.K Z m2 H2 dx x ∧ RD X.K Z m2 H2 dy y ∧ r dx dy m2 R) ?_ fun v u s2 x y H2 I2 rx ry ⟨m2, dx, dy, ok2, e2, r1, r2, q⟩ => ?_
  · exact ⟨Z, d, m, _, ok, rs, hf, fun x m1 v H1 q e1 ok1 r1 => ⟨Z, d, m1, _, ok1, rs.ext e1, q, fun y m2 v2 H2 q2 e2 ok2 r2 => ⟨m2, x, y, ok2, e1.trans e2, r1.ext e2, r2, q2⟩⟩⟩
  · exact ho pins s2 σ H2 Z m2 x y dx dy v u R Q I2 ok2 rx ry r1 r2 q fun d' m' v' H' h1 h2 h3 h4 => k d' m' v' H' h1 (e2.trans h2) h3 h4
theorem le_bin {op : Operator} {r : D2} (ho : OpD X (binaryOp op) r) (ha : PE X a (LE X.K f)) (hb : PE X b (LE X.K g)) : PE X (.BinOp a op b pos) (LE X.K (dBin r f g)) :=
  fun _ _ _ _ _ I h => wpAny_BinOp (le2 ho ha hb I h)
theorem le_cmp {op : CmpOp} {r : D2} (ho : OpD X (compareOp op) r) (ha : PE X a (LE X.K f)) (hb : PE X b (LE X.K g)) (hm : behindInMarks op b = false := by exact nomark _) : PE X (.Compare a [op] [b] pos) (LE X.K (dBin r f g)) :=
  fun _ _ _ _ _ I h => wpAny_Compare1 (le2 ho ha hb I h) hm
@[simp] def dTst (f : DE) : DT := fun d m Q => f d m fun x m1 => ∃ b, x = .dat (.bool b) ∧ Q b m1
theorem LT.le {K : PySem.W.Frag} {σ : L2.St} {H : Hp} {Q : Bool → Hp → Prop} (h : LT K (dTst f) σ H Q) : LE K f σ H (fun x H' => ∃ k, x = .bl k ∧ Q k H') := by
  obtain ⟨Z, d, m, R, ok, rs, hf, k⟩ := h
  refine ⟨Z, d, m, _, ok, rs, hf, fun x m' v H' ⟨b, e, q⟩ e1 ok1 rd => ⟨b, ?_, k b m' H' q e1 ok1⟩⟩
  subst e
  simpa only [RD, RP] using rd
theorem lt_cmp {op : CmpOp} {r : D2} (ho : OpD X (compareOp op) r) (ha : PE X a (LE X.K f)) (hb : PE X b (LE X.K g)) (hm : behindInMarks op b = false := by exact nomark _) : PT X (.Compare a [op] [b] pos) (LT X.K (dTst (dBin r f g))) := by
  intro pins s σ H Q I h
  refine wpAny_isTrue_Compare1 (thn (le2 ho ha hb I h.le) fun v s1 h1 => thn h1 fun u s2 h2 => thn h2 fun c s3 ⟨z, H3, I3, r3, k, e, q3⟩ => ?_) hm
  subst e
  cases r3
  exact wpAny_truthy_bool ⟨H3, I3, q3⟩
theorem lt_val (h : PE X a (LE X.K f)) (he : ∀ whole, isTrue a X.env whole = (do let v ← whole; standAt a.pos; holding [v] (truthy v)) := by intro _; rfl) : PT X a (LT X.K (dTst f)) :=
  PT.imp (pt_val h he) fun _ _ _ q => q.le
end
section
variable {X : Cx} {a b c : Expr} {rest : List Expr} {f g : DE} {t u : DT} {pos : Pos}
@[simp] def dAndT (t u : DT) : DT := fun d m Q => t d m fun k m1 => if k = true then u d m1 Q else Q false m1
@[simp] def dOrT (t u : DT) : DT := fun d m Q => t d m fun k m1 => if k = true then Q true m1 else u d m1 Q
theorem PW.imp {e : Expr} {t t' : TT} (h : PW X e t) (q : ∀ s H Q, t' s H Q → t s H Q) : PW X e t' := fun wh pins s d H Q I w => h wh pins s d H Q I (q _ _ _ w)
theorem lw_and1 (ha : PT X a (LT X.K t)) : PW X (.BoolOp .And [a] pos) (LT X.K t) := pw_and1 ha
theorem lw_or1 (ha : PT X a (LT X.K t)) : PW X (.BoolOp .Or [a] pos) (LT X.K t) := pw_or1 ha
theorem lw_and (ha : PT X a (LT X.K t)) (hb : PW X (.BoolOp .And (b :: rest) pos) (LT X.K u)) : PW X (.BoolOp .And (a :: b :: rest) pos) (LT X.K (dAndT t u)) :=
  PW.imp (pw_and ha hb) fun s H Q ⟨Z, d, m, R, ok, rs, h, k⟩ => ⟨Z, d, m, _, ok, rs, h, fun b m1 H1 q e1 ok1 => by
    cases b with
    | true => rw [if_pos rfl] at q ⊢; exact ⟨Z, d, m1, R, ok1, rs.ext e1, q, fun b' m2 H2 q2 e2 ok2 => k b' m2 H2 q2 (e1.trans e2) ok2⟩
    | false => rw [if_neg Bool.false_ne_true] at q ⊢; exact k false m1 H1 q e1 ok1⟩
theorem lw_or (ha : PT X a (LT X.K t)) (hb : PW X (.BoolOp .Or (b :: rest) pos) (LT X.K u)) : PW X (.BoolOp .Or (a :: b :: rest) pos) (LT X.K (dOrT t u)) :=
  PW.imp (pw_or ha hb) fun s H Q ⟨Z, d, m, R, ok, rs, h, k⟩ => ⟨Z, d, m, _, ok, rs, h, fun b m1 H1 q e1 ok1 => by
    cases b with
    | false => rw [if_neg Bool.false_ne_true] at q ⊢; exact ⟨Z, d, m1, R, ok1, rs.ext e1, q, fun b' m2 H2 q2 e2 ok2 => k b' m2 H2 q2 (e1.trans e2) ok2⟩
    | true => rw [if_pos rfl] at q ⊢; exact k true m1 H1 q e1 ok1⟩
@[simp] def dAnd (f g : DE) : DE := fun d m Q => f d m fun x m1 => ∃ b, x = .dat (.bool b) ∧ if b = true then g d m1 Q else Q (.dat (.bool false)) m1
theorem RD.bl {K : PySem.W.Frag} {Z : Addr → Prop} {m : Mu} {H : Hp} {b : Bool} {v : V} (h : RD K Z m H (.dat (.bool b)) v) : v = .bl b := by simpa only [RD, RP] using h
theorem RD.ofBl {K : PySem.W.Frag} {Z : Addr → Prop} {m : Mu} {H : Hp} {b : Bool} : RD K Z m H (.dat (.bool b)) (.bl b) := by simp only [RD, RP]
theorem le_one {op : BoolOp} (h : PE X a (LE X.K f)) : PE X (.BoolOp op [a] pos) (LE X.K f) := pe_one h
theorem le_and (ha : PE X a (LE X.K f)) (hb : PE X (.BoolOp .And (b :: rest) pos) (LE X.K g)) : PE X (.BoolOp .And (a :: b :: rest) pos) (LE X.K (dAnd f g)) :=
  PE.imp (pe_and ha hb) fun s H Q ⟨Z, d, m, R, ok, rs, h, k⟩ => ⟨Z, d, m, _, ok, rs, h, fun x m1 v H1 ⟨b, e, q⟩ e1 ok1 rd => by
    subst e
    refine ⟨b, rd.bl, ?_⟩
    cases b with
    | true => rw [if_pos rfl] at q ⊢; exact ⟨Z, d, m1, R, ok1, rs.ext e1, q, fun x2 m2 v2 H2 q2 e2 ok2 r2 => k x2 m2 v2 H2 q2 (e1.trans e2) ok2 r2⟩
    | false => rw [if_neg Bool.false_ne_true] at q ⊢; exact k _ m1 _ H1 q e1 ok1 .ofBl⟩
@[simp] def dIte (t : DT) (f g : DE) : DE := fun d m Q => t d m fun k m1 => if k = true then f d m1 Q else g d m1 Q
theorem le_ite (hc : PT X c (LT X.K t)) (ha : PE X a (LE X.K f)) (hb : PE X b (LE X.K g)) : PE X (.IfExp c a b pos) (LE X.K (dIte t f g)) :=
  PE.imp (pe_ifExp hc ha hb) fun s H Q ⟨Z, d, m, R, ok, rs, h, k⟩ => ⟨Z, d, m, _, ok, rs, h, fun b m1 H1 q e1 ok1 => by
    cases b with
    | true => rw [if_pos rfl] at q ⊢; exact ⟨Z, d, m1, R, ok1, rs.ext e1, q, fun x2 m2 v2 H2 q2 e2 ok2 r2 => k x2 m2 v2 H2 q2 (e1.trans e2) ok2 r2⟩
    | false => rw [if_neg Bool.false_ne_true] at q ⊢; exact ⟨Z, d, m1, R, ok1, rs.ext e1, q, fun x2 m2 v2 H2 q2 e2 ok2 r2 => k x2 m2 v2 H2 q2 (e1.trans e2) ok2 r2⟩⟩
end
section
variable {X : Cx} {e : Expr} {es : List Expr} {f : DE} {g : DA} {pos : Pos}
@[simp] def dNil : DA := fun _ m Q => Q [] m
@[simp] def dCons (f : DE) (g : DA) : DA := fun d m Q => f d m fun x m1 => g d m1 fun xs m2 => Q (x :: xs) m2
theorem la_nil : PA X [] (LA X.K dNil) := PA.imp pa_nil fun s H Q ⟨Z, d, m, R, ok, rs, h, k⟩ => k [] m [] H h Ext.refl ok rfl
theorem la_cons (ha : PE X e (LE X.K f)) (hr : PA X es (LA X.K g)) (hs : starEach (e :: es) X.env = (false, eval e X.env) :: starEach es X.env := by rfl) : PA X (e :: es) (LA X.K (dCons f g)) :=
  PA.imp (pa_cons ha hr hs) fun s H Q ⟨Z, d, m, R, ok, rs, h, k⟩ => ⟨Z, d, m, _, ok, rs, h, fun x m1 v H1 q e1 ok1 r1 => ⟨Z, d, m1, _, ok1, rs.ext e1, q, fun xs m2 vs H2 q2 e2 ok2 r2 =>
    k (x :: xs) m2 (v :: vs) H2 q2 (e1.trans e2) ok2 ⟨v, vs, rfl, r1.ext e2, r2⟩⟩⟩
@[simp] def dTup (g : DA) : DE := fun d m Q => g d m fun xs m1 => ∃ ps, pds xs = some ps ∧ ps.length ≤ sizeLine ∧ Q (.dat (.tuple ps)) m1
theorem le_tup {j : Nat} (h : PA X es (LA X.K g)) : PE X (.Tuple es j pos) (LE X.K (dTup g)) :=
  PE.imp (pe_tup h) fun s H Q ⟨Z, d, m, R, ok, rs, h, k⟩ => ⟨Z, d, m, _, ok, rs, h, fun xs m1 vs H1 ⟨ps, e, hz, q⟩ e1 ok1 r1 => by
    have rp := r1.pds e
    refine ⟨by rw [rp.length]; exact hz, fun p hp => ?_⟩
    have sm : Same H1 (upd H1 p (.tup vs)) := same_new hp
    refine k _ m1 _ _ q (e1.trans (ok1.ext sm)) (ok1.grow sm) ?_
    simp only [RD, RP]
    exact ⟨p, vs, rfl, .inl (.inl upd_same), RPs.ext (ok1.ext sm) _ _ rp⟩⟩
@[simp] def dLst (g : DA) : DE := fun d m Q => g d m fun xs m1 => ∃ ps, pds xs = some ps ∧ ps.length ≤ sizeLine ∧ Q (.dat (.list ps)) m1
@[simp] def dLstC (g : DA) : DE := fun d m Q => g d m fun xs m1 => ∃ ps, pds xs = some ps ∧ ps.length ≤ sizeLine ∧ ∀ a, m1 a = none → Q (.cel a) (updM m1 a (.l ps))
theorem pe_lstK {t : TA} (h : PA X es t) : PE X (.List es pos) (fun s H Q => t s H fun xs H1 => xs.length ≤ sizeLine ∧ ∀ p, H1 p = none → X.K.lookup p = none → Q (.ref p) (upd H1 p (.lst xs))) := by
  intro pins s σ H Q I hq
  refine wpAny_List_spliced (thn (h pos pins s σ H _ I hq) fun us s1 ⟨xs, H1, I1, r, z, q⟩ => ⟨by rw [← r.length]; exact z, ?_⟩)
  have hf : H1 s1.heap.objs.size = none := I1.hok.fresh (Nat.le_refl _)
  have hk : X.K.lookup s1.heap.objs.size = none := by
    cases e : X.K.lookup s1.heap.objs.size with
    | none => rfl
    | some o => exact absurd (Heap.lt_size (I1.kIn _ o e)) (Nat.lt_irrefl _)
  refine ⟨.ref s1.heap.objs.size, upd H1 s1.heap.objs.size (.lst xs), I1.laid (t' := s1.toks) (fun b u e => Heap.get?_push_of_some _ e) (Nat.le_refl _) ?_, rfl, q _ hf hk⟩
  exact ⟨z, us, 0, r, Heap.get?_push_size _ rfl⟩
theorem ok_none {K : PySem.W.Frag} {Z : Addr → Prop} {m : Mu} {H : Hp} {p : Addr} (ok : Ok K Z m H) (hp : H p = none) : m p = none ∧ ¬ Z p := by
  refine ⟨?_, fun h => (ok.z p h).2 hp⟩
  cases e : m p with
  | none => rfl
  | some ds =>
    obtain ⟨vs, h1, _⟩ := ok.g p ds e
    rw [hp] at h1
    cases h1
theorem le_lst (h : PA X es (LA X.K g)) : PE X (.List es pos) (LE X.K (dLst g)) :=
  PE.imp (pe_lstK h) fun s H Q ⟨Z, d, m, R, ok, rs, h, k⟩ => ⟨Z, d, m, _, ok, rs, h, fun xs m1 vs H1 ⟨ps, e, hz, q⟩ e1 ok1 r1 => by
    have rp := r1.pds e
    refine ⟨by rw [rp.length]; exact hz, fun p hp hk => ?_⟩
    have sm : Same H1 (upd H1 p (.lst vs)) := same_new hp
    refine k _ m1 _ _ q (e1.trans (ok1.ext sm)) (ok1.grow sm) ?_
    simp only [RD, RP]
    exact ⟨p, vs, rfl, ok_none ok1 hp, .inl (.inl upd_same), RPs.ext (ok1.ext sm) _ _ rp⟩⟩
theorem le_lstC (h : PA X es (LA X.K g)) : PE X (.List es pos) (LE X.K (dLstC g)) :=
  PE.imp (pe_lstK h) fun s H Q ⟨Z, d, m, R, ok, rs, h, k⟩ => ⟨Z, d, m, _, ok, rs, h, fun xs m1 vs H1 ⟨ps, e, hz, q⟩ e1 ok1 r1 => by
    have rp := r1.pds e
    refine ⟨by rw [rp.length]; exact hz, fun p hp hk => ?_⟩
    refine k _ _ _ _ (q p (ok_none ok1 hp).1) (e1.trans (Ext.cell ok1 hp hk)) (ok1.cell hp hk rp) ⟨rfl, ?_⟩
    rw [updM_same]
    rfl⟩
end
end DL
set_option Elab.async false
set_option linter.all false
set_option maxRecDepth 100000
set_option maxHeartbeats 4000000
namespace DL
open PySem PySem.Spec PyProof.Rows L2
theorem noFill_tuple_mul : fillsNumberSlot (.type "tuple") "mul" = pure false := PySem.fillsNumberSlot_seq (id := "tuple.__mul__") (r := some (.builtin "tuple.__rmul__")) PySem.F.slot_tuple_mul.lookup (by decide +kernel) PySem.F.slot_tuple_rmul.lookup (by decide +kernel)
theorem repeat_tuple : seqRepeat? (.type "tuple") = pure (some (.builtin "tuple.__mul__")) := by
  unfold seqRepeat?
  rw [PySem.seqSlot_of (T := "tuple") (name := "__mul__") (id := "tuple.__mul__") PySem.F.slot_tuple_mul.lookup (by decide +kernel), PySem.seqSlot_of (T := "tuple") (name := "__rmul__") (id := "tuple.__rmul__") PySem.F.slot_tuple_rmul.lookup (by decide +kernel)]
  rfl
theorem rmul_tuple (a : Int) (t : Tok) (l : Addr) (its : Array Value) (n : Nat) (dd : Option Addr) (sl : Array (Option Value)) : Meets (Builtin.«int.__rmul__» ⟨[.int a t, .ref l], []⟩) (fun _ R s => s.heap.get? l = some { cls := .type "tuple", dict := dd, data := .seq its n, slots := sl } ∧ R (.ok (.ret Value.notImplemented)) s) :=
  .of_wp fun prog w A R s hs => by
    obtain ⟨hp, g, d, tk, os⟩ := s; obtain ⟨hl, h⟩ := hs
    wp_walk
    exact ⟨_, rfl, h⟩
theorem fold_rep (vs : List Value) : ∀ (n : Nat) (acc : List Value), (List.replicate n vs.toArray).foldl (· ++ ·) acc.toArray = (acc ++ (List.replicate n vs).flatten).toArray
  | 0, acc => by simp
  | n + 1, acc => by
    rw [List.replicate_succ, List.foldl_cons, List.replicate_succ, List.flatten_cons]
    have := fold_rep vs n (acc ++ vs)
    rw [← List.append_assoc, ← this]
    simp
theorem len_rep' {α : Type} (xs : List α) : ∀ n : Nat, (List.replicate n xs).flatten.length = xs.length * n
  | 0 => by simp
  | n + 1 => by rw [List.replicate_succ, List.flatten_cons, List.length_append, len_rep' xs n, Nat.mul_succ, Nat.add_comm]
theorem tup_mul_meets (t : Addr) (its : Array Value) (k : Int) (tok : Tok) (h1 : its.size ≠ 0) (h2 : 2 ≤ k) (h3 : k ≤ 100) (h4 : its.size * k.toNat ≤ sizeLine) : Meets (Builtin.«tuple.__mul__» ⟨[.ref t, .int k tok], []⟩)
    (fun _ R s => IsTup s.heap t its ∧ R (.ok (.ret (.ref s.heap.objs.size))) { s with heap := s.heap.push { cls := .type "tuple", data := .seq ((List.replicate k.toNat its).foldl (· ++ ·) #[]) } }) :=
  .of_wp fun prog w A R s hs => by
    obtain ⟨ht, h⟩ := hs
    show wpAny _ _ (asIndex (.int k tok) >>= _) _ _ _
    refine wpAny_bind (wpAny_pure ?_)
    show wpAny _ _ (if (decide (k < -(2 ^ 63)) || decide (k ≥ 2 ^ 63)) = true then _ else _) _ _ _
    rw [if_neg (by simp; omega)]
    show wpAny _ _ (Builtin.Tuple.tupleItemsOf (.ref t) >>= _) _ _ _
    refine wpAny_bind (tupleItemsOf_ ht ?_)
    have e1 : its.isEmpty = false := by
      rw [Array.isEmpty_eq_false_iff]
      rintro rfl
      exact h1 rfl
    have e2 : (k == 1) = false := by
      rw [beq_eq_false_iff_ne]
      omega
    show wpAny _ _ (if (its.isEmpty || k == 1) = true then _ else _) _ _ _
    rw [e1, e2, if_neg (by simp)]
    show wpAny _ _ (if (decide (k ≤ 0) || false) = true then _ else _) _ _ _
    rw [if_neg (by simp; omega)]
    have hk : ((its.size : Nat) : Int) * k = ((its.size * k.toNat : Nat) : Int) := by
      push_cast
      rw [Int.toNat_of_nonneg (by omega)]
    have hs := line63
    show wpAny _ _ (if ((its.size : Nat) : Int) * k > (2 ^ 63 - 1) / 8 then _ else _) _ _ _
    rw [if_neg ?c1]
    case c1 =>
      rw [hk]
      have : (sizeLine : Nat) ≤ (2 ^ 63 - 1) / 8 := by decide
      omega
    show wpAny _ _ (if (decide (((its.size : Nat) : Int) * k > (sizeLine : Int))) = true then _ else _) _ _ _
    rw [if_neg ?c2]
    case c2 =>
      rw [hk]
      intro q
      have q' := of_decide_eq_true q
      omega
    show wpAny _ _ (Builtin.Tuple.tupleExact ((List.replicate k.toNat its).foldl (· ++ ·) #[]) >>= _) _ _ _
    refine wpAny_bind (m := Builtin.Tuple.tupleExact _) (wpAny_newObj_type (wpAny_pure ⟨_, rfl, h⟩) ?_)
    show ((List.replicate k.toNat its).foldl (· ++ ·) #[]).size ≤ sizeLine
    have e := fold_rep its.toList k.toNat []
    rw [List.nil_append] at e
    have e' : (List.replicate k.toNat its).foldl (· ++ ·) #[] = (List.replicate k.toNat its.toList).flatten.toArray := e
    rw [e', List.size_toArray, len_rep', Array.length_toList]
    exact h4
theorem Vals.rep {xs : List V} {us : List Value} (h : Vals xs us) : ∀ n : Nat, Vals (List.replicate n xs).flatten (List.replicate n us).flatten
  | 0 => .nil
  | n + 1 => by
    rw [List.replicate_succ, List.replicate_succ, List.flatten_cons, List.flatten_cons]
    exact h.append (Vals.rep h n)
theorem RPs.rep {K : PySem.W.Frag} {Z : Addr → Prop} {m : Mu} {H : Hp} {xs : List PyData} {vs : List V} (h : RPs K Z m H xs vs) : ∀ n : Nat, RPs K Z m H (List.replicate n xs).flatten (List.replicate n vs).flatten
  | 0 => by simp [RPs]
  | n + 1 => by
    rw [List.replicate_succ, List.replicate_succ, List.flatten_cons, List.flatten_cons]
    exact h.append (RPs.rep h n)
section
variable {X : Cx}
theorem rep_tup {pins : List (Addr × Obj)} {s : Shared} {σ : L2.St} {H : Hp} {Q : VK} {a : Addr} {xs : List V} {k : Int} {t : Tok} (I : Inv X pins σ H s) (ha : SqT X.K H a xs) (h1 : xs ≠ []) (h2 : 2 ≤ k) (h3 : k ≤ 100) (h4 : xs.length * k.toNat ≤ sizeLine)
    (q : ∀ p, H p = none → Q (.ref p) (upd H p (.tup (List.replicate k.toNat xs).flatten))) : wpAny (model X.prog X.w) X.A (binaryOp .Mult (.ref a) (.int k t)) (EP X pins σ Q) X.xe s := by
  obtain ⟨its, r, p, hz⟩ := I.tuple ha
  have hl := r.length
  obtain ⟨⟨cls, dd, data, sl⟩, ho, hc, n, hd⟩ := id p
  simp only at hc hd
  subst hc hd
  refine wpAny_binaryOp_repeat_ref (T := "tuple") (U := "int") (by decide) ⟨_, ho, rfl⟩ (fun s' => typeIs_int s' k t) noFill_tuple_mul PySem.F.fills_int_mul PySem.F.slot_int_rmul repeat_tuple PySem.F.slot_int_index.lookup
    (call_meets PySem.F.slot_int_rmul (typeIs_int s k t) PySem.F.entry_int_rmul (PySem.F.args_int_rmul_2 _ _) (rmul_tuple k t a its.toArray n dd sl) ⟨ho, rfl, ⟨_, ho, rfl⟩, call_meets PySem.F.slot_tuple_mul ⟨_, ho, rfl⟩ PySem.F.entry_tuple_mul (PySem.F.args_tuple_mul_2 _ _) (tup_mul_meets a its.toArray k t ?_ h2 h3 ?_) ⟨p, ?_⟩⟩)
  · rw [List.size_toArray, ← hl]
    intro e
    exact h1 (List.length_eq_zero_iff.mp e)
  · rw [List.size_toArray, ← hl]
    exact h4
  · have e := fold_rep its k.toNat []
    rw [List.nil_append] at e
    rw [e]
    exact ⟨.ref s.heap.objs.size, _, I.laid (t' := s.toks) (o := .tup (List.replicate k.toNat xs).flatten) (fun b ob q => Heap.get?_push_of_some _ q) (Nat.le_refl _) ⟨⟨by rw [len_rep']; exact h4, NoD.new _ _ _⟩, _, Vals.rep r k.toNat, IsTup.new _ _⟩, rfl, q _ (I.hok.fresh (Nat.le_refl _))⟩
end
end DL
set_option Elab.async false
set_option linter.all false
set_option maxRecDepth 100000
set_option maxHeartbeats 4000000
namespace DL
open PySem PySem.Spec PyProof.Rows L2
@[simp] def aAdd : D2
  | .dat (.int i), .dat (.int j), m, Q => Q (.dat (.int (i + j))) m
  | .dat (.str a), .dat (.str b), m, Q => a.length + b.length ≤ sizeLine ∧ Q (.dat (.str (a ++ b))) m
  | .dat (.tuple a), .dat (.tuple b), m, Q => a.length + b.length ≤ sizeLine ∧ Q (.dat (.tuple (a ++ b))) m
  | .dat (.list a), .dat (.list b), m, Q => a.length + b.length ≤ sizeLine ∧ Q (.dat (.list (a ++ b))) m
  | .cel c, .dat (.list b), m, Q => ∃ a, m c = some (.l a) ∧ a.length + b.length ≤ sizeLine ∧ Q (.dat (.list (a ++ b))) m
  | _, _, _, _ => False
@[simp] def aSub : D2
  | .dat (.int i), .dat (.int j), m, Q => Q (.dat (.int (i - j))) m
  | _, _, _, _ => False
@[simp] def aMul : D2
  | .dat (.int i), .dat (.int j), m, Q => IntMulOk i j ∧ Q (.dat (.int (i * j))) m
  | .dat (.tuple a), .dat (.int k), m, Q => a ≠ [] ∧ 2 ≤ k ∧ k ≤ 100 ∧ a.length * k.toNat ≤ sizeLine ∧ Q (.dat (.tuple (List.replicate k.toNat a).flatten)) m
  | _, _, _, _ => False
@[simp] def aDiv : D2
  | .dat (.int i), .dat (.int j), m, Q => j ≠ 0 ∧ j.natAbs.log2 < 9000 ∧ Q (.dat (.int (i.fdiv j))) m
  | _, _, _, _ => False
@[simp] def aMod : D2
  | .dat (.int i), .dat (.int j), m, Q => j ≠ 0 ∧ Q (.dat (.int (i.fmod j))) m
  | _, _, _, _ => False
@[simp] def aPow : D2
  | .dat (.int i), .dat (.int j), m, Q => (0 ≤ j ∧ j ≤ 1000000 ∧ i.natAbs < 2 ^ 64) ∧ Q (.dat (.int (i ^ j.toNat))) m
  | _, _, _, _ => False
@[simp] def aLt : D2
  | .dat (.int i), .dat (.int j), m, Q => Q (.dat (.bool (decide (i < j)))) m
  | _, _, _, _ => False
@[simp] def aGt : D2
  | .dat (.int i), .dat (.int j), m, Q => Q (.dat (.bool (decide (j < i)))) m
  | _, _, _, _ => False
@[simp] def aEq : D2
  | .dat (.str a), .dat (.str b), m, Q => Q (.dat (.bool (decide (a = b)))) m
  | .dat p, .dat q, m, Q => p.canLay0 = true ∧ q.canLay0 = true ∧ p.depth ≤ 100 ∧ Q (.dat (.bool (PyData.eqv p q))) m
  | _, _, _, _ => False
@[simp] def aNe : D2
  | .dat (.str a), .dat (.str b), m, Q => Q (.dat (.bool (!decide (a = b)))) m
  | .dat p, .dat q, m, Q => p.canLay0 = true ∧ q.canLay0 = true ∧ p.depth ≤ 100 ∧ Q (.dat (.bool (!PyData.eqv p q))) m
  | _, _, _, _ => False
section
variable {X : Cx}
theorem RD.int {K : PySem.W.Frag} {Z : Addr → Prop} {m : Mu} {H : Hp} {i : Int} {v : V} (h : RD K Z m H (.dat (.int i)) v) : v = .int i := by simpa only [RD, RP] using h
theorem RD.ofInt {K : PySem.W.Frag} {Z : Addr → Prop} {m : Mu} {H : Hp} {i : Int} : RD K Z m H (.dat (.int i)) (.int i) := by simp only [RD, RP]
theorem RD.str {K : PySem.W.Frag} {Z : Addr → Prop} {m : Mu} {H : Hp} {i : Str} {v : V} (h : RD K Z m H (.dat (.str i)) v) : v = .str i := by simpa only [RD, RP] using h
theorem RD.ofStr {K : PySem.W.Frag} {Z : Addr → Prop} {m : Mu} {H : Hp} {i : Str} : RD K Z m H (.dat (.str i)) (.str i) := by simp only [RD, RP]
theorem od_sub : OpD X (binaryOp .Sub) aSub := by
  intro pins s σ H Z m x y dx dy v u R Q I ok rx ry r1 r2 h k
  unfold aSub at h
  split at h
  · cases r1.int; cases r2.int
    exact op_sub pins s σ H _ _ v u Q I rx ry ⟨_, _, rfl, rfl, k _ m _ H h Ext.refl ok .ofInt⟩
  · exact h.elim
theorem od_mul : OpD X (binaryOp .Mult) aMul := by
  intro pins s σ H Z m x y dx dy v u R Q I ok rx ry r1 r2 h k
  unfold aMul at h
  split at h
  · cases r1.int; cases r2.int
    obtain ⟨t, rfl⟩ := rx
    obtain ⟨t', rfl⟩ := ry
    exact mul_int ⟨.int _, H, I.tok _, ⟨_, rfl⟩, k _ m _ H h.2 Ext.refl ok .ofInt⟩ h.1
  · rename_i a j
    obtain ⟨h1, h2, h3, h4, h5⟩ := h
    cases r2.int
    simp only [RD, RP] at r1
    obtain ⟨p, vs, rfl, g1, g2⟩ := r1
    cases rx
    obtain ⟨t', rfl⟩ := ry
    have hl := g2.length
    refine rep_tup I g1 (fun e => h1 ?_) h2 h3 (by rw [hl]; exact h4) fun t ht => ?_
    · subst e
      cases a with
      | nil => rfl
      | cons _ _ => simp at hl
    · have sm : Same H (upd H t (.tup (List.replicate j.toNat vs).flatten)) := same_new ht
      refine k _ m _ _ h5 (ok.ext sm) (ok.grow sm) ?_
      simp only [RD, RP]
      exact ⟨t, _, rfl, .inl (.inl upd_same), RPs.ext (ok.ext sm) _ _ (g2.rep _)⟩
  · exact h.elim
theorem od_div : OpD X (binaryOp .FloorDiv) aDiv := by
  intro pins s σ H Z m x y dx dy v u R Q I ok rx ry r1 r2 h k
  unfold aDiv at h
  split at h
  · cases r1.int; cases r2.int
    obtain ⟨t, rfl⟩ := rx
    obtain ⟨t', rfl⟩ := ry
    exact floordiv_int h.1 ⟨.int _, H, I.tok _, ⟨_, rfl⟩, k _ m _ H h.2.2 Ext.refl ok .ofInt⟩ (.inl (PyProof.noPylong_of_log2 h.2.1))
  · exact h.elim
theorem od_mod : OpD X (binaryOp .Mod) aMod := by
  intro pins s σ H Z m x y dx dy v u R Q I ok rx ry r1 r2 h k
  unfold aMod at h
  split at h
  · cases r1.int; cases r2.int
    exact op_modN pins s σ H _ _ v u Q I rx ry ⟨_, _, rfl, rfl, h.1, k _ m _ H h.2 Ext.refl ok .ofInt⟩
  · exact h.elim
theorem od_pow : OpD X (binaryOp .Pow) aPow := by
  intro pins s σ H Z m x y dx dy v u R Q I ok rx ry r1 r2 h k
  unfold aPow at h
  split at h
  · cases r1.int; cases r2.int
    exact op_pow pins s σ H _ _ v u Q I rx ry ⟨_, _, rfl, rfl, h.1, k _ m _ H h.2 Ext.refl ok .ofInt⟩
  · exact h.elim
theorem od_lt : OpD X (compareOp .Lt) aLt := by
  intro pins s σ H Z m x y dx dy v u R Q I ok rx ry r1 r2 h k
  unfold aLt at h
  split at h
  · cases r1.int; cases r2.int
    exact op_lt pins s σ H _ _ v u Q I rx ry ⟨_, _, rfl, rfl, k _ m _ H h Ext.refl ok .ofBl⟩
  · exact h.elim
theorem od_gt : OpD X (compareOp .Gt) aGt := by
  intro pins s σ H Z m x y dx dy v u R Q I ok rx ry r1 r2 h k
  unfold aGt at h
  split at h
  · cases r1.int; cases r2.int
    exact op_gt pins s σ H _ _ v u Q I rx ry ⟨_, _, rfl, rfl, k _ m _ H h Ext.refl ok .ofBl⟩
  · exact h.elim
theorem od_eq (hu : X.A.units + 100 < cLine) : OpD X (compareOp .Eq) aEq := by
  intro pins s σ H Z m x y dx dy v u R Q I ok rx ry r1 r2 h k
  unfold aEq at h
  split at h
  · cases r1.str; cases r2.str
    refine op_eq pins s σ H _ _ v u Q I rx ry ⟨rfl, ?_⟩
    have e : ∀ a b : Str, decide (V.str a = V.str b) = decide (a = b) := fun a b => by
      rw [Bool.eq_iff_iff]
      simp
    rw [e]
    exact k _ m _ H h Ext.refl ok .ofBl
  · rename_i p q hne
    obtain ⟨h1, h2, h3, h4⟩ := h
    obtain ⟨as, ra⟩ := RP.reads I p x v r1 rx
    obtain ⟨bs, rb⟩ := RP.reads I q y u r2 ry
    exact SeqAt.compareEq_reads ra rb h1 h2 (by omega) ⟨.bl _, H, I, rfl, k _ m _ H h4 Ext.refl ok .ofBl⟩
  · exact h.elim
theorem od_ne (hu : X.A.units + 100 < cLine) : OpD X (compareOp .NotEq) aNe := by
  intro pins s σ H Z m x y dx dy v u R Q I ok rx ry r1 r2 h k
  unfold aNe at h
  split at h
  · cases r1.str; cases r2.str
    refine op_ne pins s σ H _ _ v u Q I rx ry ⟨rfl, ?_⟩
    have e : ∀ a b : Str, decide (V.str a = V.str b) = decide (a = b) := fun a b => by
      rw [Bool.eq_iff_iff]
      simp
    rw [e]
    exact k _ m _ H h Ext.refl ok .ofBl
  · rename_i p q hne
    obtain ⟨h1, h2, h3, h4⟩ := h
    obtain ⟨as, ra⟩ := RP.reads I p x v r1 rx
    obtain ⟨bs, rb⟩ := RP.reads I q y u r2 ry
    exact SeqAt.compareNe_reads ra rb h1 h2 (by omega) ⟨.bl _, H, I, rfl, k _ m _ H h4 Ext.refl ok .ofBl⟩
  · exact h.elim
theorem cat_tup0 {pins : List (Addr × Obj)} {s : Shared} {σ : L2.St} {H : Hp} {Q : VK} {a b : Addr} {ys : List V} (I : Inv X pins σ H s) (ha : SqT X.K H a []) (hb : SqT X.K H b ys) (q : Q (.ref b) H) :
    wpAny (model X.prog X.w) X.A (binaryOp .Add (.ref a) (.ref b)) (EP X pins σ Q) X.xe s := by
  obtain ⟨its, r1, p1, _⟩ := I.tuple ha
  obtain ⟨its2, r2, p2, _⟩ := I.tuple hb
  cases r1
  obtain ⟨⟨cls, dd, data, sl⟩, ho, hc, n, hd⟩ := id p1
  obtain ⟨⟨cls2, dd2, data2, sl2⟩, ho2, hc2, n2, hd2⟩ := id p2
  simp only at hc hd hc2 hd2
  subst hc hd hc2 hd2
  exact concat_meets ⟨_, ho, rfl⟩ ⟨_, ho2, rfl⟩ noFill_tuple_add seq_tuple_add PySem.F.slot_tuple_add PySem.F.entry_tuple_add (PySem.F.args_tuple_add_2 _ _)
      (tuple_addW0 a b _ _ n n2 dd dd2 sl sl2 (by simp)) ⟨ho, ho2, ⟨.ref b, H, I, rfl, q⟩⟩
theorem op_catS : OpR X (binaryOp .Add) (fun x y H Q => ∃ a b xs ys, x = .ref a ∧ y = .ref b ∧ SqL X.K H a xs ∧ SqL X.K H b ys ∧ xs.length + ys.length ≤ sizeLine ∧ ∀ p, H p = none → Q (.ref p) (upd H p (.lst (xs ++ ys)))) := by
  intro pins s σ H x y v u Q I rx ry h
  obtain ⟨a, b, xs, ys, rfl, rfl, ha, hb, hz, q⟩ := h
  cases rx
  cases ry
  obtain ⟨its, r1, p1, _⟩ := I.list ha
  obtain ⟨its2, r2, p2, _⟩ := I.list hb
  obtain ⟨⟨cls, dd, data, sl⟩, ho, hc, n, hd⟩ := id p1.isList
  obtain ⟨⟨cls2, dd2, data2, sl2⟩, ho2, hc2, n2, hd2⟩ := id p2.isList
  simp only at hc hd hc2 hd2
  subst hc hd hc2 hd2
  have l1 := r1.length
  have l2 := r2.length
  have e : its.toArray ++ its2.toArray = (its ++ its2).toArray := by simp
  refine concat_meets ⟨_, ho, rfl⟩ ⟨_, ho2, rfl⟩ noFill_list_add seq_list_add PySem.F.slot_list_add PySem.F.entry_list_add (PySem.F.args_list_add_2 _ _)
      (list_addW a b its.toArray its2.toArray n n2 dd dd2 sl sl2 (by rw [List.size_toArray, List.size_toArray]; omega)) ⟨ho, ho2, ?_⟩
  rw [e]
  exact ⟨.ref s.heap.objs.size, _, I.laid (t' := s.toks) (o := .lst (xs ++ ys)) (fun b ob q => Heap.get?_push_of_some _ q) (Nat.le_refl _) ⟨by rw [List.length_append]; omega, _, 0, r1.append r2, Heap.get?_push_size _ rfl⟩, rfl, q _ (I.hok.fresh (Nat.le_refl _))⟩
theorem od_add : OpD X (binaryOp .Add) aAdd := by
  intro pins s σ H Z m x y dx dy v u R Q I ok rx ry r1 r2 h k
  unfold aAdd at h
  split at h
  · cases r1.int; cases r2.int
    exact op_add pins s σ H _ _ v u Q I rx ry ⟨_, _, rfl, rfl, k _ m _ H h Ext.refl ok .ofInt⟩
  · cases r1.str; cases r2.str
    exact op_add_str pins s σ H _ _ v u Q I rx ry ⟨_, _, rfl, rfl, h.1, k _ m _ H h.2 Ext.refl ok .ofStr⟩
  · rename_i a b
    simp only [RD, RP] at r1 r2
    obtain ⟨p, vs, rfl, h1, h2⟩ := r1
    obtain ⟨q, ws, rfl, g1, g2⟩ := r2
    have l1 := h2.length
    have l2 := g2.length
    by_cases e1 : a = []
    · subst e1
      simp only [RPs] at h2
      subst h2
      cases rx; cases ry
      refine cat_tup0 I h1 g1 (k _ m _ H h.2 Ext.refl ok ?_)
      simp only [RD, RP]
      exact ⟨q, ws, rfl, g1, by simpa using g2⟩
    · refine op_catT pins s σ H _ _ v u Q I rx ry ⟨p, q, vs, ws, rfl, rfl, h1, g1, ?_, by omega, fun e2 => ?_, fun e2 t ht => ?_⟩
      · rintro rfl
        cases a with
        | nil => exact e1 rfl
        | cons _ _ => simp at l1
      · subst e2
        have e3 : b = [] := by cases b with | nil => rfl | cons _ _ => simp at l2
        subst e3
        refine k _ m _ H h.2 Ext.refl ok ?_
        simp only [RD, RP]
        exact ⟨p, vs, rfl, h1, by simpa using h2⟩
      · have sm : Same H (upd H t (.tup (vs ++ ws))) := same_new ht
        refine k _ m _ _ h.2 (ok.ext sm) (ok.grow sm) ?_
        simp only [RD, RP]
        exact ⟨t, _, rfl, .inl (.inl upd_same), RPs.ext (ok.ext sm) _ _ (h2.append g2)⟩
  · rename_i a b
    simp only [RD, RP] at r1 r2
    obtain ⟨p, vs, rfl, h0, h1, h2⟩ := r1
    obtain ⟨q, ws, rfl, g0, g1, g2⟩ := r2
    have l1 := h2.length
    have l2 := g2.length
    refine op_catS pins s σ H _ _ v u Q I rx ry ⟨p, q, vs, ws, rfl, rfl, h1, g1, by omega, fun t ht => ?_⟩
    have sm : Same H (upd H t (.lst (vs ++ ws))) := same_new ht
    refine k _ m _ _ h.2 (ok.ext sm) (ok.grow sm) ?_
    simp only [RD, RP]
    exact ⟨t, _, rfl, ok_none ok ht, .inl (.inl upd_same), RPs.ext (ok.ext sm) _ _ (h2.append g2)⟩
  · rename_i c b
    obtain ⟨aa, hm, hz, hq⟩ := h
    obtain ⟨rfl, _⟩ := r1
    obtain ⟨vs, g0, g3⟩ := ok.l hm
    simp only [RD, RP] at r2
    obtain ⟨q, ws, rfl, _, g1, g2⟩ := r2
    have l1 := g3.length
    have l2 := g2.length
    refine op_catS pins s σ H _ _ v u Q I rx ry ⟨c, q, vs, ws, rfl, rfl, .inl (.inl g0), g1, by omega, fun t ht => ?_⟩
    have sm : Same H (upd H t (.lst (vs ++ ws))) := same_new ht
    refine k _ m _ _ hq (ok.ext sm) (ok.grow sm) ?_
    simp only [RD, RP]
    exact ⟨t, _, rfl, ok_none ok ht, .inl (.inl upd_same), RPs.ext (ok.ext sm) _ _ (g3.append g2)⟩
  · exact h.elim
end
end DL
set_option Elab.async false
set_option linter.all false
set_option maxRecDepth 100000
set_option maxHeartbeats 4000000
namespace DL
open PySem PySem.Spec PyProof.Rows L2
section
variable {X : Cx} {a b c e : Expr} {es : List Expr} {f g : DE} {ga : DA} {pos p2 p : Pos}
@[simp] def aIx : D2
  | .dat (.tuple xs), .dat (.int i), m, Q => ∃ p, atI xs i = some p ∧ Q (.dat p) m
  | .dat (.list xs), .dat (.int i), m, Q => ∃ p, atI xs i = some p ∧ Q (.dat p) m
  | .cel a, .dat (.int i), m, Q => ∃ xs p, m a = some (.l xs) ∧ atI xs i = some p ∧ Q (.dat p) m
  | .dat (.str z), .dat (.int i), m, Q => ∃ c, z.length ≤ sizeLine ∧ atI z.cps.toList i = some c ∧ Q (.dat (.str ⟨#[c]⟩)) m
  | _, _, _, _ => False
theorem RPs.at {K : PySem.W.Frag} {Z : Addr → Prop} {m : Mu} {H : Hp} {xs : List PyData} {vs : List V} {i : Int} {p : PyData} (h : RPs K Z m H xs vs) (e : atI xs i = some p) : ∃ v, atI vs i = some v ∧ RP K Z m H p v := by
  unfold atI at e ⊢
  rw [h.length]
  cases q : ixN xs.length i with
  | none => rw [q] at e; cases e
  | some j =>
    rw [q] at e
    exact h.get (i := j) e
theorem le_ix (ha : PE X a (LE X.K f)) (hb : PE X b (LE X.K g)) (hs : PlainIx b := by exact fun _ _ => rfl) : PE X (.Subscript a b pos) (LE X.K (dBin aIx f g)) :=
  PE.imp (pe_ix ix_seq ha hb hs) fun s H Q h => by
    obtain ⟨Z, d, m, R, ok, rs, h, k⟩ := h
    refine ⟨Z, d, m, _, ok, rs, h, fun x m1 v H1 q e1 ok1 rx => ⟨Z, d, m1, _, ok1, rs.ext e1, q, fun y m2 w H2 q2 e2 ok2 ry => ?_⟩⟩
    have rx2 := rx.ext e2
    have e12 := e1.trans e2
    unfold aIx at q2
    split at q2
    · obtain ⟨p, ep, q⟩ := q2
      cases ry.int
      simp only [RD, RP] at rx2
      obtain ⟨a, vs, rfl, h1, h2⟩ := rx2
      obtain ⟨z, ez, rz⟩ := h2.at ep
      exact .inr (.inl ⟨a, vs, _, z, rfl, rfl, h1, ez, k _ m2 z H2 q e12 ok2 rz⟩)
    · obtain ⟨p, ep, q⟩ := q2
      cases ry.int
      simp only [RD, RP] at rx2
      obtain ⟨a, vs, rfl, _, h1, h2⟩ := rx2
      obtain ⟨z, ez, rz⟩ := h2.at ep
      exact .inl ⟨a, vs, _, z, rfl, rfl, h1, ez, k _ m2 z H2 q e12 ok2 rz⟩
    · obtain ⟨xs, p, hm, ep, q⟩ := q2
      cases ry.int
      obtain ⟨rfl, _⟩ := rx2
      obtain ⟨vs, h1, h2⟩ := ok2.l hm
      obtain ⟨z, ez, rz⟩ := h2.at ep
      exact .inl ⟨_, vs, _, z, rfl, rfl, .inl (.inl h1), ez, k _ m2 z H2 q e12 ok2 rz⟩
    · obtain ⟨c, hz, ec, q⟩ := q2
      cases ry.int
      cases rx2.str
      exact .inr (.inr ⟨_, _, c, rfl, rfl, hz, ec, k _ m2 _ H2 q e12 ok2 .ofStr⟩)
    · exact q2.elim
abbrev DO := St2 → Mu → (Option Int → Mu → Prop) → Prop
def LO (K : PySem.W.Frag) (f : DO) : TO := fun s H Q => ∃ (Z : Addr → Prop) (d : St2) (m : Mu) (R : Option Int → Mu → Prop), Ok K Z m H ∧ RS K Z m H d s ∧ f d m R ∧
  ∀ x m' H', R x m' → Ext K Z m H m' H' → Ok K Z m' H' → Q x H'
@[simp] def dNoP : DO := fun _ m Q => Q none m
@[simp] def dPart (f : DE) : DO := fun d m Q => f d m fun x m1 => ∃ i, x = .dat (.int i) ∧ Q (some i) m1
theorem PO.imp {e : Option Expr} {t t' : TO} (h : PO X e t) (q : ∀ s H Q, t' s H Q → t s H Q) : PO X e t' := fun pins s d H Q I w => h pins s d H Q I (q _ _ _ w)
theorem lo_none : PO X none (LO X.K dNoP) := PO.imp po_none fun s H Q h => by
  obtain ⟨Z, d, m, R, ok, rs, h, k⟩ := h
  exact k none m H h Ext.refl ok
theorem lo_some (ha : PE X a (LE X.K f)) : PO X (some a) (LO X.K (dPart f)) := PO.imp (po_some ha) fun s H Q h => by
  obtain ⟨Z, d, m, R, ok, rs, h, k⟩ := h
  refine ⟨Z, d, m, _, ok, rs, h, fun x m1 v H1 ⟨i, e, q⟩ e1 ok1 rd => ?_⟩
  subst e
  exact ⟨i, rd.int, k _ m1 H1 q e1 ok1⟩
def cutP {α : Type} (xs : List α) (lo hi : Option Int) : List α := (xs.drop (HT.sIx xs.length 0 lo)).take (HT.sIx xs.length xs.length hi - HT.sIx xs.length 0 lo)
theorem RPs.cut {K : PySem.W.Frag} {Z : Addr → Prop} {m : Mu} {H : Hp} {xs : List PyData} {vs : List V} {lo hi : Option Int} (h : RPs K Z m H xs vs) : RPs K Z m H (cutP xs lo hi) (cutV vs lo hi) := by
  unfold cutP cutV
  rw [h.length]
  exact (h.drop _).take _
theorem cut_whole {α : Type} (xs : List α) {lo hi : Option Int} (h : HT.sIx xs.length 0 lo = 0 ∧ HT.sIx xs.length xs.length hi = xs.length) : cutP xs lo hi = xs := by
  unfold cutP
  rw [h.1, h.2]
  simp
def rSlW (K : PySem.W.Frag) : V → Option Int → Option Int → Hp → VK → Prop := fun x lo hi H Q => ∃ a xs, x = .ref a ∧ SqT K H a xs ∧
  (HT.sIx xs.length 0 lo = 0 ∧ HT.sIx xs.length xs.length hi = xs.length) ∧ Q (.ref a) H
theorem getItem_tuple_whole {prog : Program} {w : World} {A : Around} {E : Value → Shared → Prop} {s : Shared} {t sl : Addr} {items : Array Value} {vl vu : Value} {lo hi : Option Int} {Q : Value → Shared → Prop} (ht : IsTup s.heap t items) (hs : s.heap.IsSliceOf sl vl vu .none) (pl : IsPart vl lo) (pu : IsPart vu hi)
    (hw : HT.sIx items.size 0 lo = 0 ∧ HT.sIx items.size items.size hi = items.size)
    (h : Q (.ref t) s) : wpAny (model prog w) A (getItem (.ref t) (.ref sl)) Q E s := by
  obtain ⟨os, hos, hcs, hds⟩ := id hs
  have hTs : s.TypeIs (.ref sl) "slice" := ⟨os, hos, hcs⟩
  unfold getItem
  try with_reducible refine wpAny_holding ?_
  first | refine wpAny_bind (wpAny_pure ?_) | skip
  refine wpAny_bind (wpAny_sequenceKey ht.typeIs (by decide) ?_)
  refine wpAny_bind (wpAny_callSpecial?_slot (name := Str.ofString "__getitem__") ht.typeIs PyProof.Rows.slot_tuple_getitem
    (wpAny_call_entry PyProof.Rows.slot_tuple_getitem ht.typeIs entry_tuple_getitem ?_ (args_tuple_getitem _ _)))
  show wpAny _ _ (Builtin.Tuple.tupleItemsOf (.ref t) >>= _) _ _ s
  refine wpAny_bind (tupleItemsOf_ ht ?_)
  refine wpAny_bind (wpAny_typeOf hTs ?_)
  rw [if_pos (by decide)]
  refine wpAny_bind (HT.sliceApplied_gen hs pl pu ?_)
  have hyes : (((HT.sIx items.size 0 lo : Nat) : Int) == 0 && (1 : Int) == 1 && (HT.sIx items.size items.size hi - HT.sIx items.size 0 lo) == items.size) = true := by
    rw [hw.1, hw.2]
    simp
  show wpAny _ _ (if (((HT.sIx items.size 0 lo : Nat) : Int) == 0 && (1 : Int) == 1 && (HT.sIx items.size items.size hi - HT.sIx items.size 0 lo) == items.size) = true then _ else _) _ _ s
  rw [if_pos hyes]
  refine wpAny_bind ?_
  unfold Builtin.Tuple.tupleIsExact
  refine wpAny_bind (wpAny_typeOf ht.typeIs (wpAny_pure ?_))
  rw [if_pos (by decide)]
  first
    | exact wpAny_bind (wpAny_rule (wpAny_pure ⟨_, rfl, wpAny_pure h⟩))
    | exact wpAny_bind (wpAny_rule (wpAny_bind (wpAny_pure (wpAny_pure ⟨_, rfl, wpAny_pure h⟩))))
theorem sl_whole : SlR X (rSlW X.K) := by
  intro pins s σ H x v vl vu lo hi sl Q I rx hs pl pu h
  obtain ⟨a, xs, rfl, hx, hw, q⟩ := h
  cases rx
  obtain ⟨its, r, ht, hz⟩ := I.tuple hx
  have hlen : its.toArray.size = xs.length := by rw [List.size_toArray]; exact r.length.symm
  refine ⟨"tuple", _, PyProof.Rows.slot_tuple_getitem.lookup, ht.typeIs, ?_⟩
  exact getItem_tuple_whole ht hs pl pu (by rw [hlen]; exact hw) ⟨.ref a, H, I, rfl, q⟩
abbrev DC := List D → Mu → DK → Prop
def CallD (X : Cx) (fn : Value) (r : DC) : Prop :=
  ∀ (pins : List (Addr × Obj)) (s : Shared) (σ : L2.St) (H : Hp) (Z : Addr → Prop) (m : Mu) (xs : List V) (ds : List D) (us : List Value) (R : DK) (Q : VK), Inv X pins σ H s → Ok X.K Z m H → Vals xs us → RDs X.K Z m H ds xs → r ds m R →
    (∀ d m' v' H', R d m' → Ext X.K Z m H m' H' → Ok X.K Z m' H' → RD X.K Z m' H' d v' → Q v' H') → wpAny (model X.prog X.w) X.A (call fn us) (EP X pins σ Q) X.xe s
theorem CallD.cr {fn : Value} {r : DC} (h : CallD X fn r) : CallR X fn (fun vs H Q => ∃ Z m ds R, Ok X.K Z m H ∧ RDs X.K Z m H ds vs ∧ r ds m R ∧ ∀ d m' v' H', R d m' → Ext X.K Z m H m' H' → Ok X.K Z m' H' → RD X.K Z m' H' d v' → Q v' H') := by
  intro pins s σ H xs us Q I r1 ⟨Z, m, ds, R, ok, rd, q, k⟩
  exact h pins s σ H Z m xs ds us R Q I ok r1 rd q k
@[simp] def dCallB (r : DC) (g : DA) : DE := fun d m Q => g d m fun xs m1 => r xs m1 Q
theorem LE.call {r : DC} {H : Hp} {σ : L2.St} {Q : VK} (h : LE X.K (dCallB r ga) σ H Q) :
    LA X.K ga σ H fun vs H1 => ∃ Z m ds R, Ok X.K Z m H1 ∧ RDs X.K Z m H1 ds vs ∧ r ds m R ∧ ∀ d m' v' H', R d m' → Ext X.K Z m H1 m' H' → Ok X.K Z m' H' → RD X.K Z m' H' d v' → Q v' H' := by
  obtain ⟨Z, d, m, R, ok, rs, h, k⟩ := h
  exact ⟨Z, d, m, _, ok, rs, h, fun xs m1 vs H1 q e1 ok1 r1 => ⟨Z, m1, xs, R, ok1, r1, q, fun d' m' v' H' h1 h2 h3 h4 => k d' m' v' H' h1 (e1.trans h2) h3 h4⟩⟩
theorem le_callB {x : Str} {id : String} {r : DC} (hc : CallD X (.builtin id) r) (hg : Gl X x) (hm : X.mg x = none) (hv : bootBuiltins x = some (.builtin id)) (ha : PA X (e :: es) (LA X.K ga)) (hn : x ≠ "__name__" := by decide) (hdb : (x == ("__debug__" : Str)) = false := by decide)
    (he : starEach (e :: es) X.env = (false, eval e X.env) :: starEach es X.env := by rfl) (hpl : (backTo pos (starEach es X.env)).any (·.1) = false := by rfl) : PE X (.Call (.Name x p) (e :: es) [] pos) (LE X.K (dCallB r ga)) :=
  PE.imp (pe_callB hc.cr hg hm hv ha hn hdb he hpl) fun s H Q h => h.call
theorem le_callTy {x : Str} {T : String} {r : DC} (hc : CallD X (.type T) r) (hg : Gl X x) (hm : X.mg x = none) (hv : bootBuiltins x = some (.type T)) (ha : PA X (e :: es) (LA X.K ga)) (hn : x ≠ "__name__" := by decide) (hdb : (x == ("__debug__" : Str)) = false := by decide)
    (he : starEach (e :: es) X.env = (false, eval e X.env) :: starEach es X.env := by rfl) (hpl : (backTo pos (starEach es X.env)).any (·.1) = false := by rfl) : PE X (.Call (.Name x p) (e :: es) [] pos) (LE X.K (dCallB r ga)) :=
  PE.imp (pe_callTy hc.cr hg hm hv ha hn hdb he hpl) fun s H Q h => h.call
theorem RDs.one {K : PySem.W.Frag} {Z : Addr → Prop} {m : Mu} {H : Hp} {x : D} {vs : List V} (h : RDs K Z m H [x] vs) : ∃ v, vs = [v] ∧ RD K Z m H x v := by
  obtain ⟨v, r, h1, h2, h3⟩ := h
  cases (show r = [] from h3)
  exact ⟨v, h1, h2⟩
theorem RDs.two {K : PySem.W.Frag} {Z : Addr → Prop} {m : Mu} {H : Hp} {x y : D} {vs : List V} (h : RDs K Z m H [x, y] vs) : ∃ v w, vs = [v, w] ∧ RD K Z m H x v ∧ RD K Z m H y w := by
  obtain ⟨v, r, h1, h2, h3⟩ := h
  obtain ⟨w, rfl, h4⟩ := RDs.one h3
  exact ⟨v, w, h1, h2, h4⟩
@[simp] def bLen : DC
  | [.dat (.tuple xs)], m, Q => Q (.dat (.int xs.length)) m
  | [.dat (.list xs)], m, Q => Q (.dat (.int xs.length)) m
  | [.dat (.str z)], m, Q => z.length ≤ sizeLine ∧ Q (.dat (.int z.length)) m
  | [.cel a], m, Q => ∃ xs, m a = some (.l xs) ∧ Q (.dat (.int xs.length)) m
  | _, _, _ => False
theorem cd_len : CallD X (.builtin "len") bLen := by
  intro pins s σ H Z m xs ds us R Q I ok rv rd h k
  unfold bLen at h
  split at h
  · obtain ⟨v, rfl, r1⟩ := rd.one
    simp only [RD, RP] at r1
    obtain ⟨a, vs, rfl, h1, h2⟩ := r1
    refine call_len_seq pins s σ H _ us Q I rv ⟨a, vs, rfl, .inr h1, ?_⟩
    rw [h2.length]
    exact k _ m _ H h Ext.refl ok .ofInt
  · obtain ⟨v, rfl, r1⟩ := rd.one
    simp only [RD, RP] at r1
    obtain ⟨a, vs, rfl, _, h1, h2⟩ := r1
    refine call_len_seq pins s σ H _ us Q I rv ⟨a, vs, rfl, .inl h1, ?_⟩
    rw [h2.length]
    exact k _ m _ H h Ext.refl ok .ofInt
  · obtain ⟨v, rfl, r1⟩ := rd.one
    cases r1.str
    exact call_len_str pins s σ H _ us Q I rv ⟨_, rfl, h.1, k _ m _ H h.2 Ext.refl ok .ofInt⟩
  · obtain ⟨v, rfl, r1⟩ := rd.one
    obtain ⟨rfl, _⟩ := r1
    obtain ⟨ys, hm, q⟩ := h
    obtain ⟨vs, h1, h2⟩ := ok.l hm
    refine call_len_seq pins s σ H _ us Q I rv ⟨_, vs, rfl, .inl (.inl (.inl h1)), ?_⟩
    rw [h2.length]
    exact k _ m _ H q Ext.refl ok .ofInt
  · exact h.elim
@[simp] def bMax : DC
  | [.dat (.int i), .dat (.int j)], m, Q => Q (.dat (.int (if j > i then j else i))) m
  | _, _, _ => False
theorem cd_max (hc : X.calm = true) : CallD X (.builtin "max") bMax := by
  intro pins s σ H Z m xs ds us R Q I ok rv rd h k
  unfold bMax at h
  split at h
  · obtain ⟨v, w, rfl, r1, r2⟩ := rd.two
    cases r1.int
    cases r2.int
    exact call_max2 hc pins s σ H _ us Q I rv ⟨_, _, rfl, k _ m _ H h Ext.refl ok .ofInt⟩
  · exact h.elim
@[simp] def bInt : DC
  | [.dat (.int i)], m, Q => Q (.dat (.int i)) m
  | [.dat (.bool b)], m, Q => Q (.dat (.int (if b then 1 else 0))) m
  | _, _, _ => False
theorem cd_int : CallD X (.type "int") bInt := by
  intro pins s σ H Z m xs ds us R Q I ok rv rd h k
  unfold bInt at h
  split at h
  · obtain ⟨v, rfl, r1⟩ := rd.one
    cases r1.int
    exact call_int1 pins s σ H _ us Q I rv (.inl ⟨_, rfl, k _ m _ H h Ext.refl ok .ofInt⟩)
  · obtain ⟨v, rfl, r1⟩ := rd.one
    cases r1.bl
    exact call_int1 pins s σ H _ us Q I rv (.inr ⟨_, rfl, k _ m _ H h Ext.refl ok .ofInt⟩)
  · exact h.elim
@[simp] def bRepr : DC
  | [.dat p], m, Q => p.showable = true ∧ p.shown.length ≤ sizeLine ∧ p.depth ≤ 100 ∧ Q (.dat (.str p.shown)) m
  | _, _, _ => False
theorem cd_repr (hu : X.A.units + 200 < cLine) (hg : X.A.guards = some []) : CallD X (.builtin "repr") bRepr := by
  intro pins s σ H Z m xs ds us R Q I ok rv rd h k
  unfold bRepr at h
  split at h
  · rename_i p
    obtain ⟨v, rfl, r1⟩ := rd.one
    obtain ⟨u, rfl, ru⟩ := vals1 rv
    obtain ⟨h1, h2, h3, h4⟩ := h
    have fin : ∀ (tk tk' : Nat), EP X pins σ Q (.str p.shown tk) { s with toks := tk' } := fun tk tk' => ⟨.str p.shown, H, I.tok _, ⟨_, rfl⟩, k _ m _ H h4 Ext.refl ok .ofStr⟩
    obtain ⟨as, rd⟩ := RP.reads I p v u r1 ru
    have nd := RP.noDict X.K p v r1
    cases rd with
    | none => exact PySem.P.repr_of_none (fin _ _)
    | bool b => exact PySem.P.repr_of_bool (by simpa only [PyData.shown] using fin _ _)
    | int i t => exact PySem.P.repr_of_int (by simpa [PyData.showable] using h1) (by simpa only [PyData.shown] using fin _ _)
    | str x t => exact PySem.P.repr_of_str (by simpa only [PyData.shown] using fin _ _) (by simpa only [PyData.shown] using h2)
    | list q1 q2 q3 q4 =>
      refine repr_of_reads' (.list q1 q2 q3 q4) h1 (PyData.noDict_hsm nd) hg (by omega) (fun _ _ e => e) (fun h' u tk kp => ⟨.str _, H, I.kept kp, ⟨_, rfl⟩, k _ m _ H h4 Ext.refl ok .ofStr⟩) h2
    | tuple q1 q2 q3 q4 =>
      refine repr_of_reads' (.tuple q1 q2 q3 q4) h1 (PyData.noDict_hsm nd) hg (by omega) (fun _ _ e => e) (fun h' u tk kp => ⟨.str _, H, I.kept kp, ⟨_, rfl⟩, k _ m _ H h4 Ext.refl ok .ofStr⟩) h2
    | dict q1 q2 q3 q4 q5 => simp only [PyData.hasDict] at nd; cases nd
  · exact h.elim
end
end DL
set_option Elab.async false
set_option linter.all false
set_option maxRecDepth 100000
set_option maxHeartbeats 4000000
namespace DL
open PySem PySem.Spec PyProof.Rows L2
section
variable {X : Cx} {st : Stmt} {rest body orelse : List Stmt} {t u b : DS} {e c tg iter : Expr} {f : DE} {tc : DT} {pos : Pos}
@[simp] def dNext : DS := fun E d m => E.nx d m
@[simp] def dSeq (t u : DS) : DS := fun E d m => t { E with nx := u E } d m
theorem lss_nil : PSs X [] (LS X.K dNext) := PSs.imp pss_nil fun E s H h => by
  obtain ⟨Z, d, m, R, ok, rs, h, k, _⟩ := h
  exact k d m s H h Ext.refl ok rs
theorem lss_cons (h1 : PS X st (LS X.K t)) (h2 : PSs X rest (LS X.K u)) : PSs X (st :: rest) (LS X.K (dSeq t u)) := PSs.imp (pss_cons h1 h2) fun E s H h => by
  obtain ⟨Z, d, m, R, ok, rs, h, kn, kr, kb, kc⟩ := h
  refine ⟨Z, d, m, _, ok, rs, h, fun d' m' s' H' q e1 ok1 rs1 => ⟨Z, d', m', R, ok1, rs1, q, ?_, ?_, ?_, ?_⟩, kr, kb, kc⟩
  · exact fun d2 m2 s2 H2 q2 e2 ok2 rs2 => kn d2 m2 s2 H2 q2 (e1.trans e2) ok2 rs2
  · exact fun x m2 v H2 q2 e2 ok2 r2 => kr x m2 v H2 q2 (e1.trans e2) ok2 r2
  · exact fun d2 m2 s2 H2 q2 e2 ok2 rs2 => kb d2 m2 s2 H2 q2 (e1.trans e2) ok2 rs2
  · exact fun d2 m2 s2 H2 q2 e2 ok2 rs2 => kc d2 m2 s2 H2 q2 (e1.trans e2) ok2 rs2
@[simp] def dRet (f : DE) : DS := fun E d m => f d m E.rt
theorem ls_ret (he : PE X e (LE X.K f)) : PS X (.Return (some e) pos) (LS X.K (dRet f)) := PS.imp (ps_ret he) fun E s H h => by
  obtain ⟨Z, d, m, R, ok, rs, h, _, kr, _⟩ := h
  exact ⟨Z, d, m, _, ok, rs, h, fun x m1 v H1 q e1 ok1 r1 => kr x m1 v H1 q e1 ok1 r1⟩
@[simp] def dIf (c : DT) (t u : DS) : DS := fun E d m => c d m fun k m1 => if k = true then t E d m1 else u E d m1
theorem ls_if (hc : PT X c (LT X.K tc)) (h1 : PSs X body (LS X.K t)) (h2 : PSs X orelse (LS X.K u)) : PS X (.If c body orelse pos) (LS X.K (dIf tc t u)) := PS.imp (ps_if hc h1 h2) fun E s H h => by
  obtain ⟨Z, d, m, R, ok, rs, h, kn, kr, kb, kc⟩ := h
  refine ⟨Z, d, m, _, ok, rs, h, fun k m1 H1 q e1 ok1 => ?_⟩
  have mk : ∀ {z : DS}, z R d m1 → LS X.K z E s H1 := fun q => ⟨Z, d, m1, R, ok1, rs.ext e1, q,
    fun d2 m2 s2 H2 q2 e2 ok2 rs2 => kn d2 m2 s2 H2 q2 (e1.trans e2) ok2 rs2, fun x m2 v H2 q2 e2 ok2 r2 => kr x m2 v H2 q2 (e1.trans e2) ok2 r2,
    fun d2 m2 s2 H2 q2 e2 ok2 rs2 => kb d2 m2 s2 H2 q2 (e1.trans e2) ok2 rs2, fun d2 m2 s2 H2 q2 e2 ok2 rs2 => kc d2 m2 s2 H2 q2 (e1.trans e2) ok2 rs2⟩
  cases k with
  | true => exact iteT (mk (by simpa using q))
  | false => exact iteF (mk (by simpa using q))
@[simp] def dSet (i : Nat) (f : DE) : DS := fun E d m => f d m fun x m1 => E.nx (d.set i (some x)) m1
theorem ls_set (i : Nat) {x : Str} {pos' : Pos} (hN : X.N.Nodup) (he : PE X e (LE X.K f)) (hi : X.N[i]? = some x := by rfl) (hx : Loc X.env.scope x := by first | exact Or.inl rfl | exact Or.inr rfl)
    (hs : swapsWith e (some (.Name x pos')) pos.line X.env = pure false := by rfl) (hf : X.fn x = true ∨ X.env.scope.names.lookup x = some .local := by first | exact .inl rfl | exact .inr rfl) :
    PS X (.Assign [.Name x pos'] e pos) (LS X.K (dSet i f)) := PS.imp (ps_set hN hi hx he hs hf) fun E s H h => by
  obtain ⟨Z, d, m, R, ok, rs, h, k, _⟩ := h
  exact ⟨Z, d, m, _, ok, rs, h, fun x m1 v H1 q e1 ok1 r1 => k _ m1 _ H1 q e1 ok1 ((rs.ext e1).set r1)⟩
abbrev DG := D → St2 → Mu → (St2 → Mu → Prop) → Prop
abbrev DGs := List PyData → St2 → Mu → (St2 → Mu → Prop) → Prop
def LG (K : PySem.W.Frag) (g : DG) : TG := fun v s H Q => ∃ Z x d m R, Ok K Z m H ∧ RS K Z m H d s ∧ RD K Z m H x v ∧ g x d m R ∧ ∀ d' m' s' H', R d' m' → Ext K Z m H m' H' → Ok K Z m' H' → RS K Z m' H' d' s' → Q s' H'
def LGs (K : PySem.W.Frag) (g : DGs) : TGs := fun vs s H Q => ∃ Z ps d m R, Ok K Z m H ∧ RS K Z m H d s ∧ RPs K Z m H ps vs ∧ g ps d m R ∧ ∀ d' m' s' H', R d' m' → Ext K Z m H m' H' → Ok K Z m' H' → RS K Z m' H' d' s' → Q s' H'
theorem PG.imp {t t' : TG} (h : PG X e t) (q : ∀ v s H Q, t' v s H Q → t v s H Q) : PG X e t' := fun pins s d H v u Q I r w => h pins s d H v u Q I r (q _ _ _ _ w)
theorem PGs.imp {es : List Expr} {t t' : TGs} (h : PGs X es t) (q : ∀ v s H Q, t' v s H Q → t v s H Q) : PGs X es t' := fun pins s d H v u Q I r w => h pins s d H v u Q I r (q _ _ _ _ w)
@[simp] def gN (i : Nat) : DG := fun x d m Q => Q (d.set i (some x)) m
theorem lg_name (i : Nat) {x : Str} (hN : X.N.Nodup) (hi : X.N[i]? = some x := by rfl) (hx : Loc X.env.scope x := by first | exact Or.inl rfl | exact Or.inr rfl)
    (hf : X.fn x = true ∨ X.env.scope.names.lookup x = some .local := by first | exact .inl rfl | exact .inr rfl) : PG X (.Name x pos) (LG X.K (gN i)) := PG.imp (pg_name hN hi hx hf) fun v s H Q h => by
  obtain ⟨Z, x, d, m, R, ok, rs, rd, h, k⟩ := h
  exact k _ m _ H h Ext.refl ok (rs.set rd)
@[simp] def gN0 : DGs := fun ps d m Q => ps = [] ∧ Q d m
@[simp] def gNs (g : DG) (r : DGs) : DGs
  | p :: qs, d, m, Q => g (.dat p) d m fun d' m' => r qs d' m' Q
  | [], _, _, _ => False
theorem lgs_nil : PGs X [] (LGs X.K gN0) := PGs.imp pgs_nil fun vs s H Q h => by
  obtain ⟨Z, ps, d, m, R, ok, rs, rp, ⟨rfl, h⟩, k⟩ := h
  simp only [RPs] at rp
  exact ⟨rp, k d m s H h Ext.refl ok rs⟩
theorem lgs_cons {es : List Expr} {g : DG} {r : DGs} (h1 : PG X e (LG X.K g)) (h2 : PGs X es (LGs X.K r)) (hs : (assignEach (e :: es) X.env).map (·.2) = assign e X.env :: (assignEach es X.env).map (·.2) := by rfl) :
    PGs X (e :: es) (LGs X.K (gNs g r)) := PGs.imp (pgs_cons h1 h2 hs) fun vs s H Q h => by
  obtain ⟨Z, ps, d, m, R, ok, rs, rp, h, k⟩ := h
  match ps, rp, h with
  | [], _, h => exact h.elim
  | p :: qs, rp, h =>
  simp only [RPs] at rp
  obtain ⟨v, w, rfl, r1, r2⟩ := rp
  exact ⟨v, w, rfl, Z, .dat p, d, m, _, ok, rs, r1, h, fun d' m' s' H' q e1 ok1 rs1 => ⟨Z, qs, d', m', R, ok1, rs1, RPs.ext e1 _ _ r2, q, fun d2 m2 s2 H2 q2 e2 ok2 rs2 => k d2 m2 s2 H2 q2 (e1.trans e2) ok2 rs2⟩⟩
@[simp] def gT (n : Nat) (g : DGs) : DG := fun x d m Q => ∃ ps, x = .dat (.tuple ps) ∧ ps.length = n ∧ g ps d m Q
theorem lg_tup {es : List Expr} {j n : Nat} {g : DGs} (hc : X.calm = true) (h : PGs X es (LGs X.K g)) (hn : (assignEach es X.env).length = n := by rfl) (hst : (assignEach es X.env).findIdx? (·.1) = none := by rfl) :
    PG X (.Tuple es j pos) (LG X.K (gT n g)) := PG.imp (pg_tup hc h hn hst) fun v s H Q h => by
  obtain ⟨Z, x, d, m, R, ok, rs, rd, ⟨ps, rfl, hl, h⟩, k⟩ := h
  simp only [RD, RP] at rd
  obtain ⟨a, vs, rfl, h1, h2⟩ := rd
  exact ⟨a, vs, rfl, h1, by rw [h2.length]; exact hl, Z, ps, d, m, R, ok, rs, h2, h, k⟩
@[simp] def dAsg (f : DE) (g : DG) : DS := fun E d m => f d m fun x m1 => g x d m1 E.nx
theorem ls_asg {g : DG} (he : PE X e (LE X.K f)) (hg : PG X tg (LG X.K g)) (hs : swapsWithSole [tg] e pos.line X.env = pure false := by rfl) (hw : swappedStores [tg] e X.env = pure none := by rfl)
    (h1 : (assignEach [tg] X.env).map (·.2) = [assign tg X.env] := by rfl) : PS X (.Assign [tg] e pos) (LS X.K (dAsg f g)) := PS.imp (ps_asg he hg hs hw h1) fun E s H h => by
  obtain ⟨Z, d, m, R, ok, rs, h, k, _⟩ := h
  exact ⟨Z, d, m, _, ok, rs, h, fun x m1 v H1 q e1 ok1 r1 => ⟨Z, x, d, m1, _, ok1, rs.ext e1, r1, q, fun d2 m2 s2 H2 q2 e2 ok2 rs2 => k d2 m2 s2 H2 q2 (e1.trans e2) ok2 rs2⟩⟩
@[simp] def dPut (fo fi f : DE) : DS := fun E d m => f d m fun x m1 => fo d m1 fun o m2 => fi d m2 fun i m3 =>
  ∃ a k xs j p, o = .cel a ∧ i = .dat (.int k) ∧ x = .dat p ∧ m3 a = some (.l xs) ∧ ixN xs.length k = some j ∧ E.nx d (updM m3 a (.l (xs.set j p)))
theorem ls_put {o i : Expr} {fo fi : DE} {tpos : Pos} (he : PE X e (LE X.K f)) (ho : PE X o (LE X.K fo)) (hi : PE X i (LE X.K fi))
    (ha : ∀ v, assign (.Subscript o i tpos) X.env v = (do
      let ov ← holding [v] (eval o X.env)
      let iv ← holding [v, ov] (eval i X.env)
      standAt tpos
      holding [v, ov, iv] (setItem ov iv v)
      release [v, ov, iv] []) := by intro _; rfl)
    (hs : swapsWithSole [.Subscript o i tpos] e pos.line X.env = pure false := by rfl) (hw : swappedStores [.Subscript o i tpos] e X.env = pure none := by rfl)
    (h1 : (assignEach [.Subscript o i tpos] X.env).map (·.2) = [assign (.Subscript o i tpos) X.env] := by rfl) : PS X (.Assign [.Subscript o i tpos] e pos) (LS X.K (dPut fo fi f)) :=
  PS.imp (ps_asg he (pg_sub ho hi set_list ha) hs hw h1) fun E s H h => by
  obtain ⟨Z, d, m, R, ok, rs, h, k, _⟩ := h
  refine ⟨Z, d, m, _, ok, rs, h, fun x m1 v H1 q e1 ok1 r1 => ⟨Z, d, m1, _, ok1, rs.ext e1, q, fun o m2 w H2 q2 e2 ok2 r2 => ⟨Z, d, m2, _, ok2, (rs.ext e1).ext e2, q2, fun i m3 z H3 q3 e3 ok3 r3 => ?_⟩⟩⟩
  obtain ⟨a, k', xs, j, p, rfl, rfl, rfl, hm, hj, q⟩ := q3
  cases r3.int
  obtain ⟨rfl, _⟩ := r2.ext e3
  obtain ⟨vs, g1, g2⟩ := ok3.l hm
  have r1' := r1.ext (e2.trans e3)
  refine ⟨a, vs, k', j, rfl, rfl, g1, by rw [g2.length]; exact hj, ?_⟩
  have e4 : Ext X.K Z m3 H3 (updM m3 a (.l (xs.set j p))) (upd H3 a (.lst (vs.set j v))) := Ext.put ok3 hm g1
  exact k d _ s _ q (e1.trans (e2.trans (e3.trans e4))) (ok3.put hm g1 (g2.set r1')) ((rs.ext e1).ext (e2.trans (e3.trans e4)))
abbrev DI := St2 → Mu → (List D → Mu → Prop) → Prop
def Yld (K : PySem.W.Frag) (Z : Addr → Prop) (m : Mu) (H : Hp) (x : D) (v : V) (H2 H3 : Hp) : Prop :=
  (H3 = H2 ∧ RD K Z m H x v) ∨ ∃ p ps vs, x = .dat (.tuple ps) ∧ v = .ref p ∧ H2 p = none ∧ H3 = upd H2 p (.tup vs) ∧ RPs K Z m H ps vs
theorem Yld.same {K : PySem.W.Frag} {Z : Addr → Prop} {m : Mu} {H H2 H3 : Hp} {x : D} {v : V} (h : Yld K Z m H x v H2 H3) : Same H2 H3 := by
  rcases h with ⟨rfl, _⟩ | ⟨p, ps, vs, _, _, hp, rfl, _⟩
  · exact fun _ _ q => q
  · exact same_new hp
theorem Yld.rd {K : PySem.W.Frag} {Z Z' : Addr → Prop} {m m' : Mu} {H H2 H3 : Hp} {x : D} {v : V} (tr : ∀ d v, RD K Z m H d v → RD K Z' m' H2 d v) (ok : Ok K Z' m' H2) (h : Yld K Z m H x v H2 H3) : RD K Z' m' H3 x v := by
  rcases h with ⟨rfl, h⟩ | ⟨p, ps, vs, rfl, rfl, hp, rfl, h⟩
  · exact tr _ _ h
  · have h2 := RPs.lift (fun p v q => tr (.dat p) v q) h
    simp only [RD, RP]
    exact ⟨p, vs, rfl, .inl (.inl upd_same), RPs.ext (ok.ext (same_new hp)) _ _ h2⟩
structure ExtY (K : PySem.W.Frag) (Z : Addr → Prop) (m : Mu) (H : Hp) (m' : Mu) (H' : Hp) : Prop where
  t : ∀ a vs, SqT K H a vs → SqT K H' a vs
  l : ∀ a vs, (m a = none ∧ ¬ Z a) → SqL K H a vs → m' a = none ∧ SqL K H' a vs
  fz : ∀ a o u, H a = some (.frz o u) → H' a = some (.frz o u)
theorem Ext.y {K : PySem.W.Frag} {Z : Addr → Prop} {m m' : Mu} {H H' : Hp} (e : Ext K Z m H m' H') : ExtY K Z m H m' H' := ⟨e.t, e.l, e.fz⟩
def Yields (K : PySem.W.Frag) (Z : Addr → Prop) (m : Mu) (H : Hp) (xs : List D) (J : It) : Prop := ∀ m2 H2, ExtY K Z m H m2 H2 →
  (∀ (i : Nat) (x : D), xs[i]? = some x → J.go i H2 ∧ ∀ v H3, J.yld i H2 v H3 → Yld K Z m H x v H2 H3) ∧ J.stop xs.length H2
def LI (K : PySem.W.Frag) (fi : DI) : TI := fun s H R => ∃ (Z : Addr → Prop) (d : St2) (m : Mu) (ZZ : List D → Mu → Prop), Ok K Z m H ∧ RS K Z m H d s ∧ fi d m ZZ ∧
  ∀ xs m' H' J, ZZ xs m' → Ext K Z m H m' H' → Ok K Z m' H' → Yields K Z m' H' xs J → R J H'
@[simp] def dSeqI (f : DE) : DI := fun d m Q => f d m fun x m1 => (∃ ps, x = .dat (.list ps) ∧ Q (ps.map .dat) m1) ∨ (∃ ps, x = .dat (.tuple ps) ∧ Q (ps.map .dat) m1)
theorem PI.imp {t t' : TI} (h : PI X tg e t) (q : ∀ s H R, t' s H R → t s H R) : PI X tg e t' := fun pins s d H R I w => h pins s d H R I (q _ _ _ w)
theorem get_map {ps : List PyData} {i : Nat} {x : D} (h : (ps.map D.dat)[i]? = some x) : ∃ p, ps[i]? = some p ∧ x = .dat p := by
  rw [List.getElem?_map] at h
  cases e : ps[i]? with
  | none => rw [e] at h; cases h
  | some p => rw [e] at h; cases h; exact ⟨p, rfl, rfl⟩
theorem yields_list {K : PySem.W.Frag} {Z : Addr → Prop} {m : Mu} {H : Hp} {a : Addr} {vs : List V} {ps : List PyData} (h0 : m a = none ∧ ¬ Z a) (h1 : SqL K H a vs) (h2 : RPs K Z m H ps vs) : Yields K Z m H (ps.map .dat) (Itl K a) := by
  intro m2 H2 e
  obtain ⟨q0, q1⟩ := e.l a vs h0 h1
  have q2 := h2
  refine ⟨fun i x hx => ?_, ⟨vs, q1, by rw [q2.length, List.length_map]; exact Nat.le_refl _⟩⟩
  obtain ⟨p, hp, rfl⟩ := get_map hx
  obtain ⟨v, hv, rv⟩ := h2.get hp
  refine ⟨⟨vs, v, q1, hv⟩, fun v' H3 y => .inl ⟨y.1, ?_⟩⟩
  have := y.2 vs q1
  rw [hv] at this
  cases this
  exact rv
theorem yields_tup {K : PySem.W.Frag} {Z : Addr → Prop} {m : Mu} {H : Hp} {a : Addr} {vs : List V} {ps : List PyData} (h1 : SqT K H a vs) (h2 : RPs K Z m H ps vs) : Yields K Z m H (ps.map .dat) (Itt K a) := by
  intro m2 H2 e
  have q1 := e.t a vs h1
  have q2 := h2
  refine ⟨fun i x hx => ?_, ⟨vs, q1, by rw [q2.length, List.length_map]; exact Nat.le_refl _⟩⟩
  obtain ⟨p, hp, rfl⟩ := get_map hx
  obtain ⟨v, hv, rv⟩ := h2.get hp
  refine ⟨⟨vs, v, q1, hv⟩, fun v' H3 y => .inl ⟨y.1, ?_⟩⟩
  have := y.2 vs q1
  rw [hv] at this
  cases this
  exact rv
theorem pi_seq {l : Expr} {tl : TE} (hl : PE X l tl) : PI X tg l (fun s H R => tl s H fun x H1 => (∃ a, x = .ref a ∧ (∃ xs, SqL X.K H1 a xs) ∧ R (Itl X.K a) H1) ∨ (∃ a, x = .ref a ∧ (∃ xs, SqT X.K H1 a xs) ∧ R (Itt X.K a) H1)) := by
  intro pins s σ H R I h
  refine thn (hl pins s σ H _ I h) fun v s1 ⟨x, H1, I1, r1, q1⟩ => ?_
  rcases q1 with ⟨a, e, ⟨xs, hq⟩, q⟩ | ⟨a, e, ⟨xs, hq⟩, q⟩
  · subst e
    cases r1
    obtain ⟨its, rv, p, hz⟩ := I1.list hq
    refine wpAny_pyIter_list p.isList ?_
    refine ⟨s1.heap.objs.size, [s1.heap.objs.size], _, _, H1, rfl, I1.kept (t' := s1.toks) fun b o e => Heap.get?_push_of_some _ e, turn_list a _, ⟨_, Heap.get?_push_size _ rfl, rfl, rfl⟩, fun b hb => ?_, q⟩
    have e : b = s1.heap.objs.size := by simpa using hb
    subst e
    exact I1.fpOk (Nat.le_refl _) (I1.hok.fresh (Nat.le_refl _))
  · subst e
    cases r1
    obtain ⟨its, rv, p, hz⟩ := I1.tuple hq
    refine wpAny_pyIter_tuple (show s1.heap.IsTuple a its.toArray from p) ?_
    refine ⟨s1.heap.objs.size, [s1.heap.objs.size], _, _, H1, rfl, I1.kept (t' := s1.toks) fun b o e => Heap.get?_push_of_some _ e, turn_tuple a _, ⟨_, Heap.get?_push_size _ rfl, rfl, rfl⟩, fun b hb => ?_, q⟩
    have e : b = s1.heap.objs.size := by simpa using hb
    subst e
    exact I1.fpOk (Nat.le_refl _) (I1.hok.fresh (Nat.le_refl _))
theorem li_seq (ha : PE X e (LE X.K f)) : PI X tg e (LI X.K (dSeqI f)) := PI.imp (pi_seq ha) fun s H R h => by
  obtain ⟨Z, d, m, ZZ, ok, rs, h, k⟩ := h
  refine ⟨Z, d, m, _, ok, rs, h, fun x m1 v H1 q e1 ok1 rd => ?_⟩
  rcases q with ⟨ps, rfl, q⟩ | ⟨ps, rfl, q⟩
  · simp only [RD, RP] at rd
    obtain ⟨a, vs, rfl, h0, h1, h2⟩ := rd
    exact .inl ⟨a, rfl, ⟨vs, h1⟩, k _ m1 H1 _ q e1 ok1 (yields_list h0 h1 h2)⟩
  · simp only [RD, RP] at rd
    obtain ⟨a, vs, rfl, h1, h2⟩ := rd
    exact .inr ⟨a, rfl, ⟨vs, h1⟩, k _ m1 H1 _ q e1 ok1 (yields_tup h1 h2)⟩
def intsD (lo : Int) (n : Nat) : List D := (List.range n).map fun i => .dat (.int (lo + (i : Nat)))
@[simp] def dRngI (f : DE) : DI := fun d m Q => f d m fun x m1 => ∃ j : Int, x = .dat (.int j) ∧ -(2 ^ 62) ≤ j ∧ j < 2 ^ 62 ∧ Q (intsD 0 j.toNat) m1
theorem li_range {p : Pos} (hg : Gl X "range") (hm : X.mg "range" = none) (ha : PE X e (LE X.K f)) (hs : starEach [e] X.env = [(false, eval e X.env)] := by rfl) : PI X tg (.Call (.Name "range" p) [e] [] pos) (LI X.K (dRngI f)) :=
  PI.imp (pi_range1 hg hm (pa_cons ha pa_nil (by rw [hs]; rfl)) hs) fun s H R h => by
    obtain ⟨Z, d, m, ZZ, ok, rs, h, k⟩ := h
    refine ⟨Z, d, m, _, ok, rs, h, fun x m1 v H1 ⟨j, e, h1, h2, q⟩ e1 ok1 rd => ?_⟩
    subst e
    cases rd.int
    show ∃ j' : Int, [V.int j] = [V.int j'] ∧ _
    refine ⟨j, rfl, h1, h2, k _ m1 H1 _ q e1 ok1 fun m2 H2 e2 => ⟨fun i x hx => ?_, ?_⟩⟩
    · unfold intsD at hx
      rw [List.getElem?_map] at hx
      cases ei : (List.range j.toNat)[i]? with
      | none => rw [ei] at hx; cases hx
      | some i' =>
        rw [ei] at hx
        cases hx
        have hl := (List.getElem?_eq_some_iff.mp ei).1
        have hi : i' = i := by
          obtain ⟨_, z⟩ := List.getElem?_eq_some_iff.mp ei
          rw [List.getElem_range] at z
          exact z.symm
        subst hi
        rw [List.length_range] at hl
        refine ⟨hl, fun v' H3 y => .inl ⟨y.1, ?_⟩⟩
        rw [y.2]
        exact .ofInt
    · show j.toNat ≤ (intsD 0 j.toNat).length
      unfold intsD
      rw [List.length_map, List.length_range]
      exact Nat.le_refl _
def loopL (g : DG) (b : DS) (E : Ends2) : List D → St2 → Mu → Prop
  | [], d, m => E.nx d m
  | x :: xs, d, m => g x d m fun d' m' => b { E with nx := loopL g b E xs, ct := loopL g b E xs, bk := E.nx } d' m'
@[simp] def dFor (fi : DI) (g : DG) (b : DS) : DS := fun E d m => fi d m fun xs m1 => loopL g b E xs d m1
theorem ls_for {fi : DI} {g : DG} (hp : PassesOwn (model X.prog X.w) X.A X.env X.xe) (hc : X.calm = true) (hi : PI X tg iter (LI X.K fi)) (hg : PG X tg (LG X.K g)) (hb : PSs X body (LS X.K b))
    (hs : ∀ x, foldedSetIterable iter X.env x = pure x := by intro _; rfl) : PS X (.For tg iter body [] pos) (LS X.K (dFor fi g b)) := PS.imp (ps_for hp hc hi hg hb hs) fun E s H h => by
  obtain ⟨Z, d, m, R, ok, rs, h, kn, kr, kb, kc⟩ := h
  refine ⟨Z, d, m, _, ok, rs, h, fun xs m1 H1 J q e1 ok1 yl => ?_⟩
  refine ⟨fun i n s' H' => ∃ d' m', n = xs.length - i ∧ i ≤ xs.length ∧ Ext X.K Z m1 H1 m' H' ∧ Ok X.K Z m' H' ∧ RS X.K Z m' H' d' s' ∧ loopL g b R (xs.drop i) d' m', ⟨xs.length, d, m1, by simp, Nat.zero_le _, Ext.refl, ok1, rs.ext e1, by simpa using q⟩, ?_⟩
  rintro i n s2 H2 ⟨d2, m2, rfl, hi, e2, ok2, rs2, w⟩
  obtain ⟨y1, y2⟩ := yl m2 H2 e2.y
  by_cases hl : i < xs.length
  · rw [List.drop_eq_getElem_cons hl] at w
    obtain ⟨go, yd⟩ := y1 i xs[i] (List.getElem?_eq_getElem hl)
    refine .inr ⟨go, fun s' H' => ∃ d' m', Ext X.K Z m1 H1 m' H' ∧ Ok X.K Z m' H' ∧ RS X.K Z m' H' d' s' ∧ loopL g b R (xs.drop (i + 1)) d' m', fun s' H' ⟨d', m', g1, g2, g3, g4⟩ => ⟨xs.length - (i + 1), by omega, d', m', rfl, hl, g1, g2, g3, g4⟩, fun v H3 y => ?_⟩
    have yy := yd v H3 y
    have e2' := e2.trans (ok2.ext yy.same)
    refine ⟨Z, xs[i], d2, m2, _, ok2.grow yy.same, rs2.ext (ok2.ext yy.same), yy.rd (fun d v h => h.ext e2) ok2, w, fun d3 m3 s3 H3 q3 e3 ok3 rs3 => ?_⟩
    have e23 := e2'.trans e3
    have e13 := e1.trans e23
    exact ⟨Z, d3, m3, _, ok3, rs3, q3, fun d4 m4 s4 H4 q4 e4 ok4 rs4 => ⟨d4, m4, e23.trans e4, ok4, rs4, q4⟩, fun x m4 v H4 q4 e4 ok4 r4 => kr x m4 v H4 q4 (e13.trans e4) ok4 r4,
      fun d4 m4 s4 H4 q4 e4 ok4 rs4 => kn d4 m4 s4 H4 q4 (e13.trans e4) ok4 rs4, fun d4 m4 s4 H4 q4 e4 ok4 rs4 => ⟨d4, m4, e23.trans e4, ok4, rs4, q4⟩⟩
  · have e : i = xs.length := by omega
    subst e
    rw [List.drop_length] at w
    exact .inl ⟨y2, kn d2 m2 s2 H2 w (e1.trans e2) ok2 rs2⟩
end
end DL
set_option Elab.async false
set_option linter.all false
set_option maxRecDepth 100000
set_option maxHeartbeats 4000000
namespace DL
open PySem PySem.Spec PyProof.Rows L2
section
variable {prog : Program} {w : World} {A : Around} {E : Value → Shared → Prop} {s : Shared}
end
section
variable {X : Cx} {a e : Expr} {es : List Expr} {f : DE} {ga : DA} {pos p p1 p2 p3 p4 : Pos}
@[simp] def tyName : PyData → String
  | .none => "NoneType"
  | .bool _ => "bool"
  | .int _ => "int"
  | .str _ => "str"
  | .list _ => "list"
  | .tuple _ => "tuple"
  | .dict _ => "dict"
@[simp] def isK (q : PyData) (c : String) : Bool := tyName q == c || (tyName q == "bool" && c == "int")
theorem kit_data (K : PySem.W.Frag) (q : PyData) (hd : ∀ kv, q ≠ .dict kv) (c : String) (hc : c = "int" ∨ c = "bool" ∨ c = "str" ∨ c = "tuple" ∨ c = "list") : PySem.W.kitOne K (.type (tyName q)) (.type c) = some (isK q c) := by
  rcases hc with rfl | rfl | rfl | rfl | rfl <;> cases q <;> first | rfl | exact absurd rfl (hd _)
theorem isi_data {pins : List (Addr × Obj)} {σ : L2.St} {H : Hp} {s : Shared} {Z : Addr → Prop} {m : Mu} {A : Around} {E : Value → Shared → Prop} {Q : Value → Shared → Prop} {q : PyData} {v : V} {u c : Value} {b : Bool} (I : Inv X pins σ H s) (rp : RP X.K Z m H q v) (rv : RelV v u)
    (e : PySem.W.kitOne X.K (.type (tyName q)) c = some b) (h : ∀ tk, Q (.bool b) { s with toks := tk }) : wpAny (model X.prog X.w) A (call (.builtin "isinstance") [u, c]) Q E s := by
  cases q with
  | none => simp only [RP] at rp; subst rp; cases rv; exact PySem.W.kia_one PySem.W.kitx_none I.kIn True.intro e (fun z => nomatch z) h
  | bool y => simp only [RP] at rp; subst rp; cases rv; exact PySem.W.kia_one PySem.W.kitx_bool I.kIn True.intro e (fun z => nomatch z) h
  | int i => simp only [RP] at rp; subst rp; obtain ⟨t, rfl⟩ := rv; exact PySem.W.kia_one PySem.W.kitx_int I.kIn True.intro e (fun z => nomatch z) h
  | str y => simp only [RP] at rp; subst rp; obtain ⟨t, rfl⟩ := rv; exact PySem.W.kia_one PySem.W.kitx_str I.kIn True.intro e (fun z => nomatch z) h
  | tuple xs =>
    simp only [RP] at rp
    obtain ⟨a', vs, rfl, h1, _⟩ := rp
    cases rv
    obtain ⟨its, _, ⟨o, g1, g2, _⟩, _⟩ := I.tuple h1
    exact PySem.W.kia_one PySem.W.kitx_tuple I.kIn ⟨o, g1, g2⟩ e (fun z => nomatch z) h
  | list xs =>
    simp only [RP] at rp
    obtain ⟨a', vs, rfl, _, h1, _⟩ := rp
    cases rv
    obtain ⟨its, _, ⟨o, n, g1, g2, _⟩, _⟩ := I.list h1
    exact PySem.W.kia_one PySem.W.kitx_list I.kIn ⟨o, g1, g2⟩ e (fun z => nomatch z) h
  | dict kv => simp only [RP] at rp
theorem RP.notDict {K : PySem.W.Frag} {Z : Addr → Prop} {m : Mu} {H : Hp} {q : PyData} {v : V} (h : RP K Z m H q v) : ∀ kv, q ≠ .dict kv := by
  rintro kv rfl
  simp only [RP] at h
theorem boot_isi : bootBuiltins "isinstance" = some (.builtin "isinstance") := by decide +kernel
@[simp] def dIsi (f : DE) (c : String) : DE := fun d m Q => f d m fun x m1 => ∃ q, x = .dat q ∧ Q (.dat (.bool (isK q c))) m1
theorem le_isi {T : Str} {c : String} (hg : Gl X "isinstance") (hm : X.mg "isinstance" = none) (hgT : Gl X T) (hmT : X.mg T = none) (hv : bootBuiltins T = some (.type c)) (hc : c = "int" ∨ c = "bool" ∨ c = "str" ∨ c = "tuple" ∨ c = "list")
    (ha : PE X a (LE X.K f)) (hn : T ≠ "__name__" := by decide) (hd : (T == ("__debug__" : Str)) = false := by decide)
    (he : starEach [a, .Name T p2] X.env = (false, eval a X.env) :: starEach [.Name T p2] X.env := by rfl) :
    PE X (.Call (.Name "isinstance" p1) [a, .Name T p2] [] pos) (LE X.K (dIsi f c)) := by
  have cr : CallR X (.builtin "isinstance") (fun vs H Q => ∃ Z m q v, RP X.K Z m H q v ∧ vs = [v, .ty c] ∧ Q (.bl (isK q c)) H) := by
    intro pins s σ H xs us Q I rv ⟨Z, m, q, v, rp, e, h⟩
    subst e
    obtain ⟨u, w, rfl, r1, r2⟩ := vals2 rv
    cases r2
    exact isi_data I rp r1 (kit_data X.K q rp.notDict c hc) fun tk => ⟨.bl _, H, I.tok _, rfl, h⟩
  refine PE.imp (pe_callB cr hg hm boot_isi (pa_cons ha (pa_cons (pe_bltn (v := .ty c) hgT hmT hv rfl hn hd) pa_nil) he) (he := he) (hpl := rfl)) fun s H Q h => ?_
  obtain ⟨Z, d, m, R, ok, rs, h, k⟩ := h
  refine ⟨Z, d, m, _, ok, rs, h, fun x m1 v H1 ⟨q, e, h1⟩ e1 ok1 rd => ?_⟩
  subst e
  exact ⟨Z, m1, q, v, rd, rfl, k _ m1 _ H1 h1 e1 ok1 .ofBl⟩
def LSp (K : PySem.W.Frag) (n : Nat) (sp : DC) : Sp := fun vs H Q _ => ∃ Z ds m R, Ok K Z m H ∧ RDs K Z m H ds vs ∧ ds.length = n ∧ sp ds m R ∧ ∀ d m' v' H', R d m' → Ext K Z m H m' H' → Ok K Z m' H' → RD K Z m' H' d v' → Q v' H'
theorem LSp.len {K : PySem.W.Frag} {n : Nat} {sp : DC} {vs : List V} {H : Hp} {Q : VK} {E : XK} (h : LSp K n sp vs H Q E) : vs.length = n := by
  obtain ⟨Z, ds, m, R, _, rd, hl, _⟩ := h
  rw [rd.length]
  exact hl
@[simp] def dCall (n : Nat) (sp : DC) (g : DA) : DE := fun d m Q => g d m fun xs m1 => xs.length = n ∧ sp xs m1 Q
theorem le_call {k n : Nat} {fa : Addr} {fd : FuncData} {ps : List Str} {sp : DC} {x : Str} (F : FnOk X.prog X.w X.K X.mg X.base CX0 k fa fd ps (LSp X.K n sp)) (hr : Room k X.A) (hm : X.mg x = some (.ref fa)) (hk : PySem.W.keepIn X.K (.ref fa) = true)
    (hb : Binds X.K fd ps []) (hx : X.xe = fun _ _ => False) (ha : PA X (e :: es) (LA X.K ga)) (hg : Gl X x := by rfl) (hdb : (x == ("__debug__" : Str)) = false := by decide)
    (he : starEach (e :: es) X.env = (false, eval e X.env) :: starEach es X.env := by rfl) (hpl : (backTo pos (starEach es X.env)).any (·.1) = false := by rfl) : PE X (.Call (.Name x p) (e :: es) [] pos) (LE X.K (dCall n sp ga)) :=
  PE.imp (pe_call F hr hg hm hk hb .nil (pass0 (X := X)) ha hdb he hpl) fun s H Q h => by
    obtain ⟨Z, d, m, R, ok, rs, h, k⟩ := h
    refine ⟨Z, d, m, _, ok, rs, h, fun xs m1 vs H1 ⟨hl, q⟩ e1 ok1 rd => ⟨Z, xs, m1, R, ok1, by simpa using rd, hl, q, fun d' m' v' H' h1 h2 h3 h4 => k d' m' v' H' h1 (e1.trans h2) h3 h4⟩⟩
@[simp] def start2 (N : List Str) (ds : List D) : St2 := ds.map some ++ List.replicate (N.length - ds.length) none
theorem RDs.get {K : PySem.W.Frag} {Z : Addr → Prop} {m : Mu} {H : Hp} : ∀ {xs : List D} {vs : List V} {i : Nat} {x : D}, RDs K Z m H xs vs → xs[i]? = some x → ∃ v, vs[i]? = some v ∧ RD K Z m H x v
  | [], _, _, _, _, e => by simp at e
  | _ :: _, _, 0, x, ⟨v, r, h1, h2, _⟩, e => by
    simp at e
    subst h1 e
    exact ⟨v, rfl, h2⟩
  | _ :: xs, _, i + 1, x, ⟨v, r, h1, _, h3⟩, e => by
    obtain ⟨u, q1, q2⟩ := RDs.get (i := i) (x := x) h3 (by simpa using e)
    subst h1
    exact ⟨u, by simpa using q1, q2⟩
theorem rs_start {K : PySem.W.Frag} {Z : Addr → Prop} {m : Mu} {H : Hp} {N : List Str} {ds : List D} {vs : List V} (h : RDs K Z m H ds vs) : RS K Z m H (start2 N ds) (start N vs) := by
  have hl := h.length
  refine ⟨?_, fun i x hx => ?_⟩
  · unfold start2 L2.start
    rw [List.length_append, List.length_append, List.length_map, List.length_map, List.length_replicate, List.length_replicate, hl]
  · unfold start2 at hx
    by_cases hi : i < ds.length
    · rw [List.getElem?_append_left (by simpa using hi), List.getElem?_map] at hx
      cases e : ds[i]? with
      | none => rw [e] at hx; cases hx
      | some y =>
        rw [e] at hx
        cases hx
        obtain ⟨v, q1, q2⟩ := h.get e
        refine ⟨v, ?_, q2⟩
        unfold L2.start
        rw [List.getElem?_append_left (by rw [List.length_map, hl]; exact hi), List.getElem?_map, q1]
        rfl
    · rw [List.getElem?_append_right (by simpa using hi), List.getElem?_replicate] at hx
      split at hx <;> cases hx
end
section
variable {P : Program} {w : World} {K : PySem.W.Frag} {mg : Str → Option Value} {base : Heap}
theorem fn_body {x qual : Str} {st : Stmt} {fa : Addr} {fd : FuncData} {N ps : List Str} {k : Nat} {sp : DC} {body : DS} (F : Fun K x qual st fa fd) (S : FnScope N ps (defScope st))
    (hb : ∀ (cdv : Value) (A : Around) (outer : List Env) (s : Shared) (H : Hp) (E : XK), Room k (A.deeper (envOfC qual (defScope st) s.heap.objs.size fa cdv)) →
      PSs (cxOf CX0 P w K mg base N qual (defScope st) fa cdv A outer s H E).nox (defBody st) (LS K body))
    (hv : ∀ ds m R, ds.length = ps.length → sp ds m R → body { nx := fun _ m => R (.dat .none) m, rt := R } (start2 N ds) m) : FnOk P w K mg base CX0 (k + 1) fa fd ps (LSp K ps.length sp) := by
  refine F.ok S (fun vs H Q E h => h.len) (fun cdv A outer s H vs Q E hr h => ?_)
  obtain ⟨Z, ds, m, R, ok, rd, hl, h, kk⟩ := h
  refine ⟨_, hb cdv A outer s H E hr, Z, start2 N ds, m, _, ok, rs_start rd, hv ds m R hl h, ?_, ?_, ?_, ?_⟩
  · intro d' m' s' H' q e1 ok1 _
    exact kk _ m' _ H' q e1 ok1 (by simp only [RD, RP])
  · exact fun x m' v H' q e1 ok1 r1 => kk x m' v H' q e1 ok1 r1
  · exact fun _ _ _ _ q _ _ _ => q.elim
  · exact fun _ _ _ _ q _ _ _ => q.elim
end
end DL
set_option Elab.async false
set_option linter.all false
set_option maxRecDepth 100000
set_option maxHeartbeats 4000000
namespace L2
open PySem
theorem Room.u100 {k : Nat} {A : Around} (r : Room k A) : A.units + 100 < cLine := by have := r.un; omega
theorem Room.u200 {k : Nat} {A : Around} (r : Room k A) : A.units + 200 < cLine := by have := r.un; omega
end L2
namespace DL
open PySem PySem.Spec PyProof.Rows L2
theorem boot_len_ : bootBuiltins "len" = some (.builtin "len") := by decide +kernel
theorem boot_max_ : bootBuiltins "max" = some (.builtin "max") := by decide +kernel
theorem boot_repr_ : bootBuiltins "repr" = some (.builtin "repr") := by decide +kernel
theorem boot_int_ : bootBuiltins "int" = some (.type "int") := by decide +kernel
theorem boot_list_ : bootBuiltins "list" = some (.type "list") := by decide +kernel
theorem boot_tuple_ : bootBuiltins "tuple" = some (.type "tuple") := by decide +kernel
end DL
set_option Elab.async false
set_option linter.all false
set_option maxRecDepth 100000
set_option maxHeartbeats 4000000
namespace DL
open PySem PySem.Spec PyProof.Rows L2
theorem rps_ints {K : PySem.W.Frag} {Z : Addr → Prop} {m : Mu} {H : Hp} : ∀ ns : List Int, RPs K Z m H (ns.map PyData.int) (ns.map V.int)
  | [] => by simp [RPs]
  | n :: ns => by
    simp only [List.map_cons, RPs]
    exact ⟨_, _, rfl, by simp only [RP], rps_ints ns⟩
theorem lsp_law {K : PySem.W.Frag} {sp : DC} {H : Hp} {a : Addr} {ns : List Int} {E : XK} (hS : SqL K H a (ns.map V.int)) (h : sp [.dat (.list (ns.map .int))] (fun _ => none) (fun d _ => d = .dat (.bool true))) : LSp K 1 sp [.ref a] H (fun v _ => v = .bl true) E := by
  have ok : Ok K (fun _ => False) (fun _ => none) H := ⟨fun b ds e => (by cases e), fun _ z => False.elim z⟩
  refine ⟨fun _ => False, [.dat (.list (ns.map .int))], fun _ => none, fun d _ => d = .dat (.bool true), ok, ⟨.ref a, [], rfl, ?_, rfl⟩, rfl, h, ?_⟩
  · simp only [RD, RP]
    exact ⟨a, _, rfl, by first | exact ⟨rfl, fun z => z⟩ | simp, hS, rps_ints ns⟩
  · rintro d m' v' H' rfl _ _ r
    simpa only [RD, RP] using r
end DL
set_option Elab.async false
set_option linter.all false
set_option maxRecDepth 100000
set_option maxHeartbeats 4000000
namespace DL
open PySem PySem.Spec PyProof.Rows L2
theorem closure_go (env : Env) : ∀ (names : List (Str × NameKind)) (cs : List (Str × Addr)), (∀ x, (x, NameKind.free) ∈ names → ∃ c, env.cells.lookup x = some c) → (∀ p ∈ cs, env.cells.lookup p.1 = some p.2) →
    ∃ cl : List (Str × Addr), (forIn names cs (fun (x : Str × NameKind) (r : List (Str × Addr)) => (if (x.2 == .free) = true then (do let c ← cellOf env x.1; pure (ForInStep.yield ((x.1, c) :: r))) else pure (ForInStep.yield r) : Sem (ForInStep (List (Str × Addr)))))) = pure cl ∧
      (∀ p ∈ cl, env.cells.lookup p.1 = some p.2) ∧ (∀ p ∈ cs, p ∈ cl) ∧ ∀ x, (x, NameKind.free) ∈ names → ∃ c, (x, c) ∈ cl
  | [], cs, _, h => ⟨cs, rfl, h, fun _ z => z, fun x z => nomatch z⟩
  | (n, k) :: r, cs, hf, h => by
    by_cases hk : k = .free
    · subst hk
      obtain ⟨c, hc⟩ := hf n List.mem_cons_self
      obtain ⟨cl, e, h1, h2, h3⟩ := closure_go env r ((n, c) :: cs) (fun x hx => hf x (List.mem_cons_of_mem _ hx)) (fun p hp => by
        rcases List.mem_cons.mp hp with rfl | hp
        · exact hc
        · exact h p hp)
      refine ⟨cl, ?_, h1, fun p hp => h2 p (List.mem_cons_of_mem _ hp), fun x hx => ?_⟩
      · rw [List.forIn_cons]
        have e2 : cellOf env n = pure c := by unfold cellOf; rw [hc]
        simp only [beq_self_eq_true, if_true, e2, pure_bind]
        exact e
      · rcases List.mem_cons.mp hx with z | hx
        · cases z
          exact ⟨c, h2 _ List.mem_cons_self⟩
        · exact h3 x hx
    · obtain ⟨cl, e, h1, h2, h3⟩ := closure_go env r cs (fun x hx => hf x (List.mem_cons_of_mem _ hx)) h
      refine ⟨cl, ?_, h1, h2, fun x hx => ?_⟩
      · rw [List.forIn_cons]
        have e2 : (k == NameKind.free) = false := by simpa using hk
        simp only [e2, Bool.false_eq_true, if_false, pure_bind]
        exact e
      · rcases List.mem_cons.mp hx with z | hx
        · cases z
          exact absurd rfl hk
        · exact h3 x hx
theorem closure_of {scope : Scope} {env : Env} (hf : ∀ x, (x, NameKind.free) ∈ scope.names → ∃ c, env.cells.lookup x = some c) :
    ∃ cl : List (Str × Addr), closureFor scope env = pure cl ∧ (∀ p ∈ cl, env.cells.lookup p.1 = some p.2) ∧ ∀ x, (x, NameKind.free) ∈ scope.names → ∃ c, (x, c) ∈ cl := by
  obtain ⟨cl, e, h1, _, h3⟩ := closure_go env scope.names [] hf (fun _ z => nomatch z)
  refine ⟨cl, ?_, h1, h3⟩
  unfold closureFor
  first
    | exact e
    | (show (do let cs ← forIn scope.names ([] : List (Str × Addr)) _; pure cs : Sem _) = _; rw [e]; rfl)
    | (simp only []; rw [e]; rfl)
section
variable {prog : Program} {w : World} {A : Around} {R : Result → Shared → Prop} {s : Shared}
theorem comp_loop {elt target iter : Expr} {ifs : List Expr} {scope : Scope} {pos : Pos} {it acc : Value} {env : Env} (I : Nat → Shared → Prop)
    (turn : ∀ n s, I n s → wpAny (model prog w) A (pyNext it) (fun r s₁ => match r with
      | none => R (.ok .next) s₁
      | some v => wpAny (model prog w) A (letOwnedTupleGo target it v) (fun _ s₀ => wpAny (model prog w) A (assign target env v) (fun _ s₂ =>
          wpAny (model prog w) A (forIn ifs true fun c r => if r = true then do let ok ← isTrue c env (eval c env); pure (ForInStep.yield ok) else pure (ForInStep.yield r)) (fun ok s₃ =>
            if ok = true then wpAny (model prog w) A (eval elt env) (fun x s₄ =>
              wpAny (model prog w) A (call (.builtin "list.append") [acc, x]) (fun _ s₅ => ∃ m, m < n ∧ I m s₅) (fun _ _ => False) s₄) (fun _ _ => False) s₃
            else ∃ m, m < n ∧ I m s₃) (fun _ _ => False) s₂) (fun _ _ => False) s₀) (fun _ _ => False) s₁) (fun _ _ => False) s)
    (n : Nat) (h : I n s) :
    codeAny (model prog w) A (.compLoop (.ListComp elt [⟨target, iter, ifs, 0⟩] scope pos) 0 it acc env) R s := by
  have ff : ∀ {E : Value → Shared → Prop} (x : Value) (s : Shared), False → E x s := fun _ _ z => z.elim
  refine codeAny_loop rfl I (fun n s hI => ?_) n h
  show wpAny _ A ((compTurn (.ListComp elt [⟨target, iter, ifs, 0⟩] scope pos) 0 it acc env).onRaise (fun x => do noteFrame x env; theTreesLotGoes x)) _ _ s
  refine wpAny_noted ?_
  rw [compTurn_list]
  refine wpAny_bind (wpAny_standAt (wpAny_bind (wpAny_mono (turn n s hI) (fun r s₁ h₁ => ?_) ff)))
  cases r with
  | none => exact wpAny_pure h₁
  | some v =>
    refine wpAny_bind (wpAny_mono h₁ (fun _ s₀ h₀ => ?_) ff)
    refine wpAny_bind (wpAny_mono h₀ (fun _ s₂ h₂ => wpAny_bind (wpAny_mono h₂ (fun ok s₃ h₃ => ?_) ff)) ff)
    cases ok with
    | true =>
      simp only [if_true] at h₃ ⊢
      refine wpAny_bind (wpAny_bind (wpAny_mono h₃ (fun x s₄ h₄ => wpAny_bind (wpAny_mono h₄ (fun _ s₅ h₅ => wpAny_pure (wpAny_pure ⟨rfl, h₅⟩)) ff)) ff))
    | false =>
      simp only [Bool.false_eq_true, if_false] at h₃ ⊢
      exact wpAny_pure ⟨rfl, h₃⟩
end
end DL
set_option Elab.async false
set_option linter.all false
set_option maxRecDepth 100000
set_option maxHeartbeats 4000000
namespace DL
open PySem PySem.Spec PyProof.Rows L2
def cyOf (X : Cx) (scope : Scope) (cl : List (Str × Addr)) (C : Addr) (NC : List Str) (s2 : Shared) (H2 : Hp) (pins : List (Addr × Obj)) (fp : List Addr) : Cx where
  prog := X.prog
  w := X.w
  K := X.K
  mg := X.mg
  base := X.base
  A := X.A
  N := NC
  s₀ := s2
  H₀ := H2
  env := compEnvC scope cl C X.env
  outer := X.stack
  stack := X.stack
  ex := fp
  fn := fun _ => false
  calm := X.calm
  pn := X.pn ++ pins
  xe := fun _ _ => False
theorem mem_of_lookup' {cl : List (Str × Addr)} {x : Str} {c : Addr} (h : cl.lookup x = some c) : (x, c) ∈ cl := PySem.mem_of_lookup h
theorem lookup_of_mem' {cl : List (Str × Addr)} {x : Str} : ∀ {c : Addr}, (x, c) ∈ cl → ∃ c', cl.lookup x = some c' := by
  induction cl with
  | nil => intro c h; cases h
  | cons p r ih =>
    intro c h
    rw [List.lookup_cons]
    cases hx : x == p.1 with
    | true => exact ⟨_, rfl⟩
    | false =>
      rcases List.mem_cons.mp h with e | h
      · subst e
        simp at hx
      · exact ih h
theorem relabel_free {env : Env} : ∀ {names : List (Str × NameKind)} {x : Str}, (∀ y ∈ names, y.2 ≠ .cell) →
    ((names.map fun (n, k) => if (k == NameKind.free && env.scope.kind == .function && env.kindOf n == some .cell) then (n, NameKind.cell) else (n, k)).lookup x = some .cell ∨
     (names.map fun (n, k) => if (k == NameKind.free && env.scope.kind == .function && env.kindOf n == some .cell) then (n, NameKind.cell) else (n, k)).lookup x = some .free) → (x, NameKind.free) ∈ names
  | [], x, _, h => by simp at h
  | (n, k) :: r, x, hc, h => by
    have ih := @relabel_free env r x (fun y hy => hc y (List.mem_cons_of_mem _ hy))
    by_cases hk : (k == NameKind.free && env.scope.kind == .function && env.kindOf n == some .cell) = true
    · have kf : k = .free := by
        rw [Bool.and_eq_true, Bool.and_eq_true] at hk
        exact eq_of_beq hk.1.1
      subst kf
      simp only [List.map_cons, hk, if_true, List.lookup_cons] at h
      cases hx : x == n with
      | true =>
        have : x = n := eq_of_beq hx
        subst this
        exact List.mem_cons_self
      | false =>
        simp only [hx] at h
        exact List.mem_cons_of_mem _ (ih h)
    · have hk' : (k == NameKind.free && env.scope.kind == .function && env.kindOf n == some .cell) = false := by simpa using hk
      simp only [List.map_cons, hk', Bool.false_eq_true, if_false, List.lookup_cons] at h
      cases hx : x == n with
      | true =>
        have : x = n := eq_of_beq hx
        subst this
        simp only [hx] at h
        have hne := hc (x, k) List.mem_cons_self
        rcases h with h | h
        · exact absurd (Option.some.inj h) hne
        · have : k = .free := Option.some.inj h
          subst this
          exact List.mem_cons_self
      | false =>
        simp only [hx] at h
        exact List.mem_cons_of_mem _ (ih h)
section
variable {X : Cx} {pins : List (Addr × Obj)} {σ : L2.St} {H2 : Hp} {s2 : Shared} {scope : Scope} {cl : List (Str × Addr)} {NC : List Str} {fp : List Addr} {C : Addr}
theorem cy_ok (I2 : Inv X pins σ H2 s2) (hf : ∀ b ∈ fp, FpOk X pins H2 b) (hob : ∀ b ∈ fp, ∃ o, s2.heap.get? b = some o ∧ ∀ v, o.data ≠ .cell v) (hkind : scope.kind = .function) (hcell : ∀ y ∈ scope.names, y.2 ≠ .cell)
    (hcl1 : ∀ p ∈ cl, X.env.cells.lookup p.1 = some p.2) (hcl2 : ∀ x, (x, NameKind.free) ∈ scope.names → ∃ c, (x, c) ∈ cl) (hC : s2.heap.objs.size ≤ C) : (cyOf X scope cl C NC s2 H2 pins fp).Ok := by
  have lk : ∀ x c, cl.lookup x = some c → X.env.cells.lookup x = some c := fun x c h => hcl1 (x, c) (mem_of_lookup' h)
  refine ⟨I2.ok.mod, hkind, I2.ok.glob, I2.ok.blt, hC, fun x y c h1 h2 => I2.ok.inj x y c (lk x c h1) (lk y c h2), fun x hx => ?_, fun x c h => absurd (show false = true from h) Bool.false_ne_true, I2.ok.hd, I2.ok.frames, .inl rfl, fun b hb => ⟨?_, fun x c h => ?_⟩, fun b o e => I2.bs b o e,
    Nat.le_trans I2.ok.bsz I2.sz, fun b o e hb => ?_, fun b hb hs => ?_, I2.stack, I2.stkFree⟩
  · obtain ⟨c, hc⟩ := hcl2 x (relabel_free (env := X.env) hcell hx)
    exact lookup_of_mem' hc
  · obtain ⟨o, ho, _⟩ := hob b hb
    exact Nat.ne_of_lt (Nat.lt_of_lt_of_le (Heap.lt_size ho) hC)
  · exact (hf b hb).2.2.2.2.1 x c (lk x c h)
  · rcases (hf b hb).2.2.2.1 with z | z
    · exact I2.ok.noex b o e z
    · exact absurd (Nat.lt_of_lt_of_le (Heap.lt_size e) (Nat.le_trans I2.ok.bsz z)) (Nat.lt_irrefl _)
  · rcases List.mem_cons.mp (I2.stkSub b hs) with z | z
    · exact (hf b hb).2.1 z
    · exact (hf b hb).2.2.1 z
theorem cy_start {σ' : L2.St} {h₁ : Heap} {tk : Nat} {mm : Str → Option Value} (I2 : Inv X pins σ H2 s2) (hf : ∀ b ∈ fp, FpOk X pins H2 b) (hob : ∀ b ∈ fp, ∃ o, s2.heap.get? b = some o ∧ ∀ v, o.data ≠ .cell v) (hkind : scope.kind = .function) (hcell : ∀ y ∈ scope.names, y.2 ≠ .cell)
    (hcl1 : ∀ p ∈ cl, X.env.cells.lookup p.1 = some p.2) (hcl2 : ∀ x, (x, NameKind.free) ∈ scope.names → ∃ c, (x, c) ∈ cl)
    (hlen : σ'.length = NC.length) (hσ : ∀ (i : Nat) (x : Str) (v : V), NC[i]? = some x → σ'[i]? = some (some v) → Vis (relabel scope X.env) x → ((relabel scope X.env).names.lookup x = some .cell ∨ (relabel scope X.env).names.lookup x = some .free) ∧ (X.env.kindOf x = some .cell ∨ X.env.kindOf x = some .free) ∧ ∃ j : Nat, X.N[j]? = some x ∧ σ[j]? = some (some v))
    (hC : C = s2.heap.objs.size + 1) (hns : h₁.Ns C mm) (hk : ∀ b u, s2.heap.get? b = some u → h₁.get? b = some u)
    (hD : h₁.get? s2.heap.objs.size = some { cls := .type "list", data := .seq ([] : List Value).toArray }) :
    Inv (cyOf X scope cl C NC s2 H2 pins fp) [] σ' (upd H2 s2.heap.objs.size (.lst [])) { s2 with heap := h₁, toks := tk } := by
  have lk : ∀ x c, cl.lookup x = some c → X.env.cells.lookup x = some c := fun x c h => hcl1 (x, c) (mem_of_lookup' h)
  have hn : H2 s2.heap.objs.size = none := I2.hok.fresh (Nat.le_refl _)
  have le1 : s2.heap.objs.size ≤ C := by rw [hC]; exact Nat.le_succ _
  have ne1 : C ≠ s2.heap.objs.size := by rw [hC]; exact Nat.succ_ne_self _
  have hCn : H2 C = none := I2.hok.fresh le1
  have neD : ∀ b o, s2.heap.get? b = some o → b ≠ s2.heap.objs.size := fun b o e => Nat.ne_of_lt (Heap.lt_size e)
  refine ⟨cy_ok I2 hf hob hkind hcell hcl1 hcl2 le1, rfl, I2.bare, Un.laid hk (Nat.le_refl _) hn, ⟨mm, hns, fun i x v h1 h2 h3 => ?_⟩, fun x c h => ?_, ?_, fun x c h => ?_, fun p hp => ?_, ?_, hlen⟩
  · obtain ⟨hy, hx, j, hj, hv⟩ := hσ i x v h1 h2 h3
    obtain ⟨m, hnX, hl⟩ := I2.loc
    have vis : Vis X.env.scope x := by rcases hx with z | z; exact .inr (.inl z); exact .inr (.inr z)
    obtain ⟨u, r, l⟩ := hl j x v hj hv vis
    refine ⟨u, r, .inr ⟨hy, ?_⟩⟩
    obtain ⟨c', hc'⟩ := hcl2 x (relabel_free (env := X.env) hcell hy)
    obtain ⟨c, hc⟩ := lookup_of_mem' hc'
    refine ⟨c, hc, ?_⟩
    rcases l with ⟨z, _⟩ | ⟨_, c2, e2, o, ho, hd⟩
    · rcases hx with q | q
      · rw [z] at q; cases q
      · rw [z] at q; cases q
    · have := lk x c hc
      rw [e2] at this
      cases this
      exact ⟨o, hk _ o ho, hd⟩
  · obtain ⟨v, o, ho, hd⟩ := I2.cell x c (lk x c h)
    exact ⟨v, o, hk _ o ho, hd⟩
  · show upd H2 s2.heap.objs.size (.lst []) C = none
    rw [upd_ne ne1]
    exact hCn
  · obtain ⟨v, o, ho, hd⟩ := I2.cell x c (lk x c h)
    rw [upd_ne (neD c o ho)]
    exact I2.freeC x c (lk x c h)
  · have hp' : p ∈ X.pn ++ pins := by
      rcases List.mem_append.mp hp with z | z
      · exact z
      · cases z
    obtain ⟨e, n, ne, nf, d⟩ := I2.pin p hp'
    refine ⟨hk _ _ e, by rw [upd_ne (neD _ _ e)]; exact n, ?_, fun z => ?_, d⟩
    · show p.1 ≠ C
      exact Nat.ne_of_lt (Nat.lt_of_lt_of_le (Heap.lt_size e) le1)
    · rcases List.mem_cons.mp (I2.stkSub p.1 z) with q | q
      · exact ne q
      · exact nf q
  · exact I2.hok.laid hk (Nat.le_refl _) ⟨Nat.zero_le _, [], 0, .nil, hD⟩
theorem cy_end {py : List (Addr × Obj)} {σ'' : L2.St} {H' : Hp} {s' : Shared} {h' : Heap} (I2 : Inv X pins σ H2 s2) (hf : ∀ b ∈ fp, FpOk X pins H2 b) (Iy : Inv (cyOf X scope cl C NC s2 H2 pins fp) py σ'' H' s') (hC : s2.heap.objs.size ≤ C) (hs : Heap.SameBut C s'.heap h') :
    Inv X pins σ H' { s' with heap := h' } := by
  have u : Un (frs X.stack) fp H2 H' s2.heap s'.heap := Iy.base
  have neC : ∀ b o, s2.heap.get? b = some o → b ≠ C := fun b o e => Nat.ne_of_lt (Nat.lt_of_lt_of_le (Heap.lt_size e) hC)
  have fC : H' C = none := Iy.free
  refine I2.call' (s' := { s' with heap := h' }) (ch := fp) Iy.os ⟨fun b o e n hb hx => (hs.2 b (neC b o e)).trans (u.keep b o e n hb hx), fun b o e n hb hx => ?_, u.free, fun b o e hx => ?_, u.tups, u.frzs, u.tbls⟩ (fun b o e => ?_) Iy.bare fun b hb => ?_
  · obtain ⟨sl, q⟩ := u.slot b o e n hb hx
    exact ⟨sl, (hs.2 b (neC b o e)).trans q⟩
  · obtain ⟨o', q⟩ := u.there b o e hx
    exact ⟨o', (hs.2 b (neC b o e)).trans q⟩
  · refine (Iy.hok b o e).stay (fun c v hc q => (hs.2 c ?_).trans q) (fun _ q => q) (fun _ _ q => q) fun _ _ _ q => q
    rintro rfl
    rcases hc with rfl | hc
    · rw [fC] at e; cases e
    · rw [fC] at hc; cases hc
  · obtain ⟨_, f1, _, f3, f4, f5⟩ := hf b hb
    exact ⟨f3, f1, f4, f5⟩
end
end DL
set_option Elab.async false
set_option linter.all false
set_option maxRecDepth 100000
set_option maxHeartbeats 4000000
namespace DL
open PySem PySem.Spec PyProof.Rows L2
section
variable {K : PySem.W.Frag} {Z Y : Addr → Prop} {m m' : Mu} {H H' : Hp}
mutual
/-- data elsewhere -/
theorem RP.tr (ht : ∀ a vs, SqT K H a vs → SqT K H' a vs) (hl : ∀ a vs, (m a = none ∧ ¬ Z a) → SqL K H a vs → (m' a = none ∧ ¬ Y a) ∧ SqL K H' a vs) : ∀ (p : PyData) (v : V), RP K Z m H p v → RP K Y m' H' p v
  | .none, v, h => by simpa only [RP] using h
  | .bool _, v, h => by simpa only [RP] using h
  | .int _, v, h => by simpa only [RP] using h
  | .str _, v, h => by simpa only [RP] using h
  | .tuple xs, v, h => by
    simp only [RP] at h ⊢
    obtain ⟨a, vs, h1, h2, h3⟩ := h
    exact ⟨a, vs, h1, ht a vs h2, RPs.tr ht hl xs vs h3⟩
  | .list xs, v, h => by
    simp only [RP] at h ⊢
    obtain ⟨a, vs, h1, h2, h3, h4⟩ := h
    obtain ⟨q1, q2⟩ := hl a vs h2 h3
    exact ⟨a, vs, h1, q1, q2, RPs.tr ht hl xs vs h4⟩
  | .dict _, v, h => by simp only [RP] at h
theorem RPs.tr (ht : ∀ a vs, SqT K H a vs → SqT K H' a vs) (hl : ∀ a vs, (m a = none ∧ ¬ Z a) → SqL K H a vs → (m' a = none ∧ ¬ Y a) ∧ SqL K H' a vs) : ∀ (xs : List PyData) (vs : List V), RPs K Z m H xs vs → RPs K Y m' H' xs vs
  | [], vs, h => by simpa only [RPs] using h
  | x :: xs, vs, h => by
    simp only [RPs] at h ⊢
    obtain ⟨v, r, h1, h2, h3⟩ := h
    exact ⟨v, r, h1, RP.tr ht hl x v h2, RPs.tr ht hl xs r h3⟩
end
def rsv (Z : Addr → Prop) (D : Addr) : Addr → Prop := fun a => Z a ∨ a = D
variable {D : Addr} {ys zs : List V}
theorem tr_new_l (hD : H D = none) (hk : K.lookup D = none) : ∀ a vs, (m a = none ∧ ¬ Z a) → SqL K H a vs → (m a = none ∧ ¬ rsv Z D a) ∧ SqL K (upd H D (.lst ys)) a vs := fun a vs h1 h2 =>
  ⟨⟨h1.1, fun z => z.elim h1.2 (SqL.ne hD hk h2)⟩, (same_new hD).seq h2⟩
theorem tr_put_t (hD : H D = some (.lst ys)) : ∀ a vs, SqT K H a vs → SqT K (upd H D (.lst zs)) a vs := fun b xs h => by
  rcases h with (h | ⟨o, h⟩) | h
  · have ne : b ≠ D := by rintro rfl; rw [hD] at h; cases h
    exact .inl (.inl (by rw [upd_ne ne]; exact h))
  · have ne : b ≠ D := by rintro rfl; rw [hD] at h; cases h
    exact .inl (.inr ⟨o, by rw [upd_ne ne]; exact h⟩)
  · exact .inr h
theorem sql_put {a : Addr} {vs : List V} (ne : a ≠ D) (h : SqL K H a vs) : SqL K (upd H D (.lst zs)) a vs := by
  rcases h with (h | ⟨o, h⟩) | h
  · exact .inl (.inl (by rw [upd_ne ne]; exact h))
  · exact .inl (.inr ⟨o, by rw [upd_ne ne]; exact h⟩)
  · exact .inr h
theorem tr_put_l : ∀ a vs, (m a = none ∧ ¬ rsv Z D a) → SqL K H a vs → (m a = none ∧ ¬ rsv Z D a) ∧ SqL K (upd H D (.lst zs)) a vs := fun a vs h1 h2 =>
  ⟨h1, sql_put (fun e => h1.2 (.inr e)) h2⟩
end
section
variable {K : PySem.W.Frag} {Z : Addr → Prop} {m m1 m' : Mu} {H H1 H' : Hp} {D : Addr} {ys zs : List V}
theorem rd_new {x : DL.D} {v : V} (hD : H D = none) (hk : K.lookup D = none) (h : RD K Z m H x v) : RD K (rsv Z D) m (upd H D (.lst ys)) x v := by
  cases x with
  | dat p => exact RP.tr (fun a vs q => SqT.same (same_new hD) q) (tr_new_l hD hk) p v h
  | cel a => exact h
theorem rd_put {x : DL.D} {v : V} (hD : H D = some (.lst ys)) (h : RD K (rsv Z D) m H x v) : RD K (rsv Z D) m (upd H D (.lst zs)) x v := by
  cases x with
  | dat p => exact RP.tr (tr_put_t hD) tr_put_l p v h
  | cel a => exact h
theorem ok_new (ok : Ok K Z m H) (hD : H D = none) (hk : K.lookup D = none) : Ok K (rsv Z D) m (upd H D (.lst ys)) := by
  refine ⟨fun a c h => ?_, fun a h => ?_⟩
  · obtain ⟨o, h1, h2⟩ := ok.g a c h
    have ne : a ≠ D := by rintro rfl; rw [hD] at h1; cases h1
    exact ⟨o, by rw [upd_ne ne]; exact h1, h2.lift fun p v q => RP.tr (fun a vs q => SqT.same (same_new hD) q) (tr_new_l hD hk) p v q⟩
  · rcases h with h | h
    · have ne : a ≠ D := by rintro rfl; exact (ok.z a h).2 hD
      exact ⟨(ok.z a h).1, by rw [upd_ne ne]; exact (ok.z a h).2⟩
    · subst h
      exact ⟨(ok_none ok hD).1, by rw [upd_same]; intro z; cases z⟩
theorem ok_put2 (ok : Ok K (rsv Z D) m H) (hD : H D = some (.lst ys)) : Ok K (rsv Z D) m (upd H D (.lst zs)) := by
  refine ⟨fun a c h => ?_, fun a h => ?_⟩
  · obtain ⟨o, h1, h2⟩ := ok.g a c h
    have ne : a ≠ D := by
      rintro rfl
      have := (ok.z a (.inr rfl)).1
      rw [h] at this
      cases this
    exact ⟨o, by rw [upd_ne ne]; exact h1, h2.lift fun p v q => RP.tr (tr_put_t hD) tr_put_l p v q⟩
  · by_cases e : a = D
    · subst e
      exact ⟨(ok.z a h).1, by rw [upd_same]; intro z; cases z⟩
    · exact ⟨(ok.z a h).1, by rw [upd_ne e]; exact (ok.z a h).2⟩
theorem ok_out (ok : Ok K (rsv Z D) m H) : Ok K Z m H := by
  refine ⟨fun a c h => ?_, fun a h => ok.z a (.inl h)⟩
  obtain ⟨o, h1, h2⟩ := ok.g a c h
  exact ⟨o, h1, h2.lift fun p v q => RP.tr (fun _ _ q => q) (fun a vs q1 q2 => ⟨⟨q1.1, fun z => q1.2 (.inl z)⟩, q2⟩) p v q⟩
theorem ext_inner (e : Ext K Z m1 H1 m H) (hD : H1 D = none) (hk : K.lookup D = none) (e2 : Ext K (rsv Z D) m H m' H') : Ext K Z m1 H1 m' H' :=
  ⟨fun a vs h => e2.t a vs (e.t a vs h), fun a vs h1 h2 => let ⟨q1, q2⟩ := e.l a vs h1 h2; e2.l a vs ⟨q1, fun z => z.elim h1.2 (SqL.ne hD hk h2)⟩ q2, fun a h => (e2.z a (.inl h)).trans (e.z a h), fun a h => e2.c a (e.c a h), fun a o u h => e2.fz a o u (e.fz a o u h), fun a h => by
    have q := e.fm a h
    rw [e2.fm a (by rw [q]; exact h), q]⟩
theorem ext_put2 (e : Ext K Z m1 H1 m H) (ok1 : Ok K Z m1 H1) (hD : H1 D = none) (hk : K.lookup D = none) (hH : H D = some (.lst ys)) : Ext K Z m1 H1 m (upd H D (.lst zs)) :=
  ⟨fun a vs h => tr_put_t hH a vs (e.t a vs h), fun a vs h1 h2 => let ⟨q1, q2⟩ := e.l a vs h1 h2; ⟨q1, sql_put (SqL.ne hD hk h2) q2⟩, fun a h => by
    have ne : a ≠ D := by rintro rfl; exact (ok1.z a h).2 hD
    rw [upd_ne ne]
    exact e.z a h, e.c, fun a o u h => by
    have q := e.fz a o u h
    rw [upd_ne (by rintro rfl; rw [hH] at q; cases q)]
    exact q, e.fm⟩
end
def loopC (g : DG) (t : DT) (f : DE) : List D → List PyData → St2 → Mu → (List PyData → Mu → Prop) → Prop
  | [], acc, _, m, Q => Q acc m
  | x :: xs, acc, d, m, Q => g x d m fun d1 m1 => t d1 m1 fun b m2 => if b = true then f d1 m2 fun y m3 => ∃ p, y = .dat p ∧ acc.length < sizeLine ∧ loopC g t f xs (acc ++ [p]) d1 m3 Q else loopC g t f xs acc d1 m2 Q
def srcOf {α : Type} (src : List (Option Nat)) (d : List (Option α)) : List (Option α) := src.map fun o => o.bind fun j => (d[j]?).join
@[simp] def dLC (src : List (Option Nat)) (fi : DI) (g : DG) (t : DT) (f : DE) : DE := fun d m Q => fi d m fun xs m1 => loopC g t f xs [] (srcOf src d) m1 fun ps m2 => Q (.dat (.list ps)) m2
def PF (Y : Cx) (ifs : List Expr) (t : TT) : Prop := ∀ (pins : List (Addr × Obj)) (s : Shared) (σ : L2.St) (H : Hp) (Q : Bool → Hp → Prop), Inv Y pins σ H s → t σ H Q →
  wpAny (model Y.prog Y.w) Y.A (forIn ifs true fun c r => if r = true then do let ok ← isTrue c Y.env (eval c Y.env); pure (ForInStep.yield ok) else pure (ForInStep.yield r)) (TP Y pins σ Q) Y.xe s
@[simp] def dTrue : DT := fun _ m Q => Q true m
theorem pf_nil {Y : Cx} : PF Y [] (LT Y.K dTrue) := fun pins s σ H Q I h => by
  obtain ⟨Z, d, m, R, ok, rs, h, k⟩ := h
  exact wpAny_tests_nil ⟨H, I, k true m H h Ext.refl ok⟩
theorem pf_one {Y : Cx} {c : Expr} {t : TT} (h : PT Y c t) : PF Y [c] t := fun pins s σ H Q I q => wpAny_tests_one (h pins s σ H Q I q)
theorem rs_src {K : PySem.W.Frag} {Z : Addr → Prop} {m : Mu} {H : Hp} {d : St2} {σ : L2.St} (src : List (Option Nat)) (rs : RS K Z m H d σ) : RS K Z m H (srcOf src d) (srcOf src σ) := by
  refine ⟨by unfold srcOf; rw [List.length_map, List.length_map], fun i x h => ?_⟩
  unfold srcOf at h ⊢
  rw [List.getElem?_map] at h ⊢
  cases e : src[i]? with
  | none => rw [e] at h; cases h
  | some o =>
    rw [e] at h
    cases o with
    | none => cases h
    | some j =>
      have h' : (d[j]?).join = some x := Option.some.inj h
      cases ej : d[j]? with
      | none => rw [ej] at h'; cases h'
      | some w =>
        rw [ej] at h'
        have h2 : w = some x := h'
        subst h2
        obtain ⟨v, q1, q2⟩ := rs.2 j x ej
        exact ⟨v, by rw [Option.map_some, Option.bind_some, q1]; rfl, q2⟩
theorem srcOf_get {α : Type} {src : List (Option Nat)} {d : List (Option α)} {i : Nat} {v : α} (h : (srcOf src d)[i]? = some (some v)) : ∃ j : Nat, src[i]? = some (some j) ∧ d[j]? = some (some v) := by
  unfold srcOf at h
  rw [List.getElem?_map] at h
  cases e : src[i]? with
  | none => rw [e] at h; cases h
  | some o =>
    rw [e] at h
    cases o with
    | none => cases h
    | some j =>
      have h' : (d[j]?).join = some v := Option.some.inj h
      cases ej : d[j]? with
      | none => rw [ej] at h'; cases h'
      | some w =>
        rw [ej] at h'
        have h2 : w = some v := h'
        subst h2
        exact ⟨j, rfl, ej⟩
end DL
set_option Elab.async false
set_option linter.all false
set_option maxRecDepth 100000
set_option maxHeartbeats 4000000
namespace DL
open PySem PySem.Spec PyProof.Rows L2
theorem rd_cross {K : PySem.W.Frag} {Z : Addr → Prop} {m1 m' : Mu} {H1 H' : Hp} {D : Addr} {x : DL.D} {v : V} (hD : H1 D = none) (hk : K.lookup D = none) (e : Ext K Z m1 H1 m' H') (h : RD K Z m1 H1 x v) : RD K (rsv Z D) m' H' x v := by
  cases x with
  | dat p => exact RP.tr e.t (fun a vs h1 h2 => let ⟨q1, q2⟩ := e.l a vs h1 h2; ⟨⟨q1, fun z => z.elim h1.2 (SqL.ne hD hk h2)⟩, q2⟩) p v h
  | cel a => exact ⟨h.1, e.c a h.2⟩
section
variable {X : Cx} {tg iter elt : Expr} {ifs : List Expr} {scope : Scope} {NC : List Str} {fi : DI} {g : DG} {t : DT} {f : DE} {pos : Pos}
def srcChk (X : Cx) (scope : Scope) (NC : List Str) (src : List (Option Nat)) : Prop := NC.length = src.length ∧ ∀ (i : Nat) (x : Str) (j : Nat), NC[i]? = some x → src[i]? = some (some j) → X.N[j]? = some x ∧ (x, NameKind.free) ∈ scope.names ∧
  ((relabel scope X.env).names.lookup x = some .cell ∨ (relabel scope X.env).names.lookup x = some .free)
structure Off (X : Cx) (pins : List (Addr × Obj)) (H : Hp) (C : Addr) : Prop where
  h : H C = none
  l : C ≠ X.env.locals
  s : X.s₀.heap.objs.size ≤ C
  c : ∀ x c, X.env.cells.lookup x = some c → c ≠ C
  p : ∀ p ∈ X.pn ++ pins, p.1 ≠ C
theorem Off.inv {pins : List (Addr × Obj)} {σ : L2.St} {H : Hp} {s : Shared} {C : Addr} {h' : Heap} (o : Off X pins H C) (I : Inv X pins σ H s) (hs : Heap.SameBut C s.heap h') : Inv X pins σ H { s with heap := h' } :=
  I.turned (t' := s.toks) (it := C) (fun b ob hb e => (hs.2 b hb).trans e) o.h o.l (.inr o.s) o.c o.p
theorem lc_core (src : List (Option Nat)) (hc : X.calm = true) (hi : PI X tg iter (LI X.K fi))
    (hg : ∀ cl C s2 H2 pins fp, PG (cyOf X scope cl C NC s2 H2 pins fp) tg (LG X.K g)) (ht : ∀ cl C s2 H2 pins fp, PF (cyOf X scope cl C NC s2 H2 pins fp) ifs (LT X.K t)) (he : ∀ cl C s2 H2 pins fp, PE (cyOf X scope cl C NC s2 H2 pins fp) elt (LE X.K f))
    (hkind : scope.kind = .function) (hcell : ∀ y ∈ scope.names, y.2 ≠ .cell) (hnames : ∀ y ∈ scope.names, y.2 = .local → scope.names.lookup y.1 = some .local)
    (hfree : ∀ x, (x, NameKind.free) ∈ scope.names → X.env.kindOf x = some .cell ∨ X.env.kindOf x = some .free) (hsrc : srcChk X scope NC src)
    (hs : ∀ x, foldedSetIterable iter X.env x = pure x) {use : Option (Value → Sem Unit)} {QQ : Value → Shared → Prop} {pos' : Pos} {pins : List (Addr × Obj)} {s : Shared} {σ : L2.St} {H : Hp} {Z : Addr → Prop} {d : St2} {m : Mu} {RL : List PyData → Mu → Prop}
    (I : Inv X pins σ H s) (ok : Ok X.K Z m H) (rs : RS X.K Z m H d σ) (h : fi d m fun xs m1 => loopC g t f xs [] (srcOf src d) m1 RL)
    (fin : ∀ (s5 : Shared) (C D : Addr) (H' : Hp) (m' : Mu) (ps : List PyData), RL ps m' → Ext X.K Z m H m' H' → Ok X.K Z m' H' → RD X.K Z m' H' (.dat (.list ps)) (.ref D) → (∃ mm, s5.heap.Ns C mm) → Inv X pins σ H' s5 → Off X pins H' C → (m' D = none ∧ Ext X.K Z m H (updM m' D (.l ps)) H' ∧ Ok X.K Z (updM m' D (.l ps)) H') →
      compPost (model X.prog X.w) X.A X.xe use QQ (.ref D) C (.ok .next) s5) :
    wpAny (model X.prog X.w) X.A (comprehension (.ListComp elt [⟨tg, iter, ifs, 0⟩] scope pos) scope X.env pos' (newList []) false (eval iter X.env) use) QQ X.xe s := by
  obtain ⟨cl, hclos, hcl1, hcl2⟩ := closure_of (scope := scope) (env := X.env) fun x hx => I.ok.has x (hfree x hx)
  refine wpAny_comprehension_free (use := use) rfl hs hclos hkind hnames ?_
  refine thn (hi pins s σ H (fun J H1 => ∃ xs m1, Ext X.K Z m H m1 H1 ∧ Ok X.K Z m1 H1 ∧ Yields X.K Z m1 H1 xs J ∧ loopC g t f xs [] (srcOf src d) m1 RL) I
    ⟨Z, d, m, _, ok, rs, h, fun xs m1 H1 J q e1 ok1 y1 => ⟨xs, m1, e1, ok1, y1, q⟩⟩) fun xv s₁ h₁ => thn h₁ fun itv s₂ h₂ => ?_
  obtain ⟨it, fp, tn, J, H2, eit, I2, T, st2, f2, xs, m1, e1, ok1, yl, lp⟩ := h₂
  subst eit
  refine wpAny_newObj_type (wpAny_newFunctionEnv hcell (by intro y hy; simp at hy) (fun h₁ hns₁ hsb₁ => ?_) hkind)
  dsimp only at hns₁ hsb₁ ⊢
  generalize hH2 : s₂.heap.push { cls := .type "list", dict := none, data := .seq ([] : List Value).toArray } = HP at hns₁ hsb₁ ⊢
  have hC : HP.objs.size = s₂.heap.objs.size + 1 := by rw [← hH2, Heap.size_push]
  have leC : s₂.heap.objs.size ≤ HP.objs.size := by rw [hC]; exact Nat.le_succ _
  have old : ∀ b o, s₂.heap.get? b = some o → h₁.get? b = some o := fun b o e => hsb₁.extBut b o (Nat.ne_of_lt (Nat.lt_of_lt_of_le (Heap.lt_size e) leC)) (Heap.get?_push_of_some _ (hH2 ▸ Heap.get?_push_of_some _ e))
  have hacc : h₁.get? s₂.heap.objs.size = some { cls := .type "list", data := .seq ([] : List Value).toArray } := hsb₁.extBut _ _ (by rw [hC]; exact Nat.ne_of_lt (Nat.lt_succ_self _)) (Heap.get?_push_of_some _ (hH2 ▸ Heap.get?_push_size _ rfl))
  have hD : H2 s₂.heap.objs.size = none := I2.hok.fresh (Nat.le_refl _)
  have hkD : X.K.lookup s₂.heap.objs.size = none := by
    cases e : X.K.lookup s₂.heap.objs.size with
    | none => rfl
    | some o => exact absurd (Heap.lt_size (I2.kIn _ o e)) (Nat.lt_irrefl _)
  have obf : ∀ b ∈ fp, ∃ o, s₂.heap.get? b = some o ∧ ∀ v, o.data ≠ .cell v := T.obj 0 _ st2
  have hσ : ∀ (i : Nat) (x : Str) (v : V), NC[i]? = some x → (srcOf src σ)[i]? = some (some v) → Vis (relabel scope X.env) x → ((relabel scope X.env).names.lookup x = some .cell ∨ (relabel scope X.env).names.lookup x = some .free) ∧ (X.env.kindOf x = some .cell ∨ X.env.kindOf x = some .free) ∧ ∃ j : Nat, X.N[j]? = some x ∧ σ[j]? = some (some v) := fun i x v h1 h2 _ => by
    obtain ⟨j, q1, q2⟩ := srcOf_get h2
    obtain ⟨a1, a2, a3⟩ := hsrc.2 i x j h1 q1
    exact ⟨a3, hfree x a2, j, a1, q2⟩
  have I4 := fun tk => cy_start (cl := cl) (NC := NC) (σ' := srcOf src σ) (tk := tk) I2 f2 obf hkind hcell hcl1 hcl2 (by unfold srcOf; rw [List.length_map]; exact hsrc.1.symm) hσ hC hns₁ old hacc
  have st4 : tn 0 h₁ := T.keep 0 _ _ st2 fun b _ o e => old b o e
  -- the loop
  have loop : ∀ s₃ : Shared, s₃ = { s₂ with heap := h₁, toks := s₂.toks + ([] : List (Str × Value)).length } →
      codeAny (model X.prog X.w) X.A (.compLoop (.ListComp elt [⟨tg, iter, ifs, 0⟩] scope pos) 0 (.ref it) (.ref s₂.heap.objs.size) (compEnvC scope cl HP.objs.size X.env))
        (compPost (model X.prog X.w) X.A X.xe use QQ (.ref s₂.heap.objs.size) HP.objs.size) s₃ := by
    rintro s₃ rfl
    refine comp_loop (fun n s' => ∃ (i : Nat) (ys : List V) (acc : List PyData) (d' : St2) (m' : Mu) (σ' : L2.St) (H' : Hp), n = xs.length - i ∧ i ≤ xs.length ∧ Inv (cyOf X scope cl HP.objs.size NC s₂ H2 pins fp) [] σ' H' s' ∧ tn i s'.heap ∧ (∀ b ∈ fp, H' b = none) ∧
      H' s₂.heap.objs.size = some (.lst ys) ∧ RPs X.K (rsv Z s₂.heap.objs.size) m' H' acc ys ∧ Ext X.K Z m1 H2 m' H' ∧ Ok X.K (rsv Z s₂.heap.objs.size) m' H' ∧ RS X.K (rsv Z s₂.heap.objs.size) m' H' d' σ' ∧
      loopC g t f (xs.drop i) acc d' m' RL) ?_ xs.length ?_
    rotate_left
    · have rs1 : RS X.K Z m1 H2 (srcOf src d) (srcOf src σ) := rs_src src (rs.ext e1)
      refine ⟨0, [], [], srcOf src d, m1, srcOf src σ, _, by simp, Nat.zero_le _, I4 _, st4, fun b hb => ?_, upd_same, by simp [RPs], ok1.ext (same_new hD), ok_new ok1 hD hkD, ⟨rs1.1, fun i x hx => ?_⟩, by simpa using lp⟩
      · obtain ⟨o, ho, _⟩ := obf b hb
        rw [upd_ne (Nat.ne_of_lt (Heap.lt_size ho))]
        exact (f2 b hb).1
      · obtain ⟨v, q1, q2⟩ := rs1.2 i x hx
        exact ⟨v, q1, rd_new hD hkD q2⟩
    rintro n s4 ⟨i, ys, acc, d', m', σ', H', rfl, hi', I5, st5, fr5, hDy, racc, eX, ok5, rs5, lp5⟩
    have stat : ∀ b ∈ fp, FpOk (cyOf X scope cl HP.objs.size NC s₂ H2 pins fp) [] H' b := fun b hb => by
      obtain ⟨g0, g1, g2, g3, g4, g5⟩ := f2 b hb
      obtain ⟨o, ho, _⟩ := obf b hb
      refine ⟨fr5 b hb, Nat.ne_of_lt (Nat.lt_of_lt_of_le (Heap.lt_size ho) leC), fun z => ?_, .inl hb, fun x c e => g4 x c (hcl1 (x, c) (mem_of_lookup' e)), fun p hp => ?_⟩
      · rcases List.mem_cons.mp (I2.stkSub b z) with q | q
        · exact g1 q
        · exact g2 q
      · rcases List.mem_append.mp hp with q | q
        · exact g5 p q
        · cases q
    obtain ⟨y1, y2⟩ := yl m' H' eX.y
    by_cases hlt : i < xs.length
    · rw [List.drop_eq_getElem_cons hlt] at lp5
      obtain ⟨go, yd⟩ := y1 i xs[i] (List.getElem?_eq_getElem hlt)
      refine thn (T.item (cyOf X scope cl HP.objs.size NC s₂ H2 pins fp) rfl rfl rfl hc i [] s4 σ' H' (fun _ _ => False) I5 stat st5 go) fun r s5 hq0 => ?_
      obtain ⟨u, hr, h5⟩ := hq0
      subst hr
      refine thn h5 fun _ s6 hq0 => ?_
      obtain ⟨x, H6, I6, r6, yy, st6, fr6⟩ := hq0
      have yy' := yd x H6 yy
      have e56 : Ext X.K (rsv Z s₂.heap.objs.size) m' H' m' H6 := ok5.ext yy'.same
      have rv := yy'.rd (fun d v h => rd_cross hD hkD eX h) ok5
      have hDy := yy'.same _ _ hDy
      have racc := RPs.ext e56 _ _ racc
      have eX := ext_inner eX hD hkD e56
      have rs5 := rs5.ext e56
      have ok5 := ok5.grow yy'.same
      have stat : ∀ b ∈ fp, FpOk (cyOf X scope cl HP.objs.size NC s₂ H2 pins fp) [] H6 b := fun b hb => ⟨fr6 b hb, (stat b hb).2⟩
      have I6' := I6.pinned stat (T.obj _ _ st6)
      -- what stands when a turn is over
      have over : ∀ {s7 : Shared} {σ7 : L2.St} {H7 : Hp} {ys7 : List V} {acc7 : List PyData} {d7 : St2} {m7 : Mu}, Inv (cyOf X scope cl HP.objs.size NC s₂ H2 pins fp) ([] ++ pinsAt fp s6.heap) σ7 H7 s7 → H7 s₂.heap.objs.size = some (.lst ys7) → RPs X.K (rsv Z s₂.heap.objs.size) m7 H7 acc7 ys7 →
          Ext X.K Z m1 H2 m7 H7 → Ok X.K (rsv Z s₂.heap.objs.size) m7 H7 → RS X.K (rsv Z s₂.heap.objs.size) m7 H7 d7 σ7 → (loopC g t f (xs.drop (i + 1)) acc7 d7 m7 RL) →
          ∃ n, n < xs.length - i ∧ ∃ (i : Nat) (ys : List V) (acc : List PyData) (d' : St2) (m' : Mu) (σ' : L2.St) (H' : Hp), n = xs.length - i ∧ i ≤ xs.length ∧ Inv (cyOf X scope cl HP.objs.size NC s₂ H2 pins fp) [] σ' H' s7 ∧ tn i s7.heap ∧ (∀ b ∈ fp, H' b = none) ∧
            H' s₂.heap.objs.size = some (.lst ys) ∧ RPs X.K (rsv Z s₂.heap.objs.size) m' H' acc ys ∧ Ext X.K Z m1 H2 m' H' ∧ Ok X.K (rsv Z s₂.heap.objs.size) m' H' ∧ RS X.K (rsv Z s₂.heap.objs.size) m' H' d' σ' ∧
            loopC g t f (xs.drop i) acc d' m' RL := by
        intro s7 σ7 H7 ys7 acc7 d7 m7 I7 a1 a2 a3 a4 a5 a6
        refine ⟨xs.length - (i + 1), by omega, i + 1, ys7, acc7, d7, m7, σ7, H7, rfl, hlt, I7.unpinned, T.keep _ _ _ st6 fun b hb o e => (I7.pin (b, o) (List.mem_append_right _ (List.mem_append_right _ (mem_pinsAt hb e)))).1, fun b hb => ?_, a1, a2, a3, a4, a5, a6⟩
        obtain ⟨o, e, dd⟩ := T.obj _ _ st6 b hb
        exact (I7.pin (b, o) (List.mem_append_right _ (List.mem_append_right _ (mem_pinsAt hb e)))).2.1
      refine thn (hg cl _ s₂ H2 pins fp _ s6 σ' _ x u (fun σ7 H7 => ∃ d7 m7, Ext X.K (rsv Z s₂.heap.objs.size) m' H6 m7 H7 ∧ Ok X.K (rsv Z s₂.heap.objs.size) m7 H7 ∧ RS X.K (rsv Z s₂.heap.objs.size) m7 H7 d7 σ7 ∧
        t d7 m7 fun b m2 => if b = true then f d7 m2 fun y m3 => ∃ p, y = .dat p ∧ acc.length < sizeLine ∧ loopC g t f (xs.drop (i + 1)) (acc ++ [p]) d7 m3 RL else loopC g t f (xs.drop (i + 1)) acc d7 m2 RL) I6' r6
        ⟨_, xs[i], d', m', _, ok5, rs5, rv, lp5, fun d7 m7 σ7 H7 q7 e7 ok7 rs7 => ⟨d7, m7, e7, ok7, rs7, q7⟩⟩) fun _ s7 hq0 => ?_
      obtain ⟨σ7, H7, I7, d7, m7, e7, ok7, rs7, q7⟩ := hq0
      refine thn (ht cl _ s₂ H2 pins fp _ s7 σ7 H7 (fun b H8 => ∃ m8, Ext X.K (rsv Z s₂.heap.objs.size) m7 H7 m8 H8 ∧ Ok X.K (rsv Z s₂.heap.objs.size) m8 H8 ∧
        if b = true then f d7 m8 fun y m3 => ∃ p, y = .dat p ∧ acc.length < sizeLine ∧ loopC g t f (xs.drop (i + 1)) (acc ++ [p]) d7 m3 RL else loopC g t f (xs.drop (i + 1)) acc d7 m8 RL) I7
        ⟨_, d7, m7, _, ok7, rs7, q7, fun b m8 H8 q8 e8 ok8 => ⟨m8, e8, ok8, q8⟩⟩) fun b s8 hq0 => ?_
      obtain ⟨H8, I8, m8, e8, ok8, q8⟩ := hq0
      have e68 := e7.trans e8
      have hD8 : H8 s₂.heap.objs.size = some (.lst ys) := (e68.z _ (.inr rfl)).trans hDy
      cases b with
      | false =>
        rw [if_neg Bool.false_ne_true] at q8
        exact over I8 hD8 (RPs.ext e68 _ _ racc) (ext_inner eX hD hkD e68) ok8 (rs7.ext e8) q8
      | true =>
        rw [if_pos rfl] at q8
        refine thn (he cl _ s₂ H2 pins fp _ s8 σ7 H8 (fun v H9 => ∃ p m9, RP X.K (rsv Z s₂.heap.objs.size) m9 H9 p v ∧ Ext X.K (rsv Z s₂.heap.objs.size) m8 H8 m9 H9 ∧ Ok X.K (rsv Z s₂.heap.objs.size) m9 H9 ∧ acc.length < sizeLine ∧ loopC g t f (xs.drop (i + 1)) (acc ++ [p]) d7 m9 RL) I8
          ⟨_, d7, m8, _, ok8, rs7.ext e8, q8, fun y m9 v H9 hq1 e9 ok9 r9 => by
            obtain ⟨p, ey, hz, q9⟩ := hq1
            subst ey
            exact ⟨p, m9, r9, e9, ok9, hz, q9⟩⟩) fun yv s9 hq0 => ?_
        obtain ⟨y, H9, I9, ry, p, m9, rp9, e9, ok9, hz, q9⟩ := hq0
        have e69 := e68.trans e9
        have hD9 : H9 s₂.heap.objs.size = some (.lst ys) := (e69.z _ (.inr rfl)).trans hDy
        have racc9 := RPs.ext e69 _ _ racc
        have rs9 := (rs7.ext e8).ext e9
        refine thn (mt_append _ s9 σ7 H9 (.ref s₂.heap.objs.size) [y] (.ref s₂.heap.objs.size) [yv] (fun v H10 => H10 = upd H9 s₂.heap.objs.size (.lst (ys ++ [y]))) I9 rfl (.cons ry .nil) ⟨_, ys, y, rfl, rfl, hD9, by rw [racc9.length]; exact hz, rfl⟩) fun rv s10 hq0 => ?_
        obtain ⟨v10, H10, I10, _, e10⟩ := hq0
        subst e10
        refine over I10 upd_same ?_ (ext_put2 (ext_inner eX hD hkD e69) ok1 hD hkD hD9) (ok_put2 ok9 hD9) ⟨rs9.1, fun j z hj => ?_⟩ q9
        · exact RPs.tr (tr_put_t hD9) tr_put_l _ _ (racc9.append (by simp only [RPs]; exact ⟨y, [], rfl, rp9, rfl⟩))
        · obtain ⟨v, a1, a2⟩ := rs9.2 j z hj
          exact ⟨v, a1, rd_put hD9 a2⟩
    · have e : i = xs.length := by omega
      subst e
      rw [List.drop_length] at lp5
      refine thn (T.done (cyOf X scope cl HP.objs.size NC s₂ H2 pins fp) rfl rfl rfl hc _ [] s4 σ' H' (fun _ _ => False) I5 stat st5 y2) fun r s5 hq0 => ?_
      obtain ⟨hr, I6⟩ := hq0
      subst hr
      have IX := cy_end I2 f2 I6 leC (Heap.SameBut.refl _ _)
      have nz : ¬ Z s₂.heap.objs.size := fun z => (ok1.z _ z).2 hD
      refine fin s5 HP.objs.size s₂.heap.objs.size H' m' acc lp5 (e1.trans eX) (ok_out ok5) ?_ ⟨_, I6.loc.choose_spec.1⟩ IX ⟨I6.free, Nat.ne_of_gt (Nat.lt_of_lt_of_le I2.lt leC), Nat.le_trans I2.sz leC, fun x c e => ?_, fun p hp => ?_⟩ ⟨(ok5.z _ (.inr rfl)).1, ?_, ?_⟩
      · simp only [RD, RP]
        exact ⟨_, ys, rfl, ⟨(ok5.z _ (.inr rfl)).1, nz⟩, .inl (.inl hDy), RPs.tr (fun _ _ q => q) (fun a vs q1 q2 => ⟨⟨q1.1, fun z => q1.2 (.inl z)⟩, q2⟩) _ _ racc⟩
      · obtain ⟨v, q⟩ := I2.cell x c e
        exact Nat.ne_of_lt (Nat.lt_of_lt_of_le q.lt leC)
      · exact Nat.ne_of_lt (Nat.lt_of_lt_of_le (Heap.lt_size (I2.pin p hp).1) leC)
      · refine ⟨fun a vs q => (e1.trans eX).t a vs q, fun a vs q1 q2 => ?_, fun a q => (e1.trans eX).z a q, fun a q => ?_, (e1.trans eX).fz, fun a q => ?_⟩
        · obtain ⟨_, q3⟩ := e1.l a vs q1 q2
          have ne := SqL.ne hD hkD q3
          obtain ⟨q4, q5⟩ := (e1.trans eX).l a vs q1 q2
          exact ⟨by rw [updM_ne ne]; exact q4, q5⟩
        · by_cases ea : a = s₂.heap.objs.size
          · subst ea; rw [updM_same]; rfl
          · rw [updM_ne ea]; exact (e1.trans eX).c a q
        · have fq := (e1.trans eX).fm a q
          have ne : a ≠ s₂.heap.objs.size := by
            rintro rfl
            rw [(ok5.z _ (.inr rfl)).1] at fq
            rw [← fq] at q
            cases q
          rw [updM_ne ne]
          exact fq
      · have tr : ∀ (a : Addr) (vs : List V), (m' a = none ∧ ¬ rsv Z s₂.heap.objs.size a) → SqL X.K H' a vs → (updM m' s₂.heap.objs.size (.l acc) a = none ∧ ¬ Z a) ∧ SqL X.K H' a vs := fun a vs q1 q2 => ⟨⟨by rw [updM_ne fun z => q1.2 (.inr z)]; exact q1.1, fun z => q1.2 (.inl z)⟩, q2⟩
        refine ⟨fun a c q => ?_, fun a q => ?_⟩
        · by_cases ea : a = s₂.heap.objs.size
          · subst ea
            rw [updM_same] at q
            cases q
            exact ⟨_, hDy, RPs.tr (fun _ _ q => q) tr _ _ racc⟩
          · rw [updM_ne ea] at q
            obtain ⟨o, q1, q2⟩ := ok5.g a c q
            exact ⟨o, q1, q2.lift fun p v q3 => RP.tr (fun _ _ q => q) tr p v q3⟩
        · have ne : a ≠ s₂.heap.objs.size := fun z => nz (z ▸ q)
          obtain ⟨q1, q2⟩ := ok5.z a (.inl q)
          exact ⟨by rw [updM_ne ne]; exact q1, q2⟩
  exact codeAny_compStart_list (loop _ rfl) (T.self _ 0 _ _ _ st4 (loop _ rfl))
theorem le_lc (src : List (Option Nat)) (hc : X.calm = true) (hi : PI X tg iter (LI X.K fi))
    (hg : ∀ cl C s2 H2 pins fp, PG (cyOf X scope cl C NC s2 H2 pins fp) tg (LG X.K g)) (ht : ∀ cl C s2 H2 pins fp, PF (cyOf X scope cl C NC s2 H2 pins fp) ifs (LT X.K t)) (he : ∀ cl C s2 H2 pins fp, PE (cyOf X scope cl C NC s2 H2 pins fp) elt (LE X.K f))
    (hkind : scope.kind = .function) (hcell : ∀ y ∈ scope.names, y.2 ≠ .cell) (hnames : ∀ y ∈ scope.names, y.2 = .local → scope.names.lookup y.1 = some .local)
    (hfree : ∀ x, (x, NameKind.free) ∈ scope.names → X.env.kindOf x = some .cell ∨ X.env.kindOf x = some .free) (hsrc : srcChk X scope NC src)
    (hs : ∀ x, foldedSetIterable iter X.env x = pure x := by intro _; rfl) :
    PE X (.ListComp elt [⟨tg, iter, ifs, 0⟩] scope pos) (LE X.K (dLC src fi g t f)) := by
  intro pins s σ H Q I h
  obtain ⟨Z, d, m, R, ok, rs, h, k⟩ := h
  rw [eval_ListComp]
  refine lc_core src hc hi hg ht he hkind hcell hnames hfree hsrc hs (use := none) (QQ := EP X pins σ Q) (RL := fun ps m2 => R (.dat (.list ps)) m2) I ok rs h ?_
  intro s5 C D H' m' ps q e ok' rd ⟨mm, hns⟩ I5 off hcl
  exact ⟨mm, hns, fun h' hs' => ⟨.ref D, H', off.inv I5 hs', rfl, k _ m' _ H' q e ok' rd⟩⟩
theorem ls_lc (i : Nat) {y : Str} {py spos : Pos} (src : List (Option Nat)) (hc : X.calm = true) (hi : PI X tg iter (LI X.K fi))
    (hg : ∀ cl C s2 H2 pins fp, PG (cyOf X scope cl C NC s2 H2 pins fp) tg (LG X.K g)) (ht : ∀ cl C s2 H2 pins fp, PF (cyOf X scope cl C NC s2 H2 pins fp) ifs (LT X.K t)) (he : ∀ cl C s2 H2 pins fp, PE (cyOf X scope cl C NC s2 H2 pins fp) elt (LE X.K f))
    (hkind : scope.kind = .function) (hcell : ∀ y ∈ scope.names, y.2 ≠ .cell) (hnames : ∀ y ∈ scope.names, y.2 = .local → scope.names.lookup y.1 = some .local)
    (hfree : ∀ x, (x, NameKind.free) ∈ scope.names → X.env.kindOf x = some .cell ∨ X.env.kindOf x = some .free) (hsrc : srcChk X scope NC src)
    (hN : X.N.Nodup) (hi2 : X.N[i]? = some y := by rfl) (hx : Loc X.env.scope y := by first | exact Or.inl rfl | exact Or.inr rfl) (hf : X.fn y = true ∨ X.env.scope.names.lookup y = some .local := by first | exact .inl rfl | exact .inr rfl)
    (hsw : swapsWith (.ListComp elt [⟨tg, iter, ifs, 0⟩] scope pos) (some (.Name y py)) spos.line X.env = pure true := by rfl)
    (hs : ∀ x, foldedSetIterable iter X.env x = pure x := by intro _; rfl) :
    PS X (.Assign [.Name y py] (.ListComp elt [⟨tg, iter, ifs, 0⟩] scope pos) spos) (LS X.K (dSet i (dLC src fi g t f))) := by
  intro pins s σ H E I h
  obtain ⟨Z, d, m, R, ok, rs, h, k, _⟩ := h
  rw [exec_Assign_Name_used _ _ _ _ hsw]
  refine wpAny_bind (wpAny_standAt (wpAny_bind ?_))
  rw [arm_evalThenUse_ListComp]
  refine wpAny_bind ?_
  refine thn (lc_core src hc hi hg ht he hkind hcell hnames hfree hsrc hs (use := some (assign (.Name y py) X.env)) (QQ := fun _ s' => SP X pins E .next s') (RL := fun ps m2 => R.nx (d.set i (some (.dat (.list ps)))) m2) I ok rs h ?_) (fun _ s' q => wpAny_pure (wpAny_pure q))
  intro s5 C D H' m' ps q e ok' rd ⟨mm, hns⟩ I5 off hcl
  show wpAny _ X.A (assign (.Name y py) X.env (.ref D)) _ _ s5
  refine wpAny_assign_Name (store_ok2 I5 hN hi2 hx (v := .ref D) rfl (fun s6 I6 ⟨a, hs6, ha⟩ => ?_) hf)
  have ne : C ≠ a := by
    rcases ha with rfl | ha
    · exact off.l
    · exact Ne.symm (off.c _ _ ha)
  refine ⟨mm, hns.sameBut hs6 ne, fun h' hs' => ?_⟩
  exact ⟨_, H', off.inv I6 hs', k _ m' _ H' q e ok' ((rs.ext e).set rd)⟩
end
end DL
set_option Elab.async false
set_option linter.all false
set_option maxRecDepth 100000
set_option maxHeartbeats 4000000
namespace DL
open PySem PySem.Spec PyProof.Rows L2
section
variable {prog : Program} {w : World} {A : Around} {E : Value → Shared → Prop} {s : Shared}
def IsRv (h : Heap) (a t : Addr) (i : Int) : Prop := ∃ o, h.get? a = some o ∧ o.cls = .type "reversed" ∧ o.data = .fields #[.ref t, rawInt i]
theorem IsRv.typeIs {a t : Addr} {i : Int} (x : IsRv s.heap a t i) : s.TypeIs (.ref a) "reversed" := let ⟨o, ho, hc, _⟩ := x; ⟨o, ho, hc⟩
end
end DL
set_option Elab.async false
set_option linter.all false
set_option maxRecDepth 100000
set_option maxHeartbeats 4000000
namespace DL
open PySem PySem.Spec PyProof.Rows L2
section
variable {X : Cx} {a e o : Expr} {es : List Expr} {f g : DE} {ga : DA} {pos p p1 p2 : Pos}
theorem rps_strs {K : PySem.W.Frag} {Z : Addr → Prop} {m : Mu} {H : Hp} : ∀ {zs : List Str} {vs : List V}, RPs K Z m H (zs.map PyData.str) vs → vs = zs.map V.str
  | [], vs, h => by simpa [RPs] using h
  | z :: zs, vs, h => by
    simp only [List.map_cons, RPs] at h
    obtain ⟨v, r, rfl, h1, h2⟩ := h
    simp only [RP] at h1
    subst h1
    rw [rps_strs h2]
    rfl
theorem strs_rps {K : PySem.W.Frag} {Z : Addr → Prop} {m : Mu} {H : Hp} : ∀ (zs : List Str), RPs K Z m H (zs.map PyData.str) (zs.map V.str)
  | [] => by simp [RPs]
  | z :: zs => by
    simp only [List.map_cons, RPs]
    exact ⟨_, _, rfl, by simp only [RP], strs_rps zs⟩
def KT (K : PySem.W.Frag) (a : Addr) (zs : List Str) : Prop := ∃ (o : Obj) (its : Array Value) (n : Nat), K.lookup a = some o ∧ o.cls = .type "tuple" ∧ o.dict = none ∧ o.data = .seq its n ∧ its.size ≤ sizeLine ∧ Vals (zs.map V.str) its.toList
theorem KT.sq {K : PySem.W.Frag} {a : Addr} {zs : List Str} {H : Hp} (h : KT K a zs) : SqT K H a (zs.map V.str) := by
  obtain ⟨o, its, n, h1, h2, h3, h4, h5, h6⟩ := h
  exact .inr ⟨o, its, n, h1, ⟨h2, h3⟩, h4, h5, h6⟩
theorem le_cst {x : Str} {c : Addr} {zs : List Str} (hg : Gl X x) (hm : X.mg x = some (.ref c)) (hk : KT X.K c zs) (hd : (x == ("__debug__" : Str)) = false := by decide) : PE X (.Name x pos) (LE X.K (dCon (.tuple (zs.map .str)))) :=
  PE.imp (pe_glob (v := .ref c) hg hm rfl hd) fun s H Q h => by
    obtain ⟨Z, d, m, R, ok, rs, h, k⟩ := h
    refine k _ m _ H h Ext.refl ok ?_
    simp only [RD, RP]
    exact ⟨c, _, rfl, hk.sq, strs_rps zs⟩
@[simp] def aIn : D2
  | .dat (.str x), .dat (.list ys), m, Q => ∃ zs : List Str, ys = zs.map .str ∧ Q (.dat (.bool (decide (x ∈ zs)))) m
  | .dat (.str x), .dat (.tuple ys), m, Q => ∃ zs : List Str, ys = zs.map .str ∧ Q (.dat (.bool (decide (x ∈ zs)))) m
  | .dat (.bool x), .dat (.list ys), m, Q => ∃ zs : List Bool, ys = zs.map .bool ∧ Q (.dat (.bool (decide (x ∈ zs)))) m
  | .dat (.bool x), .dat (.tuple ys), m, Q => ∃ zs : List Bool, ys = zs.map .bool ∧ Q (.dat (.bool (decide (x ∈ zs)))) m
  | .dat (.int x), .dat (.list ys), m, Q => ∃ zs : List Int, ys = zs.map .int ∧ Q (.dat (.bool (decide (x ∈ zs)))) m
  | .dat (.int x), .dat (.tuple ys), m, Q => ∃ zs : List Int, ys = zs.map .int ∧ Q (.dat (.bool (decide (x ∈ zs)))) m
  | _, _, _, _ => False
theorem inV_strs (x : Str) : ∀ zs : List Str, inV (.str x) (zs.map V.str) = decide (x ∈ zs)
  | [] => rfl
  | z :: zs => by
    have ih := inV_strs x zs
    unfold inV at ih ⊢
    rw [List.map_cons, List.any_cons, ih]
    show (z == x || decide (x ∈ zs)) = decide (x ∈ z :: zs)
    rw [Bool.eq_iff_iff]
    simp only [Bool.or_eq_true, beq_iff_eq, decide_eq_true_eq, List.mem_cons]
    exact ⟨fun h => h.imp Eq.symm id, fun h => h.imp Eq.symm id⟩
theorem flat_strs (zs : List Str) : (zs.map V.str).all flatV = true := by
  rw [List.all_eq_true]
  intro v hv
  obtain ⟨z, _, rfl⟩ := List.mem_map.mp hv
  rfl
theorem inV_bools (x : Bool) : ∀ zs : List Bool, inV (.bl x) (zs.map V.bl) = decide (x ∈ zs)
  | [] => rfl
  | z :: zs => by
    have ih := inV_bools x zs
    unfold inV at ih ⊢
    rw [List.map_cons, List.any_cons, ih]
    show (z == x || decide (x ∈ zs)) = decide (x ∈ z :: zs)
    rw [Bool.eq_iff_iff]
    simp only [Bool.or_eq_true, beq_iff_eq, decide_eq_true_eq, List.mem_cons]
    exact ⟨fun h => h.imp Eq.symm id, fun h => h.imp Eq.symm id⟩
theorem flat_bools (zs : List Bool) : (zs.map V.bl).all flatV = true := by
  rw [List.all_eq_true]
  intro v hv
  obtain ⟨z, _, rfl⟩ := List.mem_map.mp hv
  rfl
theorem rps_bools' {K : PySem.W.Frag} {Z : Addr → Prop} {m : Mu} {H : Hp} : ∀ {zs : List Bool} {vs : List V}, RPs K Z m H (zs.map PyData.bool) vs → vs = zs.map V.bl
  | [], vs, h => by simpa [RPs] using h
  | z :: zs, vs, h => by
    simp only [List.map_cons, RPs] at h
    obtain ⟨v, r, rfl, h1, h2⟩ := h
    simp only [RP] at h1
    subst h1
    rw [rps_bools' h2]
    rfl
theorem inV_ints (x : Int) : ∀ zs : List Int, inV (.int x) (zs.map V.int) = decide (x ∈ zs)
  | [] => rfl
  | z :: zs => by
    have ih := inV_ints x zs
    unfold inV at ih ⊢
    rw [List.map_cons, List.any_cons, ih]
    show (z == x || decide (x ∈ zs)) = decide (x ∈ z :: zs)
    rw [Bool.eq_iff_iff]
    simp only [Bool.or_eq_true, beq_iff_eq, decide_eq_true_eq, List.mem_cons]
    exact ⟨fun h => h.imp Eq.symm id, fun h => h.imp Eq.symm id⟩
theorem flat_ints (zs : List Int) : (zs.map V.int).all flatV = true := by
  rw [List.all_eq_true]
  intro v hv
  obtain ⟨z, _, rfl⟩ := List.mem_map.mp hv
  rfl
theorem rps_ints' {K : PySem.W.Frag} {Z : Addr → Prop} {m : Mu} {H : Hp} : ∀ {zs : List Int} {vs : List V}, RPs K Z m H (zs.map PyData.int) vs → vs = zs.map V.int
  | [], vs, h => by simpa [RPs] using h
  | z :: zs, vs, h => by
    simp only [List.map_cons, RPs] at h
    obtain ⟨v, r, rfl, h1, h2⟩ := h
    simp only [RP] at h1
    subst h1
    rw [rps_ints' h2]
    rfl
theorem od_in : OpD X (compareOp .In) aIn := by
  intro pins s σ H Z m x y dx dy v u R Q I ok rx ry r1 r2 h k
  unfold aIn at h
  split at h
  · obtain ⟨zs, rfl, q⟩ := h
    cases r1.str
    simp only [RD, RP] at r2
    obtain ⟨a, vs, rfl, _, h1, h2⟩ := r2
    cases rps_strs h2
    refine op_in_seq pins s σ H _ _ v u Q I rx ry ⟨a, _, rfl, .inl h1, rfl, flat_strs zs, ?_⟩
    rw [if_neg Bool.false_ne_true, inV_strs]
    exact k _ m _ H q Ext.refl ok .ofBl
  · obtain ⟨zs, rfl, q⟩ := h
    cases r1.str
    simp only [RD, RP] at r2
    obtain ⟨a, vs, rfl, h1, h2⟩ := r2
    cases rps_strs h2
    refine op_in_seq pins s σ H _ _ v u Q I rx ry ⟨a, _, rfl, .inr h1, rfl, flat_strs zs, ?_⟩
    rw [if_neg Bool.false_ne_true, inV_strs]
    exact k _ m _ H q Ext.refl ok .ofBl
  · obtain ⟨zs, rfl, q⟩ := h
    cases r1.bl
    simp only [RD, RP] at r2
    obtain ⟨a, vs, rfl, _, h1, h2⟩ := r2
    cases rps_bools' h2
    refine op_in_seq pins s σ H _ _ v u Q I rx ry ⟨a, _, rfl, .inl h1, rfl, flat_bools zs, ?_⟩
    rw [if_neg Bool.false_ne_true, inV_bools]
    exact k _ m _ H q Ext.refl ok .ofBl
  · obtain ⟨zs, rfl, q⟩ := h
    cases r1.bl
    simp only [RD, RP] at r2
    obtain ⟨a, vs, rfl, h1, h2⟩ := r2
    cases rps_bools' h2
    refine op_in_seq pins s σ H _ _ v u Q I rx ry ⟨a, _, rfl, .inr h1, rfl, flat_bools zs, ?_⟩
    rw [if_neg Bool.false_ne_true, inV_bools]
    exact k _ m _ H q Ext.refl ok .ofBl
  · obtain ⟨zs, rfl, q⟩ := h
    cases r1.int
    simp only [RD, RP] at r2
    obtain ⟨a, vs, rfl, _, h1, h2⟩ := r2
    cases rps_ints' h2
    refine op_in_seq pins s σ H _ _ v u Q I rx ry ⟨a, _, rfl, .inl h1, rfl, flat_ints zs, ?_⟩
    rw [if_neg Bool.false_ne_true, inV_ints]
    exact k _ m _ H q Ext.refl ok .ofBl
  · obtain ⟨zs, rfl, q⟩ := h
    cases r1.int
    simp only [RD, RP] at r2
    obtain ⟨a, vs, rfl, h1, h2⟩ := r2
    cases rps_ints' h2
    refine op_in_seq pins s σ H _ _ v u Q I rx ry ⟨a, _, rfl, .inr h1, rfl, flat_ints zs, ?_⟩
    rw [if_neg Bool.false_ne_true, inV_ints]
    exact k _ m _ H q Ext.refl ok .ofBl
  · exact h.elim
@[simp] def bTuple : DC
  | [.dat (.tuple xs)], m, Q => Q (.dat (.tuple xs)) m
  | [.dat (.list xs)], m, Q => Q (.dat (.tuple xs)) m
  | [.cel c], m, Q => ∃ xs, m c = some (.l xs) ∧ Q (.dat (.tuple xs)) m
  | _, _, _ => False
theorem cd_tuple : CallD X (.type "tuple") bTuple := by
  intro pins s σ H Z m xs ds us R Q I ok rv rd h k
  unfold bTuple at h
  split at h
  · obtain ⟨v, rfl, r1⟩ := rd.one
    have r0 := r1
    simp only [RD, RP] at r1
    obtain ⟨a, vs, rfl, h1, h2⟩ := r1
    exact call_tuple_of pins s σ H _ us Q I rv ⟨a, vs, rfl, .inr ⟨h1, k _ m _ H h Ext.refl ok r0⟩⟩
  · obtain ⟨v, rfl, r1⟩ := rd.one
    simp only [RD, RP] at r1
    obtain ⟨a, vs, rfl, _, h1, h2⟩ := r1
    refine call_tuple_of pins s σ H _ us Q I rv ⟨a, vs, rfl, .inl ⟨h1, fun l hl => ?_⟩⟩
    have sm : Same H (upd H l (.tup vs)) := same_new hl
    refine k _ m _ _ h (ok.ext sm) (ok.grow sm) ?_
    simp only [RD, RP]
    exact ⟨l, vs, rfl, .inl (.inl upd_same), RPs.ext (ok.ext sm) _ _ h2⟩
  · obtain ⟨v, rfl, r1⟩ := rd.one
    obtain ⟨rfl, _⟩ := r1
    obtain ⟨ys, hm, q⟩ := h
    obtain ⟨vs, h1, h2⟩ := ok.l hm
    refine call_tuple_of pins s σ H _ us Q I rv ⟨_, vs, rfl, .inl ⟨.inl (.inl h1), fun l hl => ?_⟩⟩
    have sm : Same H (upd H l (.tup vs)) := same_new hl
    refine k _ m _ _ q (ok.ext sm) (ok.grow sm) ?_
    simp only [RD, RP]
    exact ⟨l, vs, rfl, .inl (.inl upd_same), RPs.ext (ok.ext sm) _ _ h2⟩
  · exact h.elim
end
end DL
set_option Elab.async false
set_option linter.all false
set_option maxRecDepth 100000
set_option maxHeartbeats 4000000
namespace DL
open PySem PySem.Spec PyProof.Rows L2
def chkB (scope : Scope) (env : Env) : Bool := scope.names.all fun y => (decide (y.2 ≠ .cell)) && (!decide (y.2 = .local) || decide (scope.names.lookup y.1 = some .local)) && (!decide (y.2 = .free) || decide (env.kindOf y.1 = some .cell) || decide (env.kindOf y.1 = some .free))
def chkS (N : List Str) (scope : Scope) (env : Env) : List Str → List (Option Nat) → Bool
  | [], [] => true
  | x :: xs, o :: os => (match o with | none => true | some j => decide (N[j]? = some x) && decide ((x, NameKind.free) ∈ scope.names) && (decide ((relabel scope env).names.lookup x = some .cell) || decide ((relabel scope env).names.lookup x = some .free))) && chkS N scope env xs os
  | _, _ => false
theorem chkB.ok {scope : Scope} {env : Env} (h : chkB scope env = true) : (∀ y ∈ scope.names, y.2 ≠ .cell) ∧ (∀ y ∈ scope.names, y.2 = .local → scope.names.lookup y.1 = some .local) ∧ ∀ x, (x, NameKind.free) ∈ scope.names → env.kindOf x = some .cell ∨ env.kindOf x = some .free := by
  unfold chkB at h
  rw [List.all_eq_true] at h
  have q : ∀ y ∈ scope.names, y.2 ≠ .cell ∧ (y.2 = .local → scope.names.lookup y.1 = some .local) ∧ (y.2 = .free → env.kindOf y.1 = some .cell ∨ env.kindOf y.1 = some .free) := fun y hy => by
    have := h y hy
    simp only [Bool.and_eq_true, Bool.or_eq_true, Bool.not_eq_true', decide_eq_true_eq, decide_eq_false_iff_not] at this
    obtain ⟨⟨a, b⟩, c⟩ := this
    refine ⟨a, fun e => b.resolve_left (fun n => n e), fun e => ?_⟩
    rcases c with (c | c) | c
    · exact absurd e c
    · exact .inl c
    · exact .inr c
  exact ⟨fun y hy => (q y hy).1, fun y hy => (q y hy).2.1, fun x hx => (q _ hx).2.2 rfl⟩
theorem chkS.ok {X : Cx} {scope : Scope} : ∀ {NC : List Str} {src : List (Option Nat)}, chkS X.N scope X.env NC src = true → srcChk X scope NC src
  | [], [], _ => ⟨rfl, fun i x j h => by simp at h⟩
  | [], _ :: _, h => by simp [chkS] at h
  | _ :: _, [], h => by simp [chkS] at h
  | y :: ys, o :: os, h => by
    simp only [chkS, Bool.and_eq_true] at h
    obtain ⟨h1, h2⟩ := h
    obtain ⟨q1, q2⟩ := chkS.ok h2
    refine ⟨by rw [List.length_cons, List.length_cons, q1], fun i x j e1 e2 => ?_⟩
    cases i with
    | zero =>
      simp at e1 e2
      subst e1 e2
      simp only [Bool.and_eq_true, Bool.or_eq_true, decide_eq_true_eq] at h1
      exact ⟨h1.1.1, h1.1.2, h1.2⟩
    | succ i => exact q2 i x j (by simpa using e1) (by simpa using e2)
section
variable {X : Cx} {tg iter elt : Expr} {ifs : List Expr} {scope : Scope} {fi : DI} {g : DG} {t : DT} {f : DE} {pos : Pos}
theorem le_lcB (NC : List Str) (src : List (Option Nat)) (hc : X.calm = true) (hi : PI X tg iter (LI X.K fi))
    (hg : ∀ cl C s2 H2 pins fp, PG (cyOf X scope cl C NC s2 H2 pins fp) tg (LG X.K g)) (ht : ∀ cl C s2 H2 pins fp, PF (cyOf X scope cl C NC s2 H2 pins fp) ifs (LT X.K t)) (he : ∀ cl C s2 H2 pins fp, PE (cyOf X scope cl C NC s2 H2 pins fp) elt (LE X.K f))
    (hkind : scope.kind = .function := by rfl) (hB : chkB scope X.env = true := by rfl) (hS : chkS X.N scope X.env NC src = true := by rfl)
    (hs : ∀ x, foldedSetIterable iter X.env x = pure x := by intro _; rfl) : PE X (.ListComp elt [⟨tg, iter, ifs, 0⟩] scope pos) (LE X.K (dLC src fi g t f)) :=
  le_lc (NC := NC) src hc hi hg ht he hkind (chkB.ok hB).1 (chkB.ok hB).2.1 (chkB.ok hB).2.2 (chkS.ok hS) hs
theorem ls_lcB (i : Nat) {y : Str} {py spos : Pos} (NC : List Str) (src : List (Option Nat)) (hc : X.calm = true) (hN : X.N.Nodup) (hi : PI X tg iter (LI X.K fi))
    (hg : ∀ cl C s2 H2 pins fp, PG (cyOf X scope cl C NC s2 H2 pins fp) tg (LG X.K g)) (ht : ∀ cl C s2 H2 pins fp, PF (cyOf X scope cl C NC s2 H2 pins fp) ifs (LT X.K t)) (he : ∀ cl C s2 H2 pins fp, PE (cyOf X scope cl C NC s2 H2 pins fp) elt (LE X.K f))
    (hkind : scope.kind = .function := by rfl) (hB : chkB scope X.env = true := by rfl) (hS : chkS X.N scope X.env NC src = true := by rfl)
    (hi2 : X.N[i]? = some y := by rfl) (hx : Loc X.env.scope y := by first | exact Or.inl rfl | exact Or.inr rfl) (hf : X.fn y = true ∨ X.env.scope.names.lookup y = some .local := by first | exact .inl rfl | exact .inr rfl)
    (hsw : swapsWith (.ListComp elt [⟨tg, iter, ifs, 0⟩] scope pos) (some (.Name y py)) spos.line X.env = pure true := by rfl)
    (hs : ∀ x, foldedSetIterable iter X.env x = pure x := by intro _; rfl) : PS X (.Assign [.Name y py] (.ListComp elt [⟨tg, iter, ifs, 0⟩] scope pos) spos) (LS X.K (dSet i (dLC src fi g t f))) :=
  ls_lc (NC := NC) i src hc hi hg ht he hkind (chkB.ok hB).1 (chkB.ok hB).2.1 (chkB.ok hB).2.2 (chkS.ok hS) hN hi2 hx hf hsw hs
end
end DL
set_option Elab.async false
set_option linter.all false
set_option maxRecDepth 100000
set_option maxHeartbeats 4000000
namespace DL
open PySem PySem.Spec PyProof.Rows L2
section
variable {prog : Program} {w : World} {A : Around} {R : Result → Shared → Prop} {s : Shared}
theorem compTurn_two0 (elt tg iter tg2 iter2 : Expr) (ifs ifs2 : List Expr) (scope : Scope) (pos : Pos) (it acc : Value) (env : Env) :
    compTurn (.ListComp elt [⟨tg, iter, ifs, 0⟩, ⟨tg2, iter2, ifs2, 0⟩] scope pos) 0 it acc env = (do
      standAt iter.pos
      match ← pyNext it with
      | none => pure (.done .next)
      | some v =>
        letOwnedTupleGo tg it v
        assign tg env v
        let mut ok := true
        for c in ifs do
          if ok then ok ← isTrue c env (eval c env)
        if ok then
          let x ← eval iter2 env
          standAt iter2.pos
          let x ← foldedSetIterable iter2 env x
          let _ ← runOwn (.compStart (.ListComp elt [⟨tg, iter, ifs, 0⟩, ⟨tg2, iter2, ifs2, 0⟩] scope pos) 1 (← holding [x] (pyIter x)) acc env) env
        again (.compLoop (.ListComp elt [⟨tg, iter, ifs, 0⟩, ⟨tg2, iter2, ifs2, 0⟩] scope pos) 0 it acc env)) := by rfl
theorem compTurn_two1 (elt tg iter tg2 iter2 : Expr) (ifs ifs2 : List Expr) (scope : Scope) (pos : Pos) (it acc : Value) (env : Env) :
    compTurn (.ListComp elt [⟨tg, iter, ifs, 0⟩, ⟨tg2, iter2, ifs2, 0⟩] scope pos) 1 it acc env = (do
      standAt iter2.pos
      match ← pyNext it with
      | none => pure (.done .next)
      | some v =>
        letOwnedTupleGo tg2 it v
        assign tg2 env v
        let mut ok := true
        for c in ifs2 do
          if ok then ok ← isTrue c env (eval c env)
        if ok then
          (do let _ ← call (.builtin "list.append") [acc, ← eval elt env])
        again (.compLoop (.ListComp elt [⟨tg, iter, ifs, 0⟩, ⟨tg2, iter2, ifs2, 0⟩] scope pos) 1 it acc env)) := by rfl
theorem start_two {elt tg iter tg2 iter2 : Expr} {ifs ifs2 : List Expr} {scope : Scope} {pos : Pos} {it acc : Value} {env : Env}
    (h0 : codeAny (model prog w) A (.compLoop (.ListComp elt [⟨tg, iter, ifs, 0⟩, ⟨tg2, iter2, ifs2, 0⟩] scope pos) 1 it acc env) R s)
    (h : wpAny (model prog w) A (pyIter it) (fun it' s' => codeAny (model prog w) A (.compLoop (.ListComp elt [⟨tg, iter, ifs, 0⟩, ⟨tg2, iter2, ifs2, 0⟩] scope pos) 1 it' acc env) R s')
      (notedBy (model prog w) A env fun x s' => R (.error x) s') s) :
    codeAny (model prog w) A (.compStart (.ListComp elt [⟨tg, iter, ifs, 0⟩, ⟨tg2, iter2, ifs2, 0⟩] scope pos) 1 it acc env) R s := by
  refine codeAny_of_tree ?_
  show wpAny _ _ ((compStart (.ListComp elt [⟨tg, iter, ifs, 0⟩, ⟨tg2, iter2, ifs2, 0⟩] scope pos) 1 it acc env).onRaise (fun x => do noteFrame x env; standAt theWindowsPlace)) _ _ s
  refine wpAny_notedAt ?_
  unfold compStart
  show wpAny _ _ (ask >>= _) _ _ s
  refine wpAny_bind (wpAny_askSetting (wpAny_ite ?_))
  split
  · first
      | exact wpAny_bind (wpAny_pure (wpAny_pure (And.intro rfl h0)))
      | exact wpAny_pure (And.intro rfl h0)
  · first
      | exact wpAny_bind (wpAny_rule (wpAny_bind (wpAny_standAt (wpAny_bind (wpAny_mono h (fun it' s' h' => wpAny_pure (And.intro rfl h')) fun _ _ x => x)))))
      | (refine wpAny_bind (wpAny_rule ?_); show wpAny _ _ (standAt iter2.pos >>= _) _ _ s; exact wpAny_bind (wpAny_standAt (wpAny_bind (wpAny_mono h (fun it' s' h' => wpAny_pure (And.intro rfl h')) fun _ _ x => x))))
theorem loop_two0 {elt tg iter tg2 iter2 : Expr} {ifs ifs2 : List Expr} {scope : Scope} {pos : Pos} {it acc : Value} {env : Env} (I : Nat → Shared → Prop) (hs : ∀ x, foldedSetIterable iter2 env x = pure x)
    (turn : ∀ n s, I n s → wpAny (model prog w) A (pyNext it) (fun r s₁ => match r with
      | none => R (.ok .next) s₁
      | some v => wpAny (model prog w) A (letOwnedTupleGo tg it v) (fun _ s₀ => wpAny (model prog w) A (assign tg env v) (fun _ s₂ =>
          wpAny (model prog w) A (forIn ifs true fun c r => if r = true then do let ok ← isTrue c env (eval c env); pure (ForInStep.yield ok) else pure (ForInStep.yield r)) (fun ok s₃ =>
            if ok = true then wpAny (model prog w) A (eval iter2 env) (fun x s₄ =>
              wpAny (model prog w) A (pyIter x) (fun it2 s₅ => codeAny (model prog w) A (.compStart (.ListComp elt [⟨tg, iter, ifs, 0⟩, ⟨tg2, iter2, ifs2, 0⟩] scope pos) 1 it2 acc env) (fun r s₆ => r = .ok .next ∧ ∃ m, m < n ∧ I m s₆) s₅) (fun _ _ => False) s₄) (fun _ _ => False) s₃
            else ∃ m, m < n ∧ I m s₃) (fun _ _ => False) s₂) (fun _ _ => False) s₀) (fun _ _ => False) s₁) (fun _ _ => False) s)
    (n : Nat) (h : I n s) :
    codeAny (model prog w) A (.compLoop (.ListComp elt [⟨tg, iter, ifs, 0⟩, ⟨tg2, iter2, ifs2, 0⟩] scope pos) 0 it acc env) R s := by
  have ff : ∀ {E : Value → Shared → Prop} (x : Value) (s : Shared), False → E x s := fun _ _ z => z.elim
  refine codeAny_loop rfl I (fun n s hI => ?_) n h
  show wpAny _ A ((compTurn (.ListComp elt [⟨tg, iter, ifs, 0⟩, ⟨tg2, iter2, ifs2, 0⟩] scope pos) 0 it acc env).onRaise (fun x => do noteFrame x env; theTreesLotGoes x)) _ _ s
  refine wpAny_noted ?_
  rw [compTurn_two0]
  refine wpAny_bind (wpAny_standAt (wpAny_bind (wpAny_mono (turn n s hI) (fun r s₁ h₁ => ?_) ff)))
  cases r with
  | none => exact wpAny_pure h₁
  | some v =>
    refine wpAny_bind (wpAny_mono h₁ (fun _ s₀ h₀ => ?_) ff)
    refine wpAny_bind (wpAny_mono h₀ (fun _ s₂ h₂ => wpAny_bind (wpAny_mono h₂ (fun ok s₃ h₃ => ?_) ff)) ff)
    cases ok with
    | true =>
      simp only [if_true] at h₃ ⊢
      refine wpAny_bind (wpAny_mono h₃ (fun x s₄ h₄ => ?_) ff)
      refine wpAny_bind (wpAny_standAt (wpAny_bind (wpAny_of_eq (hs x) ?_)))
      refine wpAny_bind (wpAny_holding (wpAny_mono h₄ (fun it2 s₅ h₅ => ?_) ff))
      refine wpAny_bind (wpAny_runOwn (codeAny_mono h₅ fun r s₆ ⟨hr, h₆⟩ => ?_))
      subst hr
      exact wpAny_pure ⟨rfl, h₆⟩
    | false =>
      simp only [Bool.false_eq_true, if_false] at h₃ ⊢
      exact wpAny_pure ⟨rfl, h₃⟩
theorem loop_two1 {elt tg iter tg2 iter2 : Expr} {ifs ifs2 : List Expr} {scope : Scope} {pos : Pos} {it acc : Value} {env : Env} {E : Value → Shared → Prop} (hE : ∀ x s, E x s → False) (I : Nat → Shared → Prop)
    (turn : ∀ n s, I n s → wpAny (model prog w) A (pyNext it) (fun r s₁ => match r with
      | none => R (.ok .next) s₁
      | some v => wpAny (model prog w) A (letOwnedTupleGo tg2 it v) (fun _ s₀ => wpAny (model prog w) A (assign tg2 env v) (fun _ s₂ =>
          wpAny (model prog w) A (forIn ifs2 true fun c r => if r = true then do let ok ← isTrue c env (eval c env); pure (ForInStep.yield ok) else pure (ForInStep.yield r)) (fun ok s₃ =>
            if ok = true then wpAny (model prog w) A (eval elt env) (fun x s₄ =>
              wpAny (model prog w) A (call (.builtin "list.append") [acc, x]) (fun _ s₅ => ∃ m, m < n ∧ I m s₅) E s₄) E s₃
            else ∃ m, m < n ∧ I m s₃) E s₂) E s₀) E s₁) E s)
    (n : Nat) (h : I n s) :
    codeAny (model prog w) A (.compLoop (.ListComp elt [⟨tg, iter, ifs, 0⟩, ⟨tg2, iter2, ifs2, 0⟩] scope pos) 1 it acc env) R s := by
  have ff : ∀ {E' : Value → Shared → Prop} (x : Value) (s : Shared), E x s → E' x s := fun x s z => (hE x s z).elim
  refine codeAny_loop rfl I (fun n s hI => ?_) n h
  show wpAny _ A ((compTurn (.ListComp elt [⟨tg, iter, ifs, 0⟩, ⟨tg2, iter2, ifs2, 0⟩] scope pos) 1 it acc env).onRaise (fun x => do noteFrame x env; theTreesLotGoes x)) _ _ s
  refine wpAny_noted ?_
  rw [compTurn_two1]
  refine wpAny_bind (wpAny_standAt (wpAny_bind (wpAny_mono (turn n s hI) (fun r s₁ h₁ => ?_) ff)))
  cases r with
  | none => exact wpAny_pure h₁
  | some v =>
    refine wpAny_bind (wpAny_mono h₁ (fun _ s₀ h₀ => ?_) ff)
    refine wpAny_bind (wpAny_mono h₀ (fun _ s₂ h₂ => wpAny_bind (wpAny_mono h₂ (fun ok s₃ h₃ => ?_) ff)) ff)
    cases ok with
    | true =>
      simp only [if_true] at h₃ ⊢
      refine wpAny_bind (wpAny_bind (wpAny_mono h₃ (fun x s₄ h₄ => wpAny_bind (wpAny_mono h₄ (fun _ s₅ h₅ => wpAny_pure (wpAny_pure ⟨rfl, h₅⟩)) ff)) ff))
    | false =>
      simp only [Bool.false_eq_true, if_false] at h₃ ⊢
      exact wpAny_pure ⟨rfl, h₃⟩
end
abbrev StepA := D → List PyData → St2 → Mu → (List PyData → St2 → Mu → Prop) → Prop
def loopA (st : StepA) : List D → List PyData → St2 → Mu → (List PyData → St2 → Mu → Prop) → Prop
  | [], acc, d, m, Q => Q acc d m
  | x :: xs, acc, d, m, Q => st x acc d m fun acc' d' m' => loopA st xs acc' d' m' Q
def stepI (g : DG) (t : DT) (f : DE) : StepA := fun x acc d m Q => g x d m fun d1 m1 => t d1 m1 fun b m2 => if b = true then f d1 m2 fun y m3 => ∃ p, y = .dat p ∧ acc.length < sizeLine ∧ Q (acc ++ [p]) d1 m3 else Q acc d1 m2
def stepO (g : DG) (t : DT) (fi2 : DI) (st : StepA) : StepA := fun x acc d m Q => g x d m fun d1 m1 => t d1 m1 fun b m2 => if b = true then fi2 d1 m2 fun ys m3 => loopA st ys acc d1 m3 Q else Q acc d1 m2
@[simp] def dLC2 (src : List (Option Nat)) (fi : DI) (g : DG) (t : DT) (fi2 : DI) (g2 : DG) (t2 : DT) (f : DE) : DE := fun d m Q => fi d m fun xs m1 => loopA (stepO g t fi2 (stepI g2 t2 f)) xs [] (srcOf src d) m1 fun ps _ m2 => Q (.dat (.list ps)) m2
structure ExtW (K : PySem.W.Frag) (Z : Addr → Prop) (D : Addr) (m : Mu) (H : Hp) (m' : Mu) (H' : Hp) : Prop where
  t : ∀ a vs, SqT K H a vs → SqT K H' a vs
  l : ∀ a vs, (m a = none ∧ ¬ rsv Z D a) → SqL K H a vs → m' a = none ∧ SqL K H' a vs
  z : ∀ a, Z a → H' a = H a
  c : ∀ a, (m a).isSome = true → (m' a).isSome = true
  fz : ∀ a o u, H a = some (.frz o u) → H' a = some (.frz o u)
  fm : ∀ a, isF (m a) = true → m' a = m a
section
variable {K : PySem.W.Frag} {Z : Addr → Prop} {m m1 m' m2 : Mu} {H H1 H' H2 : Hp} {D : Addr} {ys zs : List V}
theorem ExtW.refl : ExtW K Z D m H m H := ⟨fun _ _ h => h, fun _ _ h1 h2 => ⟨h1.1, h2⟩, fun _ _ => rfl, fun _ h => h, fun _ _ _ h => h, fun _ _ => rfl⟩
theorem ExtW.y (e : ExtW K Z D m H m' H') : ExtY K (rsv Z D) m H m' H' := ⟨e.t, e.l, e.fz⟩
theorem ExtW.trans (a : ExtW K Z D m H m' H') (b : ExtW K Z D m' H' m2 H2) : ExtW K Z D m H m2 H2 :=
  ⟨fun x vs h => b.t x vs (a.t x vs h), fun x vs h1 h2 => let ⟨q1, q2⟩ := a.l x vs h1 h2; b.l x vs ⟨q1, h1.2⟩ q2, fun x h => (b.z x h).trans (a.z x h), fun x h => b.c x (a.c x h), fun x o u h => b.fz x o u (a.fz x o u h), fun x h => by
    have q := a.fm x h
    rw [b.fm x (by rw [q]; exact h), q]⟩
theorem Ext.w (e : Ext K (rsv Z D) m H m' H') : ExtW K Z D m H m' H' := ⟨e.t, e.l, fun a h => e.z a (.inl h), e.c, e.fz, e.fm⟩
theorem ExtW.put (hz : ¬ Z D) (hD : H D = some (.lst ys)) : ExtW K Z D m H m (upd H D (.lst zs)) :=
  ⟨tr_put_t hD, fun a vs h1 h2 => ⟨h1.1, sql_put (fun e => h1.2 (.inr e)) h2⟩, fun a h => by
    have ne : a ≠ D := by rintro rfl; exact hz h
    rw [upd_ne ne], fun _ h => h, fun a o u h => by
    rw [upd_ne (by rintro rfl; rw [hD] at h; cases h)]
    exact h, fun _ _ => rfl⟩
theorem ExtW.rd {x : DL.D} {v : V} (e : ExtW K Z D m H m' H') (h : RD K (rsv Z D) m H x v) : RD K (rsv Z D) m' H' x v := by
  cases x with
  | dat p => exact RP.tr e.t (fun a vs h1 h2 => let ⟨q1, q2⟩ := e.l a vs h1 h2; ⟨⟨q1, h1.2⟩, q2⟩) p v h
  | cel a => exact ⟨h.1, e.c a h.2⟩
theorem ext_innerW (e : Ext K Z m1 H1 m H) (hD : H1 D = none) (hk : K.lookup D = none) (e2 : ExtW K Z D m H m' H') : Ext K Z m1 H1 m' H' :=
  ⟨fun a vs h => e2.t a vs (e.t a vs h), fun a vs h1 h2 => let ⟨q1, q2⟩ := e.l a vs h1 h2; e2.l a vs ⟨q1, fun z => z.elim h1.2 (SqL.ne hD hk h2)⟩ q2, fun a h => (e2.z a h).trans (e.z a h), fun a h => e2.c a (e.c a h), fun a o u h => e2.fz a o u (e.fz a o u h), fun a h => by
    have q := e.fm a h
    rw [e2.fm a (by rw [q]; exact h), q]⟩
end
section
variable {Y : Cx} {tg iter tg2 iter2 elt : Expr} {ifs ifs2 : List Expr} {scope : Scope} {fi2 : DI} {g2 : DG} {t2 : DT} {f : DE} {pos : Pos}
theorem inner_core (hc : Y.calm = true) (hx : ∀ x s, Y.xe x s → False) (hi : PI Y tg2 iter2 (LI Y.K fi2)) (hg : PG Y tg2 (LG Y.K g2)) (ht : PF Y ifs2 (LT Y.K t2)) (he : PE Y elt (LE Y.K f))
    {pins : List (Addr × Obj)} {s : Shared} {σ : L2.St} {H : Hp} {Z : Addr → Prop} {D : Addr} {acc : List PyData} {ys : List V} {d : St2} {m : Mu} {Q : List PyData → St2 → Mu → Prop}
    (I : Inv Y pins σ H s) (hz : ¬ Z D) (hD : H D = some (.lst ys)) (racc : RPs Y.K (rsv Z D) m H acc ys) (ok : Ok Y.K (rsv Z D) m H) (rs : RS Y.K (rsv Z D) m H d σ) (h : fi2 d m fun xs m1 => loopA (stepI g2 t2 f) xs acc d m1 Q) :
    wpAny (model Y.prog Y.w) Y.A (eval iter2 Y.env) (fun x s4 => wpAny (model Y.prog Y.w) Y.A (pyIter x) (fun it2 s5 => codeAny (model Y.prog Y.w) Y.A (.compStart (.ListComp elt [⟨tg, iter, ifs, 0⟩, ⟨tg2, iter2, ifs2, 0⟩] scope pos) 1 it2 (.ref D) Y.env)
      (fun r s6 => r = .ok .next ∧ ∃ σ' H' ys' acc' d' m', Inv Y pins σ' H' s6 ∧ H' D = some (.lst ys') ∧ RPs Y.K (rsv Z D) m' H' acc' ys' ∧ ExtW Y.K Z D m H m' H' ∧ Ok Y.K (rsv Z D) m' H' ∧ RS Y.K (rsv Z D) m' H' d' σ' ∧ Q acc' d' m') s5) Y.xe s4) Y.xe s := by
  refine thn (hi pins s σ H (fun J H1 => ∃ xs m1, Ext Y.K (rsv Z D) m H m1 H1 ∧ Ok Y.K (rsv Z D) m1 H1 ∧ Yields Y.K (rsv Z D) m1 H1 xs J ∧ loopA (stepI g2 t2 f) xs acc d m1 Q) I
    ⟨rsv Z D, d, m, _, ok, rs, h, fun xs m1 H1 J q e1 ok1 y1 => ⟨xs, m1, e1, ok1, y1, q⟩⟩) fun xv s₁ h₁ => thn h₁ fun itv s₂ h₂ => ?_
  obtain ⟨it, fp, tn, J, H2, eit, I2, T, st2, f2, xs, m1, e1, ok1, yl, lp⟩ := h₂
  subst eit
  have hD2 : H2 D = some (.lst ys) := (e1.z _ (.inr rfl)).trans hD
  have stat : ∀ {H' : Hp}, (∀ b ∈ fp, H' b = none) → ∀ b ∈ fp, FpOk Y pins H' b := fun hn b hb => ⟨hn b hb, (f2 b hb).2⟩
  have loop : codeAny (model Y.prog Y.w) Y.A (.compLoop (.ListComp elt [⟨tg, iter, ifs, 0⟩, ⟨tg2, iter2, ifs2, 0⟩] scope pos) 1 (.ref it) (.ref D) Y.env)
      (fun r s6 => r = .ok .next ∧ ∃ σ' H' ys' acc' d' m', Inv Y pins σ' H' s6 ∧ H' D = some (.lst ys') ∧ RPs Y.K (rsv Z D) m' H' acc' ys' ∧ ExtW Y.K Z D m H m' H' ∧ Ok Y.K (rsv Z D) m' H' ∧ RS Y.K (rsv Z D) m' H' d' σ' ∧ Q acc' d' m') s₂ := by
    refine loop_two1 hx (fun n s' => ∃ (i : Nat) (ys : List V) (acc : List PyData) (d' : St2) (m' : Mu) (σ' : L2.St) (H' : Hp), n = xs.length - i ∧ i ≤ xs.length ∧ Inv Y pins σ' H' s' ∧ tn i s'.heap ∧ (∀ b ∈ fp, H' b = none) ∧
      H' D = some (.lst ys) ∧ RPs Y.K (rsv Z D) m' H' acc ys ∧ ExtW Y.K Z D m1 H2 m' H' ∧ Ok Y.K (rsv Z D) m' H' ∧ RS Y.K (rsv Z D) m' H' d' σ' ∧
      loopA (stepI g2 t2 f) (xs.drop i) acc d' m' Q) ?_ xs.length ⟨0, ys, acc, d, m1, σ, H2, by simp, Nat.zero_le _, I2, st2, fun b hb => (f2 b hb).1, hD2, RPs.ext e1 _ _ racc, ExtW.refl, ok1, rs.ext e1, by simpa using lp⟩
    rintro n s4 ⟨i, ys, acc, d', m', σ', H', rfl, hi', I5, st5, fr5, hDy, racc, eX, ok5, rs5, lp5⟩
    obtain ⟨y1, y2⟩ := yl m' H' eX.y
    by_cases hlt : i < xs.length
    · rw [List.drop_eq_getElem_cons hlt] at lp5
      obtain ⟨go, yd⟩ := y1 i xs[i] (List.getElem?_eq_getElem hlt)
      refine thn (T.item Y rfl rfl rfl hc i pins s4 σ' H' Y.xe I5 (stat fr5) st5 go) fun r s5 hq0 => ?_
      obtain ⟨u, hr, h5⟩ := hq0
      subst hr
      refine thn h5 fun _ s6 hq0 => ?_
      obtain ⟨x, H6, I6, r6, yy, st6, fr6⟩ := hq0
      have yy' := yd x H6 yy
      have e56 : Ext Y.K (rsv Z D) m' H' m' H6 := ok5.ext yy'.same
      have rv := yy'.rd (fun d v h => eX.rd h) ok5
      have hDy := yy'.same _ _ hDy
      have racc := RPs.ext e56 _ _ racc
      have eX := eX.trans e56.w
      have rs5 := rs5.ext e56
      have ok5 := ok5.grow yy'.same
      have I6' := I6.pinned (stat fr6) (T.obj _ _ st6)
      have over : ∀ {s7 : Shared} {σ7 : L2.St} {H7 : Hp} {ys7 : List V} {acc7 : List PyData} {d7 : St2} {m7 : Mu}, Inv Y (pins ++ pinsAt fp s6.heap) σ7 H7 s7 → H7 D = some (.lst ys7) → RPs Y.K (rsv Z D) m7 H7 acc7 ys7 →
          ExtW Y.K Z D m1 H2 m7 H7 → Ok Y.K (rsv Z D) m7 H7 → RS Y.K (rsv Z D) m7 H7 d7 σ7 → (loopA (stepI g2 t2 f) (xs.drop (i + 1)) acc7 d7 m7 Q) →
          ∃ n, n < xs.length - i ∧ ∃ (i : Nat) (ys : List V) (acc : List PyData) (d' : St2) (m' : Mu) (σ' : L2.St) (H' : Hp), n = xs.length - i ∧ i ≤ xs.length ∧ Inv Y pins σ' H' s7 ∧ tn i s7.heap ∧ (∀ b ∈ fp, H' b = none) ∧
            H' D = some (.lst ys) ∧ RPs Y.K (rsv Z D) m' H' acc ys ∧ ExtW Y.K Z D m1 H2 m' H' ∧ Ok Y.K (rsv Z D) m' H' ∧ RS Y.K (rsv Z D) m' H' d' σ' ∧
            loopA (stepI g2 t2 f) (xs.drop i) acc d' m' Q := by
        intro s7 σ7 H7 ys7 acc7 d7 m7 I7 a1 a2 a3 a4 a5 a6
        refine ⟨xs.length - (i + 1), by omega, i + 1, ys7, acc7, d7, m7, σ7, H7, rfl, hlt, I7.unpinned, T.keep _ _ _ st6 fun b hb o e => (I7.pin (b, o) (List.mem_append_right _ (List.mem_append_right _ (mem_pinsAt hb e)))).1, fun b hb => ?_, a1, a2, a3, a4, a5, a6⟩
        obtain ⟨o, e, dd⟩ := T.obj _ _ st6 b hb
        exact (I7.pin (b, o) (List.mem_append_right _ (List.mem_append_right _ (mem_pinsAt hb e)))).2.1
      refine thn (hg _ s6 σ' _ x u (fun σ7 H7 => ∃ d7 m7, Ext Y.K (rsv Z D) m' H6 m7 H7 ∧ Ok Y.K (rsv Z D) m7 H7 ∧ RS Y.K (rsv Z D) m7 H7 d7 σ7 ∧
        t2 d7 m7 fun b m2 => if b = true then f d7 m2 fun y m3 => ∃ p, y = .dat p ∧ acc.length < sizeLine ∧ loopA (stepI g2 t2 f) (xs.drop (i + 1)) (acc ++ [p]) d7 m3 Q else loopA (stepI g2 t2 f) (xs.drop (i + 1)) acc d7 m2 Q) I6' r6
        ⟨_, xs[i], d', m', _, ok5, rs5, rv, lp5, fun d7 m7 σ7 H7 q7 e7 ok7 rs7 => ⟨d7, m7, e7, ok7, rs7, q7⟩⟩) fun _ s7 hq0 => ?_
      obtain ⟨σ7, H7, I7, d7, m7, e7, ok7, rs7, q7⟩ := hq0
      refine thn (ht _ s7 σ7 H7 (fun b H8 => ∃ m8, Ext Y.K (rsv Z D) m7 H7 m8 H8 ∧ Ok Y.K (rsv Z D) m8 H8 ∧
        if b = true then f d7 m8 fun y m3 => ∃ p, y = .dat p ∧ acc.length < sizeLine ∧ loopA (stepI g2 t2 f) (xs.drop (i + 1)) (acc ++ [p]) d7 m3 Q else loopA (stepI g2 t2 f) (xs.drop (i + 1)) acc d7 m8 Q) I7
        ⟨_, d7, m7, _, ok7, rs7, q7, fun b m8 H8 q8 e8 ok8 => ⟨m8, e8, ok8, q8⟩⟩) fun b s8 hq0 => ?_
      obtain ⟨H8, I8, m8, e8, ok8, q8⟩ := hq0
      have e68 := e7.trans e8
      have hD8 : H8 D = some (.lst ys) := (e68.z _ (.inr rfl)).trans hDy
      cases b with
      | false =>
        rw [if_neg Bool.false_ne_true] at q8
        exact over I8 hD8 (RPs.ext e68 _ _ racc) (eX.trans e68.w) ok8 (rs7.ext e8) q8
      | true =>
        rw [if_pos rfl] at q8
        refine thn (he _ s8 σ7 H8 (fun v H9 => ∃ p m9, RP Y.K (rsv Z D) m9 H9 p v ∧ Ext Y.K (rsv Z D) m8 H8 m9 H9 ∧ Ok Y.K (rsv Z D) m9 H9 ∧ acc.length < sizeLine ∧ loopA (stepI g2 t2 f) (xs.drop (i + 1)) (acc ++ [p]) d7 m9 Q) I8
          ⟨_, d7, m8, _, ok8, rs7.ext e8, q8, fun y m9 v H9 hq1 e9 ok9 r9 => by
            obtain ⟨p, ey, hz, q9⟩ := hq1
            subst ey
            exact ⟨p, m9, r9, e9, ok9, hz, q9⟩⟩) fun yv s9 hq0 => ?_
        obtain ⟨y, H9, I9, ry, p, m9, rp9, e9, ok9, hz9, q9⟩ := hq0
        have e69 := e68.trans e9
        have hD9 : H9 D = some (.lst ys) := (e69.z _ (.inr rfl)).trans hDy
        have racc9 := RPs.ext e69 _ _ racc
        have rs9 := (rs7.ext e8).ext e9
        refine thn (mt_append _ s9 σ7 H9 (.ref D) [y] (.ref D) [yv] (fun v H10 => H10 = upd H9 D (.lst (ys ++ [y]))) I9 rfl (.cons ry .nil) ⟨_, ys, y, rfl, rfl, hD9, by rw [racc9.length]; exact hz9, rfl⟩) fun rv s10 hq0 => ?_
        obtain ⟨v10, H10, I10, _, e10⟩ := hq0
        subst e10
        refine over I10 upd_same ?_ ((eX.trans e69.w).trans (ExtW.put hz hD9)) (ok_put2 ok9 hD9) ⟨rs9.1, fun j z hj => ?_⟩ q9
        · exact RPs.tr (tr_put_t hD9) tr_put_l _ _ (racc9.append (by simp only [RPs]; exact ⟨y, [], rfl, rp9, rfl⟩))
        · obtain ⟨v, a1, a2⟩ := rs9.2 j z hj
          exact ⟨v, a1, rd_put hD9 a2⟩
    · have e : i = xs.length := by omega
      subst e
      rw [List.drop_length] at lp5
      refine thn (T.done Y rfl rfl rfl hc _ pins s4 σ' H' Y.xe I5 (stat fr5) st5 y2) fun r s5 hq0 => ?_
      obtain ⟨hr, I6⟩ := hq0
      subst hr
      exact ⟨rfl, σ', H', ys, acc, d', m', I6, hDy, racc, (e1.w).trans eX, ok5, rs5, lp5⟩
  exact start_two loop (T.self _ 0 _ _ _ st2 loop)
end
end DL
set_option Elab.async false
set_option linter.all false
set_option maxRecDepth 100000
set_option maxHeartbeats 4000000
namespace DL
open PySem PySem.Spec PyProof.Rows L2
section
variable {X : Cx} {tg iter tg2 iter2 elt : Expr} {ifs ifs2 : List Expr} {scope : Scope} {NC : List Str} {fi fi2 : DI} {g g2 : DG} {t t2 : DT} {f : DE} {pos : Pos}
theorem lc2_core (src : List (Option Nat)) (hc : X.calm = true) (hi : PI X tg iter (LI X.K fi))
    (hg : ∀ cl C s2 H2 pins fp, PG (cyOf X scope cl C NC s2 H2 pins fp) tg (LG X.K g)) (ht : ∀ cl C s2 H2 pins fp, PF (cyOf X scope cl C NC s2 H2 pins fp) ifs (LT X.K t)) (hi2 : ∀ cl C s2 H2 pins fp, PI (cyOf X scope cl C NC s2 H2 pins fp) tg2 iter2 (LI X.K fi2)) (hg2 : ∀ cl C s2 H2 pins fp, PG (cyOf X scope cl C NC s2 H2 pins fp) tg2 (LG X.K g2)) (ht2 : ∀ cl C s2 H2 pins fp, PF (cyOf X scope cl C NC s2 H2 pins fp) ifs2 (LT X.K t2))
    (he : ∀ cl C s2 H2 pins fp, PE (cyOf X scope cl C NC s2 H2 pins fp) elt (LE X.K f)) (hs2 : ∀ cl C x, foldedSetIterable iter2 (compEnvC scope cl C X.env) x = pure x)
    (hkind : scope.kind = .function) (hcell : ∀ y ∈ scope.names, y.2 ≠ .cell) (hnames : ∀ y ∈ scope.names, y.2 = .local → scope.names.lookup y.1 = some .local)
    (hfree : ∀ x, (x, NameKind.free) ∈ scope.names → X.env.kindOf x = some .cell ∨ X.env.kindOf x = some .free) (hsrc : srcChk X scope NC src)
    (hs : ∀ x, foldedSetIterable iter X.env x = pure x) {use : Option (Value → Sem Unit)} {QQ : Value → Shared → Prop} {pos' : Pos} {pins : List (Addr × Obj)} {s : Shared} {σ : L2.St} {H : Hp} {Z : Addr → Prop} {d : St2} {m : Mu} {RL : List PyData → Mu → Prop}
    (I : Inv X pins σ H s) (ok : Ok X.K Z m H) (rs : RS X.K Z m H d σ) (h : fi d m fun xs m1 => loopA (stepO g t fi2 (stepI g2 t2 f)) xs [] (srcOf src d) m1 (fun ps _ m2 => RL ps m2))
    (fin : ∀ (s5 : Shared) (C D : Addr) (H' : Hp) (m' : Mu) (ps : List PyData), RL ps m' → Ext X.K Z m H m' H' → Ok X.K Z m' H' → RD X.K Z m' H' (.dat (.list ps)) (.ref D) → (∃ mm, s5.heap.Ns C mm) → Inv X pins σ H' s5 → Off X pins H' C →
      compPost (model X.prog X.w) X.A X.xe use QQ (.ref D) C (.ok .next) s5) :
    wpAny (model X.prog X.w) X.A (comprehension (.ListComp elt [⟨tg, iter, ifs, 0⟩, ⟨tg2, iter2, ifs2, 0⟩] scope pos) scope X.env pos' (newList []) false (eval iter X.env) use) QQ X.xe s := by
  obtain ⟨cl, hclos, hcl1, hcl2⟩ := closure_of (scope := scope) (env := X.env) fun x hx => I.ok.has x (hfree x hx)
  refine wpAny_comprehension_free (use := use) rfl hs hclos hkind hnames ?_
  refine thn (hi pins s σ H (fun J H1 => ∃ xs m1, Ext X.K Z m H m1 H1 ∧ Ok X.K Z m1 H1 ∧ Yields X.K Z m1 H1 xs J ∧ loopA (stepO g t fi2 (stepI g2 t2 f)) xs [] (srcOf src d) m1 (fun ps _ m2 => RL ps m2)) I
    ⟨Z, d, m, _, ok, rs, h, fun xs m1 H1 J q e1 ok1 y1 => ⟨xs, m1, e1, ok1, y1, q⟩⟩) fun xv s₁ h₁ => thn h₁ fun itv s₂ h₂ => ?_
  obtain ⟨it, fp, tn, J, H2, eit, I2, T, st2, f2, xs, m1, e1, ok1, yl, lp⟩ := h₂
  subst eit
  refine wpAny_newObj_type (wpAny_newFunctionEnv hcell (by intro y hy; simp at hy) (fun h₁ hns₁ hsb₁ => ?_) hkind)
  dsimp only at hns₁ hsb₁ ⊢
  generalize hH2 : s₂.heap.push { cls := .type "list", dict := none, data := .seq ([] : List Value).toArray } = HP at hns₁ hsb₁ ⊢
  have hC : HP.objs.size = s₂.heap.objs.size + 1 := by rw [← hH2, Heap.size_push]
  have leC : s₂.heap.objs.size ≤ HP.objs.size := by rw [hC]; exact Nat.le_succ _
  have old : ∀ b o, s₂.heap.get? b = some o → h₁.get? b = some o := fun b o e => hsb₁.extBut b o (Nat.ne_of_lt (Nat.lt_of_lt_of_le (Heap.lt_size e) leC)) (Heap.get?_push_of_some _ (hH2 ▸ Heap.get?_push_of_some _ e))
  have hacc : h₁.get? s₂.heap.objs.size = some { cls := .type "list", data := .seq ([] : List Value).toArray } := hsb₁.extBut _ _ (by rw [hC]; exact Nat.ne_of_lt (Nat.lt_succ_self _)) (Heap.get?_push_of_some _ (hH2 ▸ Heap.get?_push_size _ rfl))
  have hD : H2 s₂.heap.objs.size = none := I2.hok.fresh (Nat.le_refl _)
  have hkD : X.K.lookup s₂.heap.objs.size = none := by
    cases e : X.K.lookup s₂.heap.objs.size with
    | none => rfl
    | some o => exact absurd (Heap.lt_size (I2.kIn _ o e)) (Nat.lt_irrefl _)
  have obf : ∀ b ∈ fp, ∃ o, s₂.heap.get? b = some o ∧ ∀ v, o.data ≠ .cell v := T.obj 0 _ st2
  have hσ : ∀ (i : Nat) (x : Str) (v : V), NC[i]? = some x → (srcOf src σ)[i]? = some (some v) → Vis (relabel scope X.env) x → ((relabel scope X.env).names.lookup x = some .cell ∨ (relabel scope X.env).names.lookup x = some .free) ∧ (X.env.kindOf x = some .cell ∨ X.env.kindOf x = some .free) ∧ ∃ j : Nat, X.N[j]? = some x ∧ σ[j]? = some (some v) := fun i x v h1 h2 _ => by
    obtain ⟨j, q1, q2⟩ := srcOf_get h2
    obtain ⟨a1, a2, a3⟩ := hsrc.2 i x j h1 q1
    exact ⟨a3, hfree x a2, j, a1, q2⟩
  have I4 := fun tk => cy_start (cl := cl) (NC := NC) (σ' := srcOf src σ) (tk := tk) I2 f2 obf hkind hcell hcl1 hcl2 (by unfold srcOf; rw [List.length_map]; exact hsrc.1.symm) hσ hC hns₁ old hacc
  have st4 : tn 0 h₁ := T.keep 0 _ _ st2 fun b _ o e => old b o e
  -- the loop
  have loop : ∀ s₃ : Shared, s₃ = { s₂ with heap := h₁, toks := s₂.toks + ([] : List (Str × Value)).length } →
      codeAny (model X.prog X.w) X.A (.compLoop (.ListComp elt [⟨tg, iter, ifs, 0⟩, ⟨tg2, iter2, ifs2, 0⟩] scope pos) 0 (.ref it) (.ref s₂.heap.objs.size) (compEnvC scope cl HP.objs.size X.env))
        (compPost (model X.prog X.w) X.A X.xe use QQ (.ref s₂.heap.objs.size) HP.objs.size) s₃ := by
    rintro s₃ rfl
    refine loop_two0 (hs := fun x => hs2 _ _ x) (fun n s' => ∃ (i : Nat) (ys : List V) (acc : List PyData) (d' : St2) (m' : Mu) (σ' : L2.St) (H' : Hp), n = xs.length - i ∧ i ≤ xs.length ∧ Inv (cyOf X scope cl HP.objs.size NC s₂ H2 pins fp) [] σ' H' s' ∧ tn i s'.heap ∧ (∀ b ∈ fp, H' b = none) ∧
      H' s₂.heap.objs.size = some (.lst ys) ∧ RPs X.K (rsv Z s₂.heap.objs.size) m' H' acc ys ∧ Ext X.K Z m1 H2 m' H' ∧ Ok X.K (rsv Z s₂.heap.objs.size) m' H' ∧ RS X.K (rsv Z s₂.heap.objs.size) m' H' d' σ' ∧
      loopA (stepO g t fi2 (stepI g2 t2 f)) (xs.drop i) acc d' m' (fun ps _ m2 => RL ps m2)) ?_ xs.length ?_
    rotate_left
    · have rs1 : RS X.K Z m1 H2 (srcOf src d) (srcOf src σ) := rs_src src (rs.ext e1)
      refine ⟨0, [], [], srcOf src d, m1, srcOf src σ, _, by simp, Nat.zero_le _, I4 _, st4, fun b hb => ?_, upd_same, by simp [RPs], ok1.ext (same_new hD), ok_new ok1 hD hkD, ⟨rs1.1, fun i x hx => ?_⟩, by simpa using lp⟩
      · obtain ⟨o, ho, _⟩ := obf b hb
        rw [upd_ne (Nat.ne_of_lt (Heap.lt_size ho))]
        exact (f2 b hb).1
      · obtain ⟨v, q1, q2⟩ := rs1.2 i x hx
        exact ⟨v, q1, rd_new hD hkD q2⟩
    rintro n s4 ⟨i, ys, acc, d', m', σ', H', rfl, hi', I5, st5, fr5, hDy, racc, eX, ok5, rs5, lp5⟩
    have stat : ∀ b ∈ fp, FpOk (cyOf X scope cl HP.objs.size NC s₂ H2 pins fp) [] H' b := fun b hb => by
      obtain ⟨g0, g1, g2, g3, g4, g5⟩ := f2 b hb
      obtain ⟨o, ho, _⟩ := obf b hb
      refine ⟨fr5 b hb, Nat.ne_of_lt (Nat.lt_of_lt_of_le (Heap.lt_size ho) leC), fun z => ?_, .inl hb, fun x c e => g4 x c (hcl1 (x, c) (mem_of_lookup' e)), fun p hp => ?_⟩
      · rcases List.mem_cons.mp (I2.stkSub b z) with q | q
        · exact g1 q
        · exact g2 q
      · rcases List.mem_append.mp hp with q | q
        · exact g5 p q
        · cases q
    obtain ⟨y1, y2⟩ := yl m' H' eX.y
    by_cases hlt : i < xs.length
    · rw [List.drop_eq_getElem_cons hlt] at lp5
      obtain ⟨go, yd⟩ := y1 i xs[i] (List.getElem?_eq_getElem hlt)
      refine thn (T.item (cyOf X scope cl HP.objs.size NC s₂ H2 pins fp) rfl rfl rfl hc i [] s4 σ' H' (fun _ _ => False) I5 stat st5 go) fun r s5 hq0 => ?_
      obtain ⟨u, hr, h5⟩ := hq0
      subst hr
      refine thn h5 fun _ s6 hq0 => ?_
      obtain ⟨x, H6, I6, r6, yy, st6, fr6⟩ := hq0
      have yy' := yd x H6 yy
      have e56 : Ext X.K (rsv Z s₂.heap.objs.size) m' H' m' H6 := ok5.ext yy'.same
      have rv := yy'.rd (fun d v h => rd_cross hD hkD eX h) ok5
      have hDy := yy'.same _ _ hDy
      have racc := RPs.ext e56 _ _ racc
      have eX := ext_inner eX hD hkD e56
      have rs5 := rs5.ext e56
      have ok5 := ok5.grow yy'.same
      have stat : ∀ b ∈ fp, FpOk (cyOf X scope cl HP.objs.size NC s₂ H2 pins fp) [] H6 b := fun b hb => ⟨fr6 b hb, (stat b hb).2⟩
      have I6' := I6.pinned stat (T.obj _ _ st6)
      -- what stands when a turn is over
      have over : ∀ {s7 : Shared} {σ7 : L2.St} {H7 : Hp} {ys7 : List V} {acc7 : List PyData} {d7 : St2} {m7 : Mu}, Inv (cyOf X scope cl HP.objs.size NC s₂ H2 pins fp) ([] ++ pinsAt fp s6.heap) σ7 H7 s7 → H7 s₂.heap.objs.size = some (.lst ys7) → RPs X.K (rsv Z s₂.heap.objs.size) m7 H7 acc7 ys7 →
          Ext X.K Z m1 H2 m7 H7 → Ok X.K (rsv Z s₂.heap.objs.size) m7 H7 → RS X.K (rsv Z s₂.heap.objs.size) m7 H7 d7 σ7 → (loopA (stepO g t fi2 (stepI g2 t2 f)) (xs.drop (i + 1)) acc7 d7 m7 (fun ps _ m2 => RL ps m2)) →
          ∃ n, n < xs.length - i ∧ ∃ (i : Nat) (ys : List V) (acc : List PyData) (d' : St2) (m' : Mu) (σ' : L2.St) (H' : Hp), n = xs.length - i ∧ i ≤ xs.length ∧ Inv (cyOf X scope cl HP.objs.size NC s₂ H2 pins fp) [] σ' H' s7 ∧ tn i s7.heap ∧ (∀ b ∈ fp, H' b = none) ∧
            H' s₂.heap.objs.size = some (.lst ys) ∧ RPs X.K (rsv Z s₂.heap.objs.size) m' H' acc ys ∧ Ext X.K Z m1 H2 m' H' ∧ Ok X.K (rsv Z s₂.heap.objs.size) m' H' ∧ RS X.K (rsv Z s₂.heap.objs.size) m' H' d' σ' ∧
            loopA (stepO g t fi2 (stepI g2 t2 f)) (xs.drop i) acc d' m' (fun ps _ m2 => RL ps m2) := by
        intro s7 σ7 H7 ys7 acc7 d7 m7 I7 a1 a2 a3 a4 a5 a6
        refine ⟨xs.length - (i + 1), by omega, i + 1, ys7, acc7, d7, m7, σ7, H7, rfl, hlt, I7.unpinned, T.keep _ _ _ st6 fun b hb o e => (I7.pin (b, o) (List.mem_append_right _ (List.mem_append_right _ (mem_pinsAt hb e)))).1, fun b hb => ?_, a1, a2, a3, a4, a5, a6⟩
        obtain ⟨o, e, dd⟩ := T.obj _ _ st6 b hb
        exact (I7.pin (b, o) (List.mem_append_right _ (List.mem_append_right _ (mem_pinsAt hb e)))).2.1
      refine thn (hg cl _ s₂ H2 pins fp _ s6 σ' _ x u (fun σ7 H7 => ∃ d7 m7, Ext X.K (rsv Z s₂.heap.objs.size) m' H6 m7 H7 ∧ Ok X.K (rsv Z s₂.heap.objs.size) m7 H7 ∧ RS X.K (rsv Z s₂.heap.objs.size) m7 H7 d7 σ7 ∧
        t d7 m7 fun b m2 => if b = true then fi2 d7 m2 fun zs m3 => loopA (stepI g2 t2 f) zs acc d7 m3 (fun acc' d' m' => loopA (stepO g t fi2 (stepI g2 t2 f)) (xs.drop (i + 1)) acc' d' m' (fun ps _ m2 => RL ps m2)) else loopA (stepO g t fi2 (stepI g2 t2 f)) (xs.drop (i + 1)) acc d7 m2 (fun ps _ m2 => RL ps m2)) I6' r6
        ⟨_, xs[i], d', m', _, ok5, rs5, rv, lp5, fun d7 m7 σ7 H7 q7 e7 ok7 rs7 => ⟨d7, m7, e7, ok7, rs7, q7⟩⟩) fun _ s7 hq0 => ?_
      obtain ⟨σ7, H7, I7, d7, m7, e7, ok7, rs7, q7⟩ := hq0
      refine thn (ht cl _ s₂ H2 pins fp _ s7 σ7 H7 (fun b H8 => ∃ m8, Ext X.K (rsv Z s₂.heap.objs.size) m7 H7 m8 H8 ∧ Ok X.K (rsv Z s₂.heap.objs.size) m8 H8 ∧
        if b = true then fi2 d7 m8 fun zs m3 => loopA (stepI g2 t2 f) zs acc d7 m3 (fun acc' d' m' => loopA (stepO g t fi2 (stepI g2 t2 f)) (xs.drop (i + 1)) acc' d' m' (fun ps _ m2 => RL ps m2)) else loopA (stepO g t fi2 (stepI g2 t2 f)) (xs.drop (i + 1)) acc d7 m8 (fun ps _ m2 => RL ps m2)) I7
        ⟨_, d7, m7, _, ok7, rs7, q7, fun b m8 H8 q8 e8 ok8 => ⟨m8, e8, ok8, q8⟩⟩) fun b s8 hq0 => ?_
      obtain ⟨H8, I8, m8, e8, ok8, q8⟩ := hq0
      have e68 := e7.trans e8
      have hD8 : H8 s₂.heap.objs.size = some (.lst ys) := (e68.z _ (.inr rfl)).trans hDy
      cases b with
      | false =>
        rw [if_neg Bool.false_ne_true] at q8
        exact over I8 hD8 (RPs.ext e68 _ _ racc) (ext_inner eX hD hkD e68) ok8 (rs7.ext e8) q8
      | true =>
        rw [if_pos rfl] at q8
        rw [if_pos rfl]
        have nz : ¬ Z s₂.heap.objs.size := fun z => (ok1.z _ z).2 hD
        have ic := inner_core (Y := cyOf X scope cl HP.objs.size NC s₂ H2 pins fp) (tg := tg) (iter := iter) (ifs := ifs) (scope := scope) (pos := pos) hc (fun _ _ z => z) (hi2 cl _ s₂ H2 pins fp) (hg2 cl _ s₂ H2 pins fp) (ht2 cl _ s₂ H2 pins fp) (he cl _ s₂ H2 pins fp) I8 nz hD8 (RPs.ext e68 _ _ racc) ok8 (rs7.ext e8) q8
        refine thn ic fun xv9 s9 h9 => thn h9 fun it9 s10 h10 => codeAny_mono h10 ?_
        rintro r s11 ⟨hr, σ', H', ys', acc', d', m', I11, hD11, racc11, e11, ok11, rs11, q11⟩
        exact ⟨hr, over I11 hD11 racc11 (ext_innerW (ext_inner eX hD hkD e68) hD hkD e11) ok11 rs11 q11⟩
    · have e : i = xs.length := by omega
      subst e
      rw [List.drop_length] at lp5
      refine thn (T.done (cyOf X scope cl HP.objs.size NC s₂ H2 pins fp) rfl rfl rfl hc _ [] s4 σ' H' (fun _ _ => False) I5 stat st5 y2) fun r s5 hq0 => ?_
      obtain ⟨hr, I6⟩ := hq0
      subst hr
      have IX := cy_end I2 f2 I6 leC (Heap.SameBut.refl _ _)
      have nz : ¬ Z s₂.heap.objs.size := fun z => (ok1.z _ z).2 hD
      refine fin s5 HP.objs.size s₂.heap.objs.size H' m' acc lp5 (e1.trans eX) (ok_out ok5) ?_ ⟨_, I6.loc.choose_spec.1⟩ IX ⟨I6.free, Nat.ne_of_gt (Nat.lt_of_lt_of_le I2.lt leC), Nat.le_trans I2.sz leC, fun x c e => ?_, fun p hp => ?_⟩
      · simp only [RD, RP]
        exact ⟨_, ys, rfl, ⟨(ok5.z _ (.inr rfl)).1, nz⟩, .inl (.inl hDy), RPs.tr (fun _ _ q => q) (fun a vs q1 q2 => ⟨⟨q1.1, fun z => q1.2 (.inl z)⟩, q2⟩) _ _ racc⟩
      · obtain ⟨v, q⟩ := I2.cell x c e
        exact Nat.ne_of_lt (Nat.lt_of_lt_of_le q.lt leC)
      · exact Nat.ne_of_lt (Nat.lt_of_lt_of_le (Heap.lt_size (I2.pin p hp).1) leC)
  exact codeAny_compStart_list (loop _ rfl) (T.self _ 0 _ _ _ st4 (loop _ rfl))
theorem le_lc2 (src : List (Option Nat)) (hc : X.calm = true) (hi : PI X tg iter (LI X.K fi))
    (hg : ∀ cl C s2 H2 pins fp, PG (cyOf X scope cl C NC s2 H2 pins fp) tg (LG X.K g)) (ht : ∀ cl C s2 H2 pins fp, PF (cyOf X scope cl C NC s2 H2 pins fp) ifs (LT X.K t)) (hi2 : ∀ cl C s2 H2 pins fp, PI (cyOf X scope cl C NC s2 H2 pins fp) tg2 iter2 (LI X.K fi2)) (hg2 : ∀ cl C s2 H2 pins fp, PG (cyOf X scope cl C NC s2 H2 pins fp) tg2 (LG X.K g2)) (ht2 : ∀ cl C s2 H2 pins fp, PF (cyOf X scope cl C NC s2 H2 pins fp) ifs2 (LT X.K t2))
    (he : ∀ cl C s2 H2 pins fp, PE (cyOf X scope cl C NC s2 H2 pins fp) elt (LE X.K f)) (hs2 : ∀ cl C x, foldedSetIterable iter2 (compEnvC scope cl C X.env) x = pure x)
    (hkind : scope.kind = .function) (hcell : ∀ y ∈ scope.names, y.2 ≠ .cell) (hnames : ∀ y ∈ scope.names, y.2 = .local → scope.names.lookup y.1 = some .local)
    (hfree : ∀ x, (x, NameKind.free) ∈ scope.names → X.env.kindOf x = some .cell ∨ X.env.kindOf x = some .free) (hsrc : srcChk X scope NC src)
    (hs : ∀ x, foldedSetIterable iter X.env x = pure x := by intro _; rfl) :
    PE X (.ListComp elt [⟨tg, iter, ifs, 0⟩, ⟨tg2, iter2, ifs2, 0⟩] scope pos) (LE X.K (dLC2 src fi g t fi2 g2 t2 f)) := by
  intro pins s σ H Q I h
  obtain ⟨Z, d, m, R, ok, rs, h, k⟩ := h
  rw [eval_ListComp]
  refine lc2_core src hc hi hg ht hi2 hg2 ht2 he hs2 hkind hcell hnames hfree hsrc hs (use := none) (QQ := EP X pins σ Q) (RL := fun ps m2 => R (.dat (.list ps)) m2) I ok rs h ?_
  intro s5 C D H' m' ps q e ok' rd ⟨mm, hns⟩ I5 off
  exact ⟨mm, hns, fun h' hs' => ⟨.ref D, H', off.inv I5 hs', rfl, k _ m' _ H' q e ok' rd⟩⟩
theorem le_lc2B (NC : List Str) (src : List (Option Nat)) (hc : X.calm = true) (hi : PI X tg iter (LI X.K fi))
    (hg : ∀ cl C s2 H2 pins fp, PG (cyOf X scope cl C NC s2 H2 pins fp) tg (LG X.K g)) (ht : ∀ cl C s2 H2 pins fp, PF (cyOf X scope cl C NC s2 H2 pins fp) ifs (LT X.K t))
    (hi2 : ∀ cl C s2 H2 pins fp, PI (cyOf X scope cl C NC s2 H2 pins fp) tg2 iter2 (LI X.K fi2)) (hg2 : ∀ cl C s2 H2 pins fp, PG (cyOf X scope cl C NC s2 H2 pins fp) tg2 (LG X.K g2)) (ht2 : ∀ cl C s2 H2 pins fp, PF (cyOf X scope cl C NC s2 H2 pins fp) ifs2 (LT X.K t2))
    (he : ∀ cl C s2 H2 pins fp, PE (cyOf X scope cl C NC s2 H2 pins fp) elt (LE X.K f))
    (hkind : scope.kind = .function := by rfl) (hB : chkB scope X.env = true := by rfl) (hS : chkS X.N scope X.env NC src = true := by rfl)
    (hs2 : ∀ cl C x, foldedSetIterable iter2 (compEnvC scope cl C X.env) x = pure x := by intro _ _ _; rfl)
    (hs : ∀ x, foldedSetIterable iter X.env x = pure x := by intro _; rfl) : PE X (.ListComp elt [⟨tg, iter, ifs, 0⟩, ⟨tg2, iter2, ifs2, 0⟩] scope pos) (LE X.K (dLC2 src fi g t fi2 g2 t2 f)) :=
  le_lc2 (NC := NC) src hc hi hg ht hi2 hg2 ht2 he hs2 hkind (chkB.ok hB).1 (chkB.ok hB).2.1 (chkB.ok hB).2.2 (chkS.ok hS) hs
end
end DL
set_option Elab.async false
set_option linter.all false
set_option maxRecDepth 100000
set_option maxHeartbeats 4000000
namespace DL
open PySem PySem.Spec PyProof.Rows L2
section
variable {prog : Program} {w : World} {A : Around} {E : Value → Shared → Prop} {s : Shared}
theorem nt_item {it tq : Addr} {i : Nat} {its : Array Value} {x : Value} {Q : Value → Shared → Prop} (hit : s.heap.IsTupleIter it tq i) (ht : s.heap.IsTuple tq its) (hx : its[i]? = some x)
    (hQ : ∀ h', h'.IsTupleIter it tq (i + 1) → Heap.SameBut it s.heap h' → Q x { s with heap := h' }) : wpAny (model prog w) A (Builtin.SmallTypes.nextOf (.ref it)) Q E s := by
  obtain ⟨o, ho, hc, hd⟩ := id hit; obtain ⟨ol, hol, _, nl, hdl⟩ := ht
  unfold Builtin.SmallTypes.nextOf
  refine wpAny_bind (wpAny_callSpecial?_slot (name := Str.ofString "__next__") hit.typeIs F.slot_tuple_iterator_next (wpAny_call_entry F.slot_tuple_iterator_next hit.typeIs F.entry_tuple_iterator_next ?_ (F.args_tuple_iterator_next_1 _)))
  show wpAny _ _ (field (.ref it) 0 >>= _) _ _ _; refine wpAny_bind (wpAny_field ho hd (x := .ref tq) rfl ?_)
  show wpAny _ _ (if (Value.ref tq == Value.none) = true then _ else _) _ _ s
  rw [if_neg (show ¬ ((Value.ref tq == Value.none) = true) from Bool.false_ne_true)]
  show wpAny _ _ (field (.ref it) 1 >>= _) _ _ _; refine wpAny_bind (wpAny_field ho hd (x := .int i 0) rfl ?_)
  show wpAny _ _ (seqItems? (.ref tq) >>= _) _ _ s
  refine wpAny_bind (wpAny_seqItems hol hdl ?_); simp only [Int.toNat_natCast, hx]
  refine wpAny_bind (wpAny_setField ho hd (by simp) (wpAny_pure ⟨_, rfl, wpAny_pure (hQ _ ?_ (Heap.SameBut.update ..))⟩))
  refine ⟨_, Heap.get?_update_self _ ho (Obj.isFreed_of_fields (Obj.data_mapFields hd _)), (Obj.cls_mapFields ..).trans hc, ?_⟩
  rw [Obj.data_mapFields hd] <;> simp [rawInt]
theorem nt_end {it tq : Addr} {i : Nat} {its : Array Value} {Q : Value → Shared → Prop} (hh : A.handled = none) (hit : s.heap.IsTupleIter it tq i) (ht : s.heap.IsTuple tq its) (hx : its[i]? = none)
    (hE : ∀ h' e, Heap.ExtBut it s.heap h' → (∃ o, h'.get? e = some o ∧ o.cls = .type "StopIteration") → E (.ref e) { s with heap := h' }) : wpAny (model prog w) A (Builtin.SmallTypes.nextOf (.ref it)) Q E s := by
  obtain ⟨o, ho, hc, hd⟩ := id hit; obtain ⟨ol, hol, _, nl, hdl⟩ := ht
  unfold Builtin.SmallTypes.nextOf
  refine wpAny_bind (wpAny_callSpecial?_slot (name := Str.ofString "__next__") hit.typeIs F.slot_tuple_iterator_next (wpAny_call_entry F.slot_tuple_iterator_next hit.typeIs F.entry_tuple_iterator_next ?_ (F.args_tuple_iterator_next_1 _)))
  show wpAny _ _ (field (.ref it) 0 >>= _) _ _ _; refine wpAny_bind (wpAny_field ho hd (x := .ref tq) rfl ?_)
  show wpAny _ _ (if (Value.ref tq == Value.none) = true then _ else _) _ _ s
  rw [if_neg (show ¬ ((Value.ref tq == Value.none) = true) from Bool.false_ne_true)]
  show wpAny _ _ (field (.ref it) 1 >>= _) _ _ _; refine wpAny_bind (wpAny_field ho hd (x := .int i 0) rfl ?_)
  show wpAny _ _ (seqItems? (.ref tq) >>= _) _ _ s
  refine wpAny_bind (wpAny_seqItems hol hdl ?_); simp only [Int.toNat_natCast, hx]
  refine wpAny_bind (wpAny_rule (wpAny_bind (wpAny_setField ho hd (by simp) ?_))); show wpAny _ _ (newExc (.type "StopIteration") [] >>= _) _ _ _
  refine wpAny_bind ?_; simp only [newExc, newTuple]; refine wpAny_bind (wpAny_newObj_type ?_ (by size_fits))
  refine wpAny_bind (m := firstArgMember _ _) (wpAny_of_eq (a := Value.none) (by first | rfl | (simp only [firstArgMember]; rfl)) ?_); refine wpAny_newObj_type ?_ (by size_fits)
  simp only [raiseNew]; refine wpAny_bind (wpAny_handled ?_)
  (first | rw [show A.in1.handled = none from hh] | rw [hh]); refine wpAny_bind (wpAny_pure (wpAny_throw ?_))
  exact hE _ _ (((Heap.SameBut.update ..).extBut.push _).push _) ⟨_, Heap.get?_push_size _ rfl, rfl⟩
structure Zst (h : Heap) (z TI TO i1 i2 t1 t2 : Addr) (f0 : Value) (k : Nat) : Prop where
  z : IsZip h z TI TO f0
  ti : IsPair h TI (.ref i1) (.ref i2)
  to : ∃ a b, IsPair h TO a b
  a : h.IsTupleIter i1 t1 k
  b : h.IsTupleIter i2 t2 k
theorem zt_item {z TI TO i1 i2 t1 t2 : Addr} {k : Nat} {xs ys : Array Value} {x y : Value} {Q : Value → Shared → Prop} (D : ZipApart z TI TO i1 i2 t1 t2) (S : Zst s.heap z TI TO i1 i2 t1 t2 .none k)
    (g1 : s.heap.IsTuple t1 xs) (g2 : s.heap.IsTuple t2 ys) (hx : xs[k]? = some x) (hy : ys[k]? = some y)
    (hQ : ∀ h', Zst h' z TI TO i1 i2 t1 t2 (rawInt s.heap.objs.size) (k + 1) → IsPair h' s.heap.objs.size x y →
      (∀ c o, c ≠ z → c ≠ TO → c ≠ i1 → c ≠ i2 → s.heap.get? c = some o → h'.get? c = some o) → Q (.ref s.heap.objs.size) { s with heap := h' }) :
    wpAny (model prog w) A (Builtin.«zip.__next__» ⟨[.ref z], []⟩) (fun fin s' => ∃ v, fin = .done (.ret v) ∧ Q v s') E s := by
  obtain ⟨hz, hTI, ⟨a, b, hTO⟩, h1, h2⟩ := S
  show wpAny _ _ (field (.ref z) 2 >>= _) _ _ _; refine wpAny_bind (wpAny_field hz rfl (x := .bool false) rfl ?_)
  show wpAny _ _ (field (.ref z) 3 >>= _) _ _ _; refine wpAny_bind (wpAny_field hz rfl (x := .ref TI) rfl (wpAny_bind (wpAny_seqItems hTI rfl ?_)))
  show wpAny _ _ (Builtin.SmallTypes.ownedTupleIsFree (.ref z) >>= _) _ _ _; refine wpAny_bind ?_
  unfold Builtin.SmallTypes.ownedTupleIsFree; refine wpAny_bind (wpAny_field hz rfl (x := .none) rfl (wpAny_pure ?_))
  simp only [if_true]; refine wpAny_bind (wpAny_rule (wpAny_bind (wpAny_field hz rfl (x := .ref TO) rfl ?_)))
  refine wpAny_bind (wpAny_setField_rec hz (by simp) fun n1 z1 c1 => ?_); replace z1 : IsZip n1 z TI TO .ellipsis := z1
  refine wpAny_bind ?_; simp only [List.zipIdx_cons, List.zipIdx_nil, List.forIn_cons, List.forIn_nil]
  refine wpAny_bind (wpAny_bind (wpAny_onRaise ?_)); show wpAny _ _ (Builtin.SmallTypes.nextOf (.ref i1) >>= _) _ _ _
  refine wpAny_bind (nt_item (h1.at fun o e => c1.extBut _ o D.i1z e) (g1.extBut c1.extBut D.l1z) hx fun n2 b2 c2 => wpAny_pure ?_)
  have p2 : IsPair n2 TO a b := c2.extBut _ _ D.TOi1 (c1.extBut _ _ D.TOz hTO)
  refine wpAny_bind (wpAny_seqItems p2 rfl (wpAny_bind (wpAny_updateSeq_pair p2 fun n3 p3 c3 => ?_))); replace p3 : IsPair n3 TO x b := p3
  refine wpAny_bind (wpAny_letGo (wpAny_pure (wpAny_bind (wpAny_bind (wpAny_onRaise ?_))))); show wpAny _ _ (Builtin.SmallTypes.nextOf (.ref i2) >>= _) _ _ _
  have up3 : ∀ c o, c ≠ z → c ≠ TO → c ≠ i1 → s.heap.get? c = some o → n3.get? c = some o := fun c o q1 q2 q3 e => c3.extBut _ _ q2 (c2.extBut _ _ q3 (c1.extBut _ _ q1 e))
  have g23 : n3.IsTuple t2 ys := by
    obtain ⟨o, ho, r⟩ := g2
    exact ⟨o, up3 _ _ D.l2z D.l2TO D.l2i1 ho, r⟩
  refine wpAny_bind (nt_item (h2.at fun o e => up3 _ o D.i2z D.TOi2.symm D.i12.symm e) g23 hy fun n4 b4 c4 => wpAny_pure ?_)
  have p4 : IsPair n4 TO x b := c4.extBut _ _ D.TOi2 p3
  refine wpAny_bind (wpAny_seqItems p4 rfl (wpAny_bind (wpAny_updateSeq_pair p4 fun n5 p5 c5 => ?_))); replace p5 : IsPair n5 TO x y := p5
  refine wpAny_bind (wpAny_letGo (wpAny_pure (wpAny_pure (wpAny_bind (wpAny_seqItems p5 rfl (wpAny_bind (wpAny_newTuple ?_)))))))
  have size5 : n5.objs.size = s.heap.objs.size := by rw [c5.1, c4.1, c3.1, c2.1, c1.1]
  have z5 : IsZip n5 z TI TO .ellipsis := c5.extBut _ _ D.TOz.symm (c4.extBut _ _ D.i2z.symm (c3.extBut _ _ D.TOz.symm (c2.extBut _ _ D.i1z.symm z1)))
  have up5 : ∀ c o, c ≠ z → c ≠ TO → c ≠ i1 → c ≠ i2 → s.heap.get? c = some o → n5.get? c = some o := fun c o q1 q2 q3 q4 e => c5.extBut _ _ q2 (c4.extBut _ _ q4 (up3 c o q1 q2 q3 e))
  have a5 : n5.IsTupleIter i1 t1 (k + 1) := b2.at fun o e => c5.extBut _ _ D.TOi1.symm (c4.extBut _ _ D.i12 (c3.extBut _ _ D.TOi1.symm e))
  have b5 : n5.IsTupleIter i2 t2 (k + 1) := b4.at fun o e => c5.extBut _ _ D.TOi2.symm e
  have zlt : z < n5.objs.size := Heap.lt_size z5
  show wpAny _ _ (Builtin.SmallTypes.ownedTupleHandOut (.ref z) (.ref n5.objs.size) >>= _) _ _ _; refine wpAny_bind ?_
  unfold Builtin.SmallTypes.ownedTupleHandOut
  have z6 : IsZip (n5.push { cls := .type "tuple", data := .seq #[x, y] }) z TI TO .ellipsis := Heap.get?_push_of_some _ z5
  refine wpAny_bind (wpAny_setField_rec z6 (by simp) fun n7 z7 c7 => ?_); replace z7 : IsZip n7 z TI TO (rawInt n5.objs.size) := z7
  refine wpAny_setField_rec z7 (by simp) fun n8 z8 c8 => ?_; replace z8 : IsZip n8 z TI TO (rawInt n5.objs.size) := z8
  have up8 : ∀ c o, c ≠ z → n5.get? c = some o → n8.get? c = some o := fun c o q e => c8.extBut _ _ q (c7.extBut _ _ q (Heap.get?_push_of_some _ e))
  have new8 : IsPair n8 n5.objs.size x y := c8.extBut _ _ (Nat.ne_of_gt zlt) (c7.extBut _ _ (Nat.ne_of_gt zlt) (Heap.get?_push_size _ rfl))
  rw [size5] at z8 new8
  refine wpAny_pure ⟨_, rfl, ?_⟩
  show Q (.ref n5.objs.size) _
  rw [size5]
  exact hQ n8 ⟨z8, up8 _ _ D.TIz (up5 _ _ D.TIz D.TITO D.TIi1 D.TIi2 hTI), ⟨x, y, up8 _ _ D.TOz p5⟩, a5.at fun o e => up8 _ o D.i1z e, b5.at fun o e => up8 _ o D.i2z e⟩ new8 fun c o q1 q2 q3 q4 e => up8 c o q1 (up5 c o q1 q2 q3 q4 e)
theorem zt_end {z TI TO i1 i2 t1 t2 : Addr} {k : Nat} {xs ys : Array Value} {Q : Fin → Shared → Prop} (hh : A.handled = none) (D : ZipApart z TI TO i1 i2 t1 t2) (S : Zst s.heap z TI TO i1 i2 t1 t2 .none k)
    (g1 : s.heap.IsTuple t1 xs) (g2 : s.heap.IsTuple t2 ys) (hend : xs[k]? = none ∨ ys[k]? = none)
    (hE : ∀ h' e, (∀ c o, c ≠ z → c ≠ TO → c ≠ i1 → c ≠ i2 → s.heap.get? c = some o → h'.get? c = some o) → (∃ o, h'.get? e = some o ∧ o.cls = .type "StopIteration") → E (.ref e) { s with heap := h' }) :
    wpAny (model prog w) A (Builtin.«zip.__next__» ⟨[.ref z], []⟩) Q E s := by
  obtain ⟨hz, hTI, ⟨a, b, hTO⟩, h1, h2⟩ := S
  show wpAny _ _ (field (.ref z) 2 >>= _) _ _ _; refine wpAny_bind (wpAny_field hz rfl (x := .bool false) rfl ?_)
  show wpAny _ _ (field (.ref z) 3 >>= _) _ _ _; refine wpAny_bind (wpAny_field hz rfl (x := .ref TI) rfl (wpAny_bind (wpAny_seqItems hTI rfl ?_)))
  show wpAny _ _ (Builtin.SmallTypes.ownedTupleIsFree (.ref z) >>= _) _ _ _; refine wpAny_bind ?_
  unfold Builtin.SmallTypes.ownedTupleIsFree; refine wpAny_bind (wpAny_field hz rfl (x := .none) rfl (wpAny_pure ?_))
  simp only [if_true]; refine wpAny_bind (wpAny_rule (wpAny_bind (wpAny_field hz rfl (x := .ref TO) rfl ?_)))
  refine wpAny_bind (wpAny_setField_rec hz (by simp) fun n1 z1 c1 => ?_); replace z1 : IsZip n1 z TI TO .ellipsis := z1
  refine wpAny_bind ?_; simp only [List.zipIdx_cons, List.zipIdx_nil, List.forIn_cons, List.forIn_nil]
  refine wpAny_bind (wpAny_bind (wpAny_onRaise ?_)); show wpAny _ _ (Builtin.SmallTypes.nextOf (.ref i1) >>= _) _ _ _
  have apart : ∀ (n : Heap) (e : Addr) (oe : Obj), IsZip n z TI TO .ellipsis → n.get? e = some oe → oe.cls = .type "StopIteration" → e ≠ z := fun n e oe q q1 q2 q3 => by
    subst q3
    rw [q] at q1
    cases q1
    simp at q2
  cases hx : xs[k]? with
  | none =>
    refine wpAny_bind (nt_end hh (h1.at fun o e => c1.extBut _ o D.i1z e) (g1.extBut c1.extBut D.l1z) hx fun n2 e c2 he => ?_)
    obtain ⟨oe, q1, q2⟩ := he
    have z2 : IsZip n2 z TI TO .ellipsis := c2 _ _ D.i1z.symm z1
    exact wpAny_setField_rec z2 (by simp) fun n3 _ c3 => hE n3 e (fun c o r1 _ r3 _ q => c3.extBut _ _ r1 (c2 _ _ r3 (c1.extBut _ _ r1 q))) ⟨oe, c3.extBut _ _ (apart _ _ _ z2 q1 q2) q1, q2⟩
  | some x =>
    have hy : ys[k]? = none := by
      rcases hend with h | h
      · rw [hx] at h; cases h
      · exact h
    refine wpAny_bind (nt_item (h1.at fun o e => c1.extBut _ o D.i1z e) (g1.extBut c1.extBut D.l1z) hx fun n2 b2 c2 => wpAny_pure ?_)
    have p2 : IsPair n2 TO a b := c2.extBut _ _ D.TOi1 (c1.extBut _ _ D.TOz hTO)
    refine wpAny_bind (wpAny_seqItems p2 rfl (wpAny_bind (wpAny_updateSeq_pair p2 fun n3 p3 c3 => ?_)))
    refine wpAny_bind (wpAny_letGo (wpAny_pure (wpAny_bind (wpAny_bind (wpAny_onRaise ?_))))); show wpAny _ _ (Builtin.SmallTypes.nextOf (.ref i2) >>= _) _ _ _
    have up3 : ∀ c o, c ≠ z → c ≠ TO → c ≠ i1 → s.heap.get? c = some o → n3.get? c = some o := fun c o q1 q2 q3 e => c3.extBut _ _ q2 (c2.extBut _ _ q3 (c1.extBut _ _ q1 e))
    have g23 : n3.IsTuple t2 ys := by
      obtain ⟨o, ho, r⟩ := g2
      exact ⟨o, up3 _ _ D.l2z D.l2TO D.l2i1 ho, r⟩
    refine wpAny_bind (nt_end hh (h2.at fun o e => up3 _ o D.i2z D.TOi2.symm D.i12.symm e) g23 hy fun n4 e c4 he => ?_)
    obtain ⟨oe, q1, q2⟩ := he
    have z4 : IsZip n4 z TI TO .ellipsis := c4 _ _ D.i2z.symm (c3.extBut _ _ D.TOz.symm (c2.extBut _ _ D.i1z.symm z1))
    exact wpAny_setField_rec z4 (by simp) fun n5 _ c5 => hE n5 e (fun c o r1 r2 r3 r4 q => c5.extBut _ _ r1 (c4 _ _ r4 (up3 c o r1 r2 r3 q))) ⟨oe, c5.extBut _ _ (apart _ _ _ z4 q1 q2) q1, q2⟩
end
end DL
set_option Elab.async false
set_option linter.all false
set_option maxRecDepth 100000
set_option maxHeartbeats 4000000
namespace DL
open PySem PySem.Spec PyProof.Rows L2
section
variable {X : Cx} {pins : List (Addr × Obj)} {σ : L2.St} {H : Hp} {s : Shared} {h' : Heap}
theorem turns {t' : Nat} {ch : List Addr} (I : Inv X pins σ H s) (k : ∀ b o, b ∉ ch → s.heap.get? b = some o → h'.get? b = some o) (hf : ∀ b ∈ ch, FpOk X pins H b) : Inv X pins σ H { s with heap := h', toks := t' } := by
  have nit : ∀ b u, H b = some u → b ∉ ch := fun b u e z => by rw [(hf b z).1] at e; cases e
  refine I.step (g' := s.gens) (d' := s.drawn) (ch := ch) (fun b hb => ?_) (fun b o _ _ hc e _ => k b o hc e) (fun b o _ _ hc e _ => ⟨o.slots, k b o hc e⟩) (fun _ _ _ _ n => n) (fun b o hc e => ⟨o, k b o hc e⟩) (fun _ _ e => e) (fun _ _ _ e => e) (fun b ps e => ⟨#[], by rw [e]; simp⟩) (fun m hm => ?_) (fun b u e => ?_) I.bare
  · obtain ⟨_, f1, _, f3, f4, f5⟩ := hf b hb
    exact ⟨f3, f1, f4, f5⟩
  · obtain ⟨o, es, ep, ho, r⟩ := hm
    exact ⟨o, es, ep, k _ o (fun z => (hf _ z).2.1 rfl) ho, r⟩
  · refine (I.hok b u e).stay (fun c v hc q => k c v ?_ q) (fun _ q => q) (fun _ _ q => q) fun _ _ _ q => q
    rcases hc with z | z
    · rw [z]; exact nit b u e
    · exact nit c _ z
end
section
variable {prog : Program} {w : World} {A : Around} {E : Value → Shared → Prop} {s : Shared}
abbrev zq1 (h : Heap) (t1 : Addr) : Heap := h.push { cls := .type "tuple_iterator", data := .fields #[.ref t1, .int 0 0] }
abbrev zq2 (h : Heap) (t1 t2 : Addr) : Heap := (zq1 h t1).push { cls := .type "tuple_iterator", data := .fields #[.ref t2, .int 0 0] }
abbrev zq3 (h : Heap) (t1 t2 : Addr) : Heap := (zq2 h t1 t2).push { cls := .type "tuple", data := .seq #[.ref h.objs.size, .ref (zq1 h t1).objs.size] }
abbrev zq4 (h : Heap) (t1 t2 : Addr) : Heap := (zq3 h t1 t2).push { cls := .type "tuple", data := .seq #[.none, .none] }
abbrev zq5 (h : Heap) (t1 t2 : Addr) : Heap := (zq4 h t1 t2).push { cls := .type "zip", data := .fields #[.none, .bool false, .bool false, .ref (zq2 h t1 t2).objs.size, .ref (zq3 h t1 t2).objs.size] }
theorem tup_push {h : Heap} {t : Addr} {xs : Array Value} (g : h.IsTuple t xs) (o : Obj) : (h.push o).IsTuple t xs := by
  obtain ⟨u, hu, r⟩ := g
  exact ⟨u, Heap.get?_push_of_some _ hu, r⟩
theorem zt_new (t1 t2 : Addr) (xs ys : Array Value) : Meets (Builtin.«zip.__new__» ⟨[.type "zip", .ref t1, .ref t2], []⟩) (fun _ R s => s.heap.IsTuple t1 xs ∧ s.heap.IsTuple t2 ys ∧
    R (.ok (.ret (.ref (zq4 s.heap t1 t2).objs.size))) { s with heap := zq5 s.heap t1 t2 }) := .of_wp fun prog w A R s hs => by
  obtain ⟨hp, g, d, tk, os⟩ := s; obtain ⟨hl1, hl2, h⟩ := hs
  have hsub := sub_zip
  have u1 : Heap.IsTuple (Shared.heap ⟨hp, g, d, tk, os⟩) t1 xs := hl1
  have u2 : Heap.IsTuple (Shared.heap ⟨hp.push { cls := .type "tuple_iterator", data := .fields #[.ref t1, .int 0 0] }, g, d, tk, os⟩) t2 ys := tup_push hl2 _
  wp_walk using wpAny_pyIter_tuple u1, wpAny_pyIter_tuple u2
  exact ⟨_, rfl, h⟩
theorem zt_call {t1 t2 : Addr} {xs ys : Array Value} {Q : Value → Shared → Prop} (g1 : s.heap.IsTuple t1 xs) (g2 : s.heap.IsTuple t2 ys)
    (h : ∀ h' n, n = s.heap.objs.size → Zst h' (n + 4) (n + 2) (n + 3) n (n + 1) t1 t2 .none 0 → (∀ c o, s.heap.get? c = some o → h'.get? c = some o) → Q (.ref (n + 4)) { s with heap := h' }) : wpAny (model prog w) A (call (.type "zip") [.ref t1, .ref t2]) Q E s := by
  refine callType_new F.called_zip (by decide) (F.typeCall_zip_2 _ _) (F.newCall_zip_2 _ _) (fun obj => F.args_object_init_3 obj _ _) F.entry_zip_new (zt_new t1 t2 xs ys) ⟨g1, g2, ?_⟩
  have z1 : (zq1 s.heap t1).objs.size = s.heap.objs.size + 1 := Heap.size_push ..
  have z2 : (zq2 s.heap t1 t2).objs.size = s.heap.objs.size + 2 := by rw [Heap.size_push, z1]
  have z3 : (zq3 s.heap t1 t2).objs.size = s.heap.objs.size + 3 := by rw [Heap.size_push, z2]
  have z4 : (zq4 s.heap t1 t2).objs.size = s.heap.objs.size + 4 := by rw [Heap.size_push, z3]
  have a5 : (zq5 s.heap t1 t2).get? (zq4 s.heap t1 t2).objs.size = some _ := Heap.get?_push_size _ rfl
  have a4 : (zq5 s.heap t1 t2).get? (zq3 s.heap t1 t2).objs.size = some _ := Heap.get?_push_of_some _ (Heap.get?_push_size _ rfl)
  have a3 : (zq5 s.heap t1 t2).get? (zq2 s.heap t1 t2).objs.size = some _ := Heap.get?_push_of_some _ (Heap.get?_push_of_some _ (Heap.get?_push_size _ rfl))
  have a2 : (zq5 s.heap t1 t2).get? (zq1 s.heap t1).objs.size = some _ := Heap.get?_push_of_some _ (Heap.get?_push_of_some _ (Heap.get?_push_of_some _ (Heap.get?_push_size _ rfl)))
  have a1 : (zq5 s.heap t1 t2).get? s.heap.objs.size = some _ := Heap.get?_push_of_some _ (Heap.get?_push_of_some _ (Heap.get?_push_of_some _ (Heap.get?_push_of_some _ (Heap.get?_push_size _ rfl))))
  show _ ∧ _
  rw [z2, z3, z4] at a5
  rw [z1, z2] at a3
  rw [z3] at a4
  rw [z1] at a2
  rw [z4]
  exact ⟨⟨_, a5, rfl⟩, h _ _ rfl ⟨a5, a3, ⟨_, _, a4⟩, ⟨_, a1, rfl, rfl⟩, ⟨_, a2, rfl, rfl⟩⟩ fun c o x => Heap.get?_push_of_some _ (Heap.get?_push_of_some _ (Heap.get?_push_of_some _ (Heap.get?_push_of_some _ (Heap.get?_push_of_some _ x))))⟩
end
def Itz (K : PySem.W.Frag) (t1 t2 : Addr) (n : Nat) : It :=
  ⟨fun i H => i < n ∧ ∃ xs ys, SqT K H t1 xs ∧ SqT K H t2 ys ∧ n = min xs.length ys.length, fun i H v H' => ∃ p x y, v = .ref p ∧ H p = none ∧ H' = upd H p (.tup [x, y]) ∧ ∀ xs ys, SqT K H t1 xs → SqT K H t2 ys → xs[i]? = some x ∧ ys[i]? = some y,
    fun i H => i = n ∧ ∃ xs ys, SqT K H t1 xs ∧ SqT K H t2 ys ∧ n = min xs.length ys.length⟩
theorem turn_zip {P : Program} {w : World} {K : PySem.W.Frag} {elts : List Expr} {j : Nat} {pos : Pos} {z TI TO i1 i2 t1 t2 : Addr} {n : Nat} (D : ZipApart z TI TO i1 i2 t1 t2) :
    Turn P w K (.Tuple elts j pos) (Itz K t1 t2 n) [z, TI, TO, i1, i2] z (fun i h => Zst h z TI TO i1 i2 t1 t2 .none i) where
  mem := by simp
  obj := fun i h st b hb => by
    obtain ⟨h1, h2, ⟨a, c, h3⟩, ⟨o4, e4, _, d4⟩, ⟨o5, e5, _, d5⟩⟩ := st
    simp only [List.mem_cons, List.not_mem_nil, or_false] at hb
    rcases hb with rfl | rfl | rfl | rfl | rfl
    · exact ⟨_, h1, fun v q => nomatch q⟩
    · exact ⟨_, h2, fun v q => nomatch q⟩
    · exact ⟨_, h3, fun v q => nomatch q⟩
    · exact ⟨_, e4, fun v q => by rw [d4] at q; cases q⟩
    · exact ⟨_, e5, fun v q => by rw [d5] at q; cases q⟩
  keep := fun i h h' st k => by
    obtain ⟨h1, h2, ⟨a, c, h3⟩, h4, h5⟩ := st
    exact ⟨k z (by simp) _ h1, k TI (by simp) _ h2, ⟨a, c, k TO (by simp) _ h3⟩, h4.at fun o e => k i1 (by simp) o e, h5.at fun o e => k i2 (by simp) o e⟩
  item := by
    intro X hP hw hK hc i pins s σ H E I hf st hg
    subst hP hw hK
    obtain ⟨hi, xs, ys, q1, q2, hn⟩ := hg
    obtain ⟨its1, r1, p1, l1⟩ := I.tuple q1
    obtain ⟨its2, r2, p2, l2⟩ := I.tuple q2
    have e1 : xs[i]? = some (xs[i]'(by omega)) := List.getElem?_eq_getElem (by omega)
    have e2 : ys[i]? = some (ys[i]'(by omega)) := List.getElem?_eq_getElem (by omega)
    obtain ⟨u1, hu1, ru1⟩ := r1.get e1
    obtain ⟨u2, hu2, ru2⟩ := r2.get e2
    have hT : s.TypeIs (.ref z) "zip" := ⟨_, st.z, rfl⟩
    have hp : H s.heap.objs.size = none := I.hok.fresh (Nat.le_refl _)
    unfold pyNext
    refine wpAny_bind (wpAny_attempt (wpAny_callSpecial?_slot (name := Str.ofString "__next__") hT F.slot_zip_next (wpAny_call_entry F.slot_zip_next hT F.entry_zip_next (zt_item D st (show s.heap.IsTuple t1 its1.toArray from p1) (show s.heap.IsTuple t2 its2.toArray from p2) (by simpa using hu1) (by simpa using hu2) fun h' st' np k => wpAny_pure ?_) (F.args_zip_next_1 _))))
    refine ⟨_, rfl, ?_⟩
    refine wpAny_letOwnedTupleGo_zip (s := { s with heap := h' }) st'.z fun h2 z2 c2 => ?_
    have I1 : Inv X pins σ (upd H s.heap.objs.size (.tup [_, _])) { s with heap := s.heap.push { cls := .type "tuple", data := .seq #[u1, u2] } } :=
      I.laid (t' := s.toks) (fun b o e => Heap.get?_push_of_some _ e) (Nat.le_refl _) (show ObjOk X.prog X.w _ _ _ (.tup [_, _]) from ⟨⟨by show 2 ≤ sizeLine; rw [sizeLine_eq]; decide, NoD.new _ _ _⟩, [u1, u2], .cons ru1 (.cons ru2 .nil), IsTup.new _ _⟩)
    have lt : ∀ {c o}, s.heap.get? c = some o → c ≠ s.heap.objs.size := fun e => Nat.ne_of_lt (Heap.lt_size e)
    have zne : s.heap.objs.size ≠ z := fun e => lt st.z e.symm
    have hf' : ∀ b ∈ [z, TI, TO, i1, i2], FpOk X pins (upd H s.heap.objs.size (.tup [xs[i]'(by omega), ys[i]'(by omega)])) b := fun b hb => by
      obtain ⟨f0, f1, f2, f3, f4, f5⟩ := hf b hb
      refine ⟨?_, f1, f2, f3, f4, f5⟩
      rw [upd_ne]
      · exact f0
      · obtain ⟨h1, h2, ⟨a, c, h3⟩, ⟨o4, e4, _⟩, ⟨o5, e5, _⟩⟩ := st
        simp only [List.mem_cons, List.not_mem_nil, or_false] at hb
        rcases hb with rfl | rfl | rfl | rfl | rfl
        · exact lt h1
        · exact lt h2
        · exact lt h3
        · exact lt e4
        · exact lt e5
    have kk : ∀ b o, b ∉ [z, TI, TO, i1, i2] → (s.heap.push { cls := .type "tuple", data := .seq #[u1, u2] }).get? b = some o → h2.get? b = some o := fun b o hb e => by
      simp only [List.mem_cons, List.not_mem_nil, or_false, not_or] at hb
      obtain ⟨n1, n2, n3, n4, n5⟩ := hb
      refine c2.extBut _ _ n1 ?_
      rcases Heap.get?_push_cases e with ⟨rfl, rfl⟩ | e
      · exact np
      · exact k b o n1 n3 n4 n5 e
    have I2 := turns (s := { s with heap := s.heap.push { cls := .type "tuple", data := .seq #[u1, u2] } }) (h' := h2) (t' := s.toks) (ch := [z, TI, TO, i1, i2]) I1 kk hf'
    refine ⟨.ref s.heap.objs.size, upd H s.heap.objs.size (.tup [xs[i]'(by omega), ys[i]'(by omega)]), I2, rfl, ⟨_, _, _, rfl, hp, rfl, fun xs' ys' g1 g2 => ?_⟩, ?_, fun b hb => (hf' b hb).1⟩
    · rw [I.tuple_inj g1 q1, I.tuple_inj g2 q2]
      exact ⟨e1, e2⟩
    · obtain ⟨h1, h2', ⟨a, c, h3⟩, h4, h5⟩ := st'
      exact ⟨z2, c2.extBut _ _ D.TIz h2', ⟨a, c, c2.extBut _ _ D.TOz h3⟩, h4.at fun o e => c2.extBut _ _ D.i1z e, h5.at fun o e => c2.extBut _ _ D.i2z e⟩
  done := by
    intro X hP hw hK hc i pins s σ H E I hf st hg
    subst hP hw hK
    obtain ⟨hi, xs, ys, q1, q2, hn⟩ := hg
    obtain ⟨its1, r1, p1, l1⟩ := I.tuple q1
    obtain ⟨its2, r2, p2, l2⟩ := I.tuple q2
    have m1 := r1.length
    have m2 := r2.length
    have hT : s.TypeIs (.ref z) "zip" := ⟨_, st.z, rfl⟩
    unfold pyNext
    refine wpAny_bind (wpAny_attempt (wpAny_callSpecial?_slot (name := Str.ofString "__next__") hT F.slot_zip_next (wpAny_call_entry F.slot_zip_next hT F.entry_zip_next (zt_end (I.ok.hd hc) D st (show s.heap.IsTuple t1 its1.toArray from p1) (show s.heap.IsTuple t2 its2.toArray from p2) ?_ fun h' e k he => ?_) (F.args_zip_next_1 _))))
    · by_cases c : xs.length ≤ ys.length
      · left
        simp
        omega
      · right
        simp
        omega
    · obtain ⟨o, ho, hce⟩ := he
      refine wpAny_bind (wpAny_isInstance (T := "StopIteration") (b := true) ⟨o, ho, hce⟩ isSubtype_stop ?_)
      refine wpAny_pure ⟨rfl, turns (t' := s.toks) (ch := [z, TI, TO, i1, i2]) I (fun b o hb e => ?_) hf⟩
      simp only [List.mem_cons, List.not_mem_nil, or_false, not_or] at hb
      exact k b o hb.1 hb.2.2.1 hb.2.2.2.1 hb.2.2.2.2 e
  self := fun _ _ _ _ _ st h => wpAny_pyIter_zip st.z h
theorem zapart (n a1 a2 : Nat) (h1 : a1 < n) (h2 : a2 < n) : ZipApart (n + 4) (n + 2) (n + 3) n (n + 1) a1 a2 := by
  constructor <;> exact fun e => absurd (show (_ : Nat) = _ from e) (by omega)
theorem boot_zip_ : bootBuiltins "zip" = some (.type "zip") := by decide +kernel
@[simp] def dZipI (f g : DE) : DI := fun d m Q => f d m fun x m1 => g d m1 fun y m2 => ∃ ps qs, x = .dat (.tuple ps) ∧ y = .dat (.tuple qs) ∧ Q ((ps.zip qs).map fun z => .dat (.tuple [z.1, z.2])) m2
section
variable {X : Cx} {a b : Expr} {elts : List Expr} {j : Nat} {f g : DE} {pos p p2 : Pos}
theorem li_zip (hg : Gl X "zip") (hm : X.mg "zip" = none) (ha : PE X a (LE X.K f)) (hb : PE X b (LE X.K g)) (hs : starEach [a, b] X.env = [(false, eval a X.env), (false, eval b X.env)] := by rfl) (hs2 : starEach [b] X.env = [(false, eval b X.env)] := by rfl) :
    PI X (.Tuple elts j p2) (.Call (.Name "zip" p) [a, b] [] pos) (LI X.K (dZipI f g)) := by
  intro pins s σ H R I h
  obtain ⟨Z, d, m, ZZ, ok, rs, h, k⟩ := h
  have hA := la_cons (X := X) ha (la_cons hb la_nil (by rw [hs2]; rfl)) (by rw [hs, hs2]) pos pins s σ H (fun vs H1 => ∃ a1 a2 xs ys ps qs m1, vs = [.ref a1, .ref a2] ∧ SqT X.K H1 a1 xs ∧ SqT X.K H1 a2 ys ∧ RPs X.K Z m1 H1 ps xs ∧ RPs X.K Z m1 H1 qs ys ∧
      ZZ ((ps.zip qs).map fun z => .dat (.tuple [z.1, z.2])) m1 ∧ Ext X.K Z m H m1 H1 ∧ Ok X.K Z m1 H1) I ⟨Z, d, m, fun ds m1 => match ds with | [x, y] => ∃ ps qs, x = .dat (.tuple ps) ∧ y = .dat (.tuple qs) ∧ ZZ ((ps.zip qs).map fun z => .dat (.tuple [z.1, z.2])) m1 | _ => False, ok, rs, h, fun xs m1 vs H1 q e1 ok1 rd => ?_⟩
  · refine Call_ (ld_blt I hg hm boot_zip_ (PyProof.Rows.callWith_type1 (thn hA fun us s1 ⟨vs, H1, I1, r1, q1⟩ => ?_) (by rw [hs, hs2]) (by rw [hs2]; rfl)))
    obtain ⟨a1, a2, xs, ys, ps, qs, m1, e, h1, h2, rp, rq, q, e1, ok1⟩ := q1
    subst e
    obtain ⟨u1, u2, rfl, ru1, ru2⟩ := vals2 r1
    cases ru1
    cases ru2
    obtain ⟨its1, rv1, pt1, l1⟩ := I1.tuple h1
    obtain ⟨its2, rv2, pt2, l2⟩ := I1.tuple h2
    refine zt_call (show s1.heap.IsTuple a1 its1.toArray from pt1) (show s1.heap.IsTuple a2 its2.toArray from pt2) fun h' n hn st kp => ?_
    have D : ZipApart (n + 4) (n + 2) (n + 3) n (n + 1) a1 a2 := zapart n a1 a2 (by obtain ⟨o, ho, _⟩ := pt1; rw [hn]; exact Heap.lt_size ho) (by obtain ⟨o, ho, _⟩ := pt2; rw [hn]; exact Heap.lt_size ho)
    refine wpAny_pyIter_zip (s := { s1 with heap := h' }) st.z ?_
    refine ⟨n + 4, [n + 4, n + 2, n + 3, n, n + 1], _, _, H1, rfl, I1.kept (t' := s1.toks) kp, turn_zip (n := min xs.length ys.length) D, st, fun c hc => ?_, k _ m1 H1 _ q e1 ok1 ?_⟩
    · have hle : s1.heap.objs.size ≤ c := by
        simp only [List.mem_cons, List.not_mem_nil, or_false] at hc
        subst hn
        rcases hc with rfl | rfl | rfl | rfl | rfl
        · exact Nat.le_add_right _ 4
        · exact Nat.le_add_right _ 2
        · exact Nat.le_add_right _ 3
        · exact Nat.le_refl _
        · exact Nat.le_add_right _ 1
      exact I1.fpOk hle (I1.hok.fresh hle)
    · intro m2 H2 e2
      have q1 := e2.t a1 xs h1
      have q2 := e2.t a2 ys h2
      have lp := rp.length
      have lq := rq.length
      refine ⟨fun i x hx => ?_, ?_, xs, ys, q1, q2, rfl⟩
      · rw [List.getElem?_map] at hx
        cases ez : (ps.zip qs)[i]? with
        | none => rw [ez] at hx; cases hx
        | some z =>
          rw [ez] at hx
          cases hx
          obtain ⟨z1, z2⟩ := z
          obtain ⟨ea, eb⟩ := List.getElem?_zip_eq_some.mp ez
          obtain ⟨v1, hv1, rv1'⟩ := rp.get ea
          obtain ⟨v2, hv2, rv2'⟩ := rq.get eb
          have b1 := (List.getElem?_eq_some_iff.mp hv1).1
          have b2 := (List.getElem?_eq_some_iff.mp hv2).1
          refine ⟨⟨by omega, xs, ys, q1, q2, rfl⟩, fun v H3 ⟨pp, x', y', ev, hp, eH, al⟩ => ?_⟩
          obtain ⟨w1, w2⟩ := al xs ys q1 q2
          rw [hv1] at w1
          rw [hv2] at w2
          cases w1
          cases w2
          refine .inr ⟨pp, [z1, z2], [_, _], rfl, ev, hp, eH, ?_⟩
          simp only [RPs]
          exact ⟨_, _, rfl, rv1', _, _, rfl, rv2', rfl⟩
      · show ((ps.zip qs).map _).length = min xs.length ys.length
        rw [List.length_map, List.length_zip, lp, lq]
  · match xs, q, rd with
    | [], q, _ => exact q.elim
    | [_], q, _ => exact q.elim
    | _ :: _ :: _ :: _, q, _ => exact q.elim
    | [x, y], q, rd =>
    obtain ⟨ps, qs, rfl, rfl, q⟩ := q
    obtain ⟨v, w, rfl, g1, g2⟩ := rd.two
    simp only [RD, RP] at g1 g2
    obtain ⟨a1, xs, rfl, h1, h2⟩ := g1
    obtain ⟨a2, ys, rfl, h3, h4⟩ := g2
    exact ⟨a1, a2, xs, ys, ps, qs, m1, rfl, h1, h3, h2, h4, q, e1, ok1⟩
end
end DL
set_option Elab.async false
set_option linter.all false
set_option maxRecDepth 100000
set_option maxHeartbeats 4000000
namespace DL
open PySem PySem.Spec PyProof.Rows L2
section
variable {X : Cx} {a e o : Expr} {es : List Expr} {f g : DE} {ga : DA} {pos p p1 p2 : Pos}
theorem pick_len (x : Str) (l u : Option (Int × Tok)) : (slicePicked x l u none).length ≤ x.length := by
  unfold slicePicked Builtin.Str.strSliceIndices sliceRange
  simp only [List.length_map, List.length_range, Option.map_none, Option.getD_none]
  have h1 : (1 : Int) > 0 := by decide
  simp only [h1, if_true]
  cases l <;> cases u <;> simp only [Option.map_none, Option.map_some] <;> repeat' split <;> omega
theorem fm_len {α β : Type} (f : α → Option β) : ∀ xs : List α, (xs.filterMap f).length ≤ xs.length
  | [] => Nat.le_refl _
  | x :: xs => by
    rw [List.filterMap_cons]
    have := fm_len f xs
    cases f x with
    | none => exact Nat.le_succ_of_le this
    | some y => exact Nat.succ_le_succ this
def rSlS : V → Option Int → Option Int → Hp → VK → Prop := fun x lo hi H Q => ∃ z : Str, x = .str z ∧ z.length ≤ sizeLine ∧ ∀ y : Str, y.length ≤ z.length → Q (.str y) H
theorem part_of {v : Value} {lo : Option Int} (h : IsPart v lo) : ∃ l, v = partValue l := by
  cases h with
  | none => exact ⟨none, rfl⟩
  | int i t => exact ⟨some (i, t), rfl⟩
theorem sl_str : SlR X rSlS := by
  intro pins s σ H x v vl vu lo hi sl Q I rx hs pl pu h
  obtain ⟨z, rfl, hz, q⟩ := h
  obtain ⟨t, rfl⟩ := rx
  obtain ⟨l, rfl⟩ := part_of pl
  obtain ⟨u, rfl⟩ := part_of pu
  refine ⟨"str", _, PySem.F.slot_str_getitem.lookup, typeIs_str s z t, ?_⟩
  refine wpAny_getItem_str_slice (l := l) (u := u) (st := none) hs rfl ?_
  unfold sliceMade
  split
  · exact ⟨.str z, H, I, ⟨_, rfl⟩, q z (Nat.le_refl _)⟩
  · have hl : (⟨((slicePicked z l u none).filterMap (z.cps[·]?)).toArray⟩ : Str).length ≤ z.length := by
      show ((slicePicked z l u none).filterMap (z.cps[·]?)).toArray.size ≤ z.length
      rw [List.size_toArray]
      exact Nat.le_trans (fm_len _ _) (pick_len z l u)
    exact ⟨Nat.le_trans hl hz, .str _, H, I.tok _, ⟨_, rfl⟩, q _ hl⟩
@[simp] def dSlX (f : DE) (lo hi : DO) : DE := fun d m Q => f d m fun x m1 => lo d m1 fun l m2 => hi d m2 fun u m3 =>
  (∃ xs, x = .dat (.tuple xs) ∧ Q (.dat (.tuple (cutP xs l u))) m3) ∨ (∃ xs, x = .dat (.list xs) ∧ Q (.dat (.list (cutP xs l u))) m3) ∨ (∃ z : Str, x = .dat (.str z) ∧ z.length ≤ sizeLine ∧ ∀ y : Str, y.length ≤ z.length → Q (.dat (.str y)) m3)
theorem le_slX {lo hi : Option Expr} {tl th : DO} (ha : PE X a (LE X.K f)) (hl : PO X lo (LO X.K tl)) (hu : PO X hi (LO X.K th)) : PE X (.Subscript a (.Slice lo hi none p2) pos) (LE X.K (dSlX f tl th)) :=
  PE.imp (pe_slice (sl_tup.or (sl_whole.or (sl_list.or sl_str))) ha hl hu) fun s H Q h => by
    obtain ⟨Z, d, m, R, ok, rs, h, k⟩ := h
    refine ⟨Z, d, m, _, ok, rs, h, fun x m1 v H1 q e1 ok1 rx => ⟨Z, d, m1, _, ok1, rs.ext e1, q, fun l m2 H2 q2 e2 ok2 => ⟨Z, d, m2, _, ok2, (rs.ext e1).ext e2, q2, fun u m3 H3 q3 e3 ok3 => ?_⟩⟩⟩
    have e13 := e1.trans (e2.trans e3)
    have rx3 := rx.ext (e2.trans e3)
    rcases q3 with ⟨xs, rfl, q4⟩ | ⟨xs, rfl, q4⟩ | ⟨z, rfl, hz, q4⟩
    · simp only [RD, RP] at rx3
      obtain ⟨a, vs, rfl, h1, h2⟩ := rx3
      by_cases hw : HT.sIx vs.length 0 l = 0 ∧ HT.sIx vs.length vs.length u = vs.length
      · refine .inr (.inl ⟨a, vs, rfl, h1, hw, k _ m3 _ H3 q4 e13 ok3 ?_⟩)
        rw [h2.length] at hw
        rw [cut_whole xs hw]
        simp only [RD, RP]
        exact ⟨a, vs, rfl, h1, h2⟩
      · refine .inl ⟨a, vs, rfl, h1, hw, fun p hp => ?_⟩
        have sm : Same H3 (upd H3 p (.tup (cutV vs l u))) := same_new hp
        refine k _ m3 _ _ q4 (e13.trans (ok3.ext sm)) (ok3.grow sm) ?_
        simp only [RD, RP]
        exact ⟨p, _, rfl, .inl (.inl upd_same), RPs.ext (ok3.ext sm) _ _ h2.cut⟩
    · simp only [RD, RP] at rx3
      obtain ⟨a, vs, rfl, h0, h1, h2⟩ := rx3
      refine .inr (.inr (.inl ⟨a, vs, rfl, h1, fun p hp => ?_⟩))
      have sm : Same H3 (upd H3 p (.lst (cutV vs l u))) := same_new hp
      refine k _ m3 _ _ q4 (e13.trans (ok3.ext sm)) (ok3.grow sm) ?_
      simp only [RD, RP]
      exact ⟨p, _, rfl, ok_none ok3 hp, .inl (.inl upd_same), RPs.ext (ok3.ext sm) _ _ h2.cut⟩
    · cases rx3.str
      exact .inr (.inr (.inr ⟨z, rfl, hz, fun y hy => k _ m3 _ H3 (q4 y hy) e13 ok3 .ofStr⟩))
end
end DL
set_option Elab.async false
set_option linter.all false
set_option maxRecDepth 100000
set_option maxHeartbeats 4000000
namespace DL
open PySem PySem.Spec PyProof.Rows L2
def valP {κ : Type} [DecidableEq κ] (kvs : List (κ × PyData)) (k : κ) : Option PyData := (kvs.find? fun kv => decide (kv.1 = k)).map (·.2)
def putP {κ : Type} [DecidableEq κ] (kvs : List (κ × PyData)) (k : κ) (p : PyData) : List (κ × PyData) :=
  if (kvs.any fun kv => decide (kv.1 = k)) = true then kvs.map (fun kv => if kv.1 = k then (kv.1, p) else kv) else kvs ++ [(k, p)]
section
variable {κ : Type} [DecidableEq κ] {K : PySem.W.Frag} {Z : Addr → Prop} {m : Mu} {H : Hp}
theorem RKV.length : ∀ {kvs : List (κ × PyData)} {vs : List (κ × V)}, RKV K Z m H kvs vs → vs.length = kvs.length
  | [], _, h => by cases (show _ = [] from h); rfl
  | _ :: _, _, ⟨v, r, h1, _, h3⟩ => by subst h1; rw [List.length_cons, List.length_cons, RKV.length h3]
theorem RKV.val {k : κ} {p : PyData} : ∀ {kvs : List (κ × PyData)} {vs : List (κ × V)}, RKV K Z m H kvs vs → valP kvs k = some p → ∃ v, valV vs k = some v ∧ RP K Z m H p v
  | [], _, _, e => by simp [valP] at e
  | (j, q) :: xs, _, ⟨v, r, h1, h2, h3⟩, e => by
    subst h1
    unfold valP at e
    unfold valV
    by_cases c : j = k
    · simp [List.find?_cons, c] at e ⊢
      exact e ▸ h2
    · simp [List.find?_cons, c] at e ⊢
      have := RKV.val (k := k) (p := p) h3 (by unfold valP; simpa using e)
      unfold valV at this
      simpa using this
theorem RKV.any {k : κ} : ∀ {kvs : List (κ × PyData)} {vs : List (κ × V)}, RKV K Z m H kvs vs → (vs.any fun kv => decide (kv.1 = k)) = (kvs.any fun kv => decide (kv.1 = k))
  | [], _, h => by cases (show _ = [] from h); rfl
  | _ :: _, _, ⟨v, r, h1, _, h3⟩ => by subst h1; rw [List.any_cons, List.any_cons, RKV.any h3]
theorem RKV.repl {k : κ} {p : PyData} {v : V} (hp : RP K Z m H p v) : ∀ {kvs : List (κ × PyData)} {vs : List (κ × V)}, RKV K Z m H kvs vs → RKV K Z m H (kvs.map fun kv => if kv.1 = k then (kv.1, p) else kv) (vs.map fun kv => if kv.1 = k then (kv.1, v) else kv)
  | [], _, h => by cases (show _ = [] from h); exact (rfl : ([] : List (κ × V)) = [])
  | (j, q) :: xs, _, ⟨w, r, h1, h2, h3⟩ => by
    subst h1
    rw [List.map_cons, List.map_cons]
    by_cases c : j = k
    · rw [if_pos c, if_pos c]
      exact ⟨v, _, rfl, hp, RKV.repl hp h3⟩
    · rw [if_neg c, if_neg c]
      exact ⟨w, _, rfl, h2, RKV.repl hp h3⟩
theorem RKV.snoc {k : κ} {p : PyData} {v : V} (hp : RP K Z m H p v) : ∀ {kvs : List (κ × PyData)} {vs : List (κ × V)}, RKV K Z m H kvs vs → RKV K Z m H (kvs ++ [(k, p)]) (vs ++ [(k, v)])
  | [], _, h => by cases (show _ = [] from h); exact ⟨v, [], rfl, hp, rfl⟩
  | _ :: _, _, ⟨w, r, h1, h2, h3⟩ => by subst h1; exact ⟨w, _, rfl, h2, RKV.snoc hp h3⟩
theorem RKV.put {k : κ} {p : PyData} {v : V} {kvs : List (κ × PyData)} {vs : List (κ × V)} (h : RKV K Z m H kvs vs) (hp : RP K Z m H p v) : RKV K Z m H (putP kvs k p) (putK vs k v) := by
  unfold putP putK
  rw [h.any]
  split
  · exact h.repl hp
  · exact h.snoc hp
end
@[simp] def keyD : D → Option Key
  | .dat (.str z) => some (.inr z)
  | .dat (.int i) => some (.inl i)
  | _ => none
theorem RD.key {K : PySem.W.Frag} {Z : Addr → Prop} {m : Mu} {H : Hp} {x : D} {v : V} {k : Key} (h : RD K Z m H x v) (e : keyD x = some k) : v = kV k := by
  unfold keyD at e
  split at e
  · cases e; cases h.str; rfl
  · cases e; cases h.int; rfl
  · cases e
section
variable {X : Cx} {o i e : Expr} {fo fi f : DE} {pos tpos : Pos}
@[simp] def dDNew : DE := fun _ m Q => ∀ a, m a = none → Q (.cel a) (updM m a (.d []))
theorem le_dnew : PE X (.Dict [] [] pos) (LE X.K dDNew) := by
  intro pins s σ H Q I h
  obtain ⟨Z, d, m, R, ok, rs, h, k⟩ := h
  have hp : H s.heap.objs.size = none := I.hok.fresh (Nat.le_refl _)
  have hk : X.K.lookup s.heap.objs.size = none := by
    cases e : X.K.lookup s.heap.objs.size with
    | none => rfl
    | some o => exact absurd (Heap.lt_size (I.kIn _ o e)) (Nat.lt_irrefl _)
  refine wpAny_Dict_empty ⟨.ref s.heap.objs.size, _, I.laid (a := s.heap.objs.size) (o := .dK []) (t' := s.toks) (fun _ _ q => Heap.get?_push_of_some _ q) (Nat.le_refl _) (dk_empty s.heap I.big), rfl, ?_⟩
  exact k _ _ _ _ (h _ (ok_none ok hp).1) (Ext.cell ok hp hk) (ok.cell hp hk (show RKV _ _ _ _ _ _ from rfl)) ⟨rfl, by rw [updM_same]; rfl⟩
@[simp] def dDPut (fo fi f : DE) : DS := fun E d m => f d m fun x m1 => fo d m1 fun o m2 => fi d m2 fun y m3 => ∃ c k kvs p, o = .cel c ∧ keyD y = some k ∧ x = .dat p ∧ m3 c = some (.d kvs) ∧ kvs.length < sizeLine ∧ E.nx d (updM m3 c (.d (putP kvs k p)))
theorem ls_dput (hu : X.A.units + 100 < cLine) (he : PE X e (LE X.K f)) (ho : PE X o (LE X.K fo)) (hi : PE X i (LE X.K fi)) (hs : swapsWith e (some (.Subscript o i tpos)) pos.line X.env = pure false := by rfl) :
    PS X (.Assign [.Subscript o i tpos] e pos) (LS X.K (dDPut fo fi f)) := PS.imp (ps_dput (by omega) ho hi he hs) fun E s H h => by
  obtain ⟨Z, d, m, R, ok, rs, h, k, _⟩ := h
  refine ⟨Z, d, m, _, ok, rs, h, fun x m1 v H1 q e1 ok1 r1 => ⟨Z, d, m1, _, ok1, rs.ext e1, q, fun o m2 w H2 q2 e2 ok2 r2 => ⟨Z, d, m2, _, ok2, (rs.ext e1).ext e2, q2, fun y m3 z H3 q3 e3 ok3 r3 => ?_⟩⟩⟩
  obtain ⟨c, ky, kvs, p, rfl, hk, rfl, hm, hl, q⟩ := q3
  cases r3.key hk
  obtain ⟨rfl, _⟩ := r2.ext e3
  obtain ⟨vs, g1, g2⟩ := ok3.d hm
  have r1' := r1.ext (e2.trans e3)
  refine ⟨c, _, rfl, .inl ⟨vs, ky, g1, rfl, by rw [g2.length]; exact hl, rfl⟩, ?_⟩
  have e4 : Ext X.K Z m3 H3 (updM m3 c (.d (putP kvs ky p))) (upd H3 c (.dK (putK vs ky v))) := Ext.put ok3 hm g1
  exact k d _ s _ q (e1.trans (e2.trans (e3.trans e4))) (ok3.put hm g1 (show RKV _ _ _ _ _ _ from g2.put r1')) ((rs.ext e1).ext (e2.trans (e3.trans e4)))
end
end DL
set_option Elab.async false
set_option linter.all false
set_option maxRecDepth 100000
set_option maxHeartbeats 4000000
namespace DL
open PySem PySem.Spec PyProof.Rows L2
open AutoSeq1 (wpAny_loadPart')
section
variable {prog : Program} {w : World} {A : Around} {E : Value → Shared → Prop} {s : Shared}
end
section
variable {X : Cx} {e : Expr} {f : DE} {pos p p2 pos2 : Pos}
end
end DL
set_option Elab.async false
set_option linter.all false
set_option maxRecDepth 100000
set_option maxHeartbeats 4000000
namespace DL
open PySem PySem.Spec PyProof.Rows L2
def KEnt (w : World) : List DictEntry → List (Str × V) → Prop
  | [], [] => True
  | e :: es, (z, v) :: kvs => e.hash = PyData.keyHash w.params z ∧ (∃ t, e.key = .str z t) ∧ RelV v e.val ∧ KEnt w es kvs
  | _, _ => False
def KDt (K : PySem.W.Frag) (w : World) (a : Addr) (kvs : List (Str × V)) : Prop :=
  ∃ (o : Obj) (es : Array DictEntry) (ep : Nat), K.lookup a = some o ∧ o.cls = .type "dict" ∧ o.dict = none ∧ o.slots = #[] ∧ o.data = .dict es ep ∧ KEnt w es.toList kvs ∧ (kvs.map (·.1)).Nodup ∧ (a == sysModules) = false
def KD (K : PySem.W.Frag) (w : World) (a : Addr) (kvs : List (Str × PyData)) : Prop := ∃ vs : List (Str × V), KDt K w a vs ∧ ∀ (Z : Addr → Prop) (m : Mu) (H : Hp), RKV K Z m H kvs vs
def inrs {α : Type} (kvs : List (Str × α)) : List (Key × α) := kvs.map fun kv => (.inr kv.1, kv.2)
theorem KEnt.out {P : Program} {w : World} : ∀ {es : List DictEntry} {kvs : List (Str × V)}, KEnt w es kvs → ∃ vs : List (Str × Value), KV (inrs kvs) (inrs vs) ∧ Pairs (mixKind P w) es (inrs vs) ∧ (∀ e ∈ es, ∃ k, (mixKind P w).is k e.key = true ∧ e.hash = (mixKind P w).hash k) ∧ vs.map (·.1) = kvs.map (·.1)
  | [], [], _ => ⟨[], .nil, .nil, by simp, rfl⟩
  | e :: es, (z, v) :: kvs, ⟨h1, ⟨t, h2⟩, h3, h4⟩ => by
    obtain ⟨vs, q1, q2, q3, q4⟩ := KEnt.out (P := P) h4
    have hk : (mixKind P w).is (.inr z) e.key = true := by
      rw [h2]
      exact decide_eq_true (rfl : z = z)
    refine ⟨(z, e.val) :: vs, .cons ⟨rfl, h3⟩ q1, .cons hk rfl q2, fun x hx => ?_, by simp [q4]⟩
    rcases List.mem_cons.mp hx with rfl | hx
    · exact ⟨_, hk, h1⟩
    · exact q3 x hx
  | [], _ :: _, h => h.elim
  | _ :: _, [], h => h.elim
theorem KDt.dictOf {K : PySem.W.Frag} {P : Program} {w : World} {a : Addr} {kvs : List (Str × V)} {h : Heap} (q : KDt K w a kvs) (hK : K.In h) : ∃ vs : List (Key × Value), KV (inrs kvs) vs ∧ h.DictOf (mixKind P w) a vs := by
  obtain ⟨o, es, ep, h1, h2, h3, h4, h5, h6, h7, _⟩ := q
  obtain ⟨vs, q1, q2, q3, q4⟩ := KEnt.out (P := P) h6
  refine ⟨_, q1, o, es, ep, hK _ _ h1, ⟨h2, h3, h4⟩, h5, fun e he => q3 e (by simpa using he), q2, ?_⟩
  have e : (inrs vs).map (·.1) = (kvs.map (·.1)).map Sum.inr := by
    rw [← q4]
    simp [inrs, Function.comp_def]
  rw [e]
  exact List.Pairwise.map _ (fun a b hab h => hab (Sum.inr.inj h)) h7
theorem valV_inrs {z : Str} : ∀ kvs : List (Str × V), valV (inrs kvs) (.inr z) = valV kvs z
  | [] => rfl
  | (y, v) :: kvs => by
    have ih := valV_inrs (z := z) kvs
    unfold valV inrs at *
    by_cases c : y = z
    · simp [List.find?_cons, c]
    · simp only [List.map_cons, List.find?_cons, c, decide_false, Sum.inr.injEq]
      exact ih
theorem RKV.val_none {κ : Type} [DecidableEq κ] {K : PySem.W.Frag} {Z : Addr → Prop} {m : Mu} {H : Hp} {k : κ} : ∀ {kvs : List (κ × PyData)} {vs : List (κ × V)}, RKV K Z m H kvs vs → valP kvs k = none → valV vs k = none
  | [], _, h, _ => by cases (show _ = [] from h); rfl
  | (j, q) :: xs, _, ⟨v, r, h1, h2, h3⟩, e => by
    subst h1
    unfold valP at e
    unfold valV
    by_cases c : j = k
    · simp [List.find?_cons, c] at e
    · simp [List.find?_cons, c] at e ⊢
      have := RKV.val_none (k := k) h3 (by unfold valP; simpa using e)
      unfold valV at this
      simpa using this
theorem rp_ints {K : PySem.W.Frag} {Z : Addr → Prop} {m : Mu} {H : Hp} {a : Addr} {is : List Int} (h : SqT K H a (is.map V.int)) : RP K Z m H (.tuple (is.map PyData.int)) (.ref a) := by
  simp only [RP]
  exact ⟨a, _, rfl, h, rps_ints is⟩
section
variable {X : Cx} {i e g : Expr} {fi f fg : DE} {p pos apos cpos : Pos}
@[simp] def dDGetC (kvs : List (Str × PyData)) (fi : DE) : DE := fun d m Q => fi d m fun y m1 => ∃ (z : Str) (q : PyData), y = .dat (.str z) ∧ valP kvs z = some q ∧ Q (.dat q) m1
theorem le_dgetC {x : Str} {c : Addr} {kvs : List (Str × PyData)} (hg : Gl X x) (hm : X.mg x = some (.ref c)) (hk : KD X.K X.w c kvs) (hi : PE X i (LE X.K fi)) (hd : (x == ("__debug__" : Str)) = false := by decide) (hs : NoSl i := by exact fun _ _ => rfl) :
    PE X (.Subscript (.Name x p) i pos) (LE X.K (dDGetC kvs fi)) := by
  intro pins s σ H Q I h
  obtain ⟨Z, d, m, R, ok, rs, h, k⟩ := h
  obtain ⟨vs, kd, rk⟩ := hk
  refine subD_of PySem.F.slot_dict_getitem.lookup hs (thn (pe_glob (v := .ref c) hg hm rfl hd pins s σ H (fun x H1 => x = .ref c ∧ H1 = H) I ⟨rfl, rfl⟩) fun u s1 ⟨x, H1, I1, rx, ex, eH⟩ => ?_)
  subst ex; subst eH
  obtain rfl : u = Value.ref c := rx
  refine thn (hi pins s1 σ _ (fun v H2 => ∃ (z : Str) (w : V), v = .str z ∧ valV vs z = some w ∧ Q w H2) I1 ⟨Z, d, m, _, ok, rs, h, fun y m1 v H1 ⟨z, q, ey, hv, hq⟩ e1 ok1 r1 => ?_⟩) fun iv s2 ⟨y, H2, I2, ry, z, w, ey, hw, q2⟩ => ?_
  · subst ey
    cases r1.str
    obtain ⟨w, hw, rw'⟩ := (rk Z m1 H1).val hv
    exact ⟨z, w, rfl, hw, k _ m1 _ H1 hq e1 ok1 rw'⟩
  · subst ey
    obtain ⟨ws, rel, dd⟩ := kd.dictOf (P := X.prog) I2.kIn
    obtain ⟨w', hw', rw'⟩ := RelO.some_of (v := w) (o := valueAt ws (.inr z)) (by rw [← hw, ← valV_inrs]; exact rel.val _)
    exact ⟨dd.typeIs, wpAny_getItem_of (kV_is (k := .inr z) ry) dd.mapOf hw' ⟨w, H2, I2.tok _, rw', q2⟩⟩
end
end DL
set_option Elab.async false
set_option linter.all false
set_option maxRecDepth 100000
set_option maxHeartbeats 4000000
namespace DL
open PySem PySem.Spec PyProof.Rows L2
section
variable {X : Cx} {e g : Expr} {f fg : DE} {tg : Expr} {pos : Pos}
end
end DL
set_option Elab.async false
set_option linter.all false
set_option maxRecDepth 100000
set_option maxHeartbeats 4000000
namespace DL
open PySem PySem.Spec PyProof.Rows L2
section
variable {prog : Program} {w : World} {A : Around} {E : Value → Shared → Prop} {s : Shared}
end
section
variable {prog : Program} {w : World} {κ : Type} [DecidableEq κ] {knd : KeyKind prog w κ} {A : Around} {E : Value → Shared → Prop} {s : Shared}
end
end DL
set_option Elab.async false
set_option linter.all false
set_option maxRecDepth 100000
set_option maxHeartbeats 4000000
namespace DL
open PySem PySem.Spec PyProof.Rows L2
@[simp] def keysD : List D → Option (List Key)
  | [] => some []
  | x :: xs => match keyD x, keysD xs with
    | some k, some ks => some (k :: ks)
    | _, _ => none
theorem RDs.keys {K : PySem.W.Frag} {Z : Addr → Prop} {m : Mu} {H : Hp} : ∀ {xs : List D} {vs : List V} {ks : List Key}, RDs K Z m H xs vs → keysD xs = some ks → vs = ks.map kV
  | [], vs, ks, h, e => by
    cases e
    exact h
  | x :: xs, vs, ks, h, e => by
    obtain ⟨v, r, rfl, h1, h2⟩ := h
    unfold keysD at e
    cases e1 : keyD x with
    | none => rw [e1] at e; cases e
    | some k =>
      cases e2 : keysD xs with
      | none => rw [e1, e2] at e; cases e
      | some ks' =>
        rw [e1, e2] at e
        cases e
        rw [h1.key e1, RDs.keys h2 e2]
        rfl
section
variable {X : Cx} {o i e : Expr} {es : List Expr} {fo f : DE} {fa : DA} {pos tpos ipos : Pos} {j : Nat}
end
end DL
set_option Elab.async false
set_option linter.all false
set_option maxRecDepth 100000
set_option maxHeartbeats 4000000
namespace DL
open PySem PySem.Spec PyProof.Rows L2
section
variable {X : Cx} {e : Expr} {f : DE} {pos p : Pos}
end
end DL
set_option Elab.async false
set_option linter.all false
set_option maxRecDepth 100000
set_option maxHeartbeats 4000000
namespace DL
open PySem PySem.Spec PyProof.Rows L2
def KTEnt (K : PySem.W.Frag) (w : World) : List DictEntry → List (List Str × Addr × V) → Prop
  | [], [] => True
  | e :: es, (zs, a, v) :: xs => e.hash = reduceHash (Builtin.Tuple.tupleHashOf (zs.map (PyData.keyHash w.params))) ∧ e.key = .ref a ∧ RelV v e.val ∧ KT K a zs ∧ KTEnt K w es xs
  | _, _ => False
def KTDt (K : PySem.W.Frag) (w : World) (c : Addr) (xs : List (List Str × Addr × V)) : Prop :=
  ∃ (o : Obj) (es : Array DictEntry) (ep : Nat), K.lookup c = some o ∧ o.cls = .type "dict" ∧ o.dict = none ∧ o.slots = #[] ∧ o.data = .dict es ep ∧ KTEnt K w es.toList xs ∧ (xs.map (·.1)).Nodup ∧ (c == sysModules) = false
def KTD (K : PySem.W.Frag) (w : World) (c : Addr) (kvs : List (List Str × PyData)) : Prop := ∃ xs : List (List Str × Addr × V), KTDt K w c xs ∧ ∀ (Z : Addr → Prop) (m : Mu) (H : Hp), RKV K Z m H kvs (xs.map fun x => (x.1, x.2.2))
theorem kV_strs (zs : List Str) : (zs.map (Sum.inr : Str → Key)).map kV = zs.map V.str := by
  rw [List.map_map]
  rfl
section
variable {X : Cx} {pins : List (Addr × Obj)} {σ : L2.St} {H : Hp} {s : Shared}
theorem key_sq {a : Addr} {zs : List Str} (I : Inv X pins σ H s) (h : SqT X.K H a (zs.map V.str)) : (tupleKind (mixKind X.prog X.w)).is s.heap (zs.map Sum.inr) a := by
  obtain ⟨its, r, ⟨o, h1, h2, n, h3⟩, _⟩ := I.tuple h
  rw [← kV_strs] at r
  exact ⟨o, its.toArray, n, h1, h2, h3, by simpa using items_are r⟩
theorem KTEnt.out (I : Inv X pins σ H s) : ∀ {es : List DictEntry} {xs : List (List Str × Addr × V)}, KTEnt X.K X.w es xs → ∃ ys : List (List Key × Addr × Value), es = ys.map (entryOfKey (tupleKind (mixKind X.prog X.w))) ∧ (∀ y ∈ ys, (tupleKind (mixKind X.prog X.w)).is s.heap y.1 y.2.1) ∧ ys.map (·.1) = xs.map (fun x => x.1.map Sum.inr) ∧
    ∀ zs : List Str, RelO (valV (xs.map fun x => (x.1, x.2.2)) zs) ((atKey ys (zs.map Sum.inr)).map (·.2))
  | [], [], _ => ⟨[], rfl, by simp, rfl, fun _ => True.intro⟩
  | e :: es, (zs, a, v) :: xs, ⟨h1, h2, h3, h4, h5⟩ => by
    obtain ⟨ys, q1, q2, q3, q4⟩ := KTEnt.out I h5
    refine ⟨(zs.map Sum.inr, a, e.val) :: ys, ?_, fun y hy => ?_, by simp [q3], fun z => ?_⟩
    · rw [List.map_cons, ← q1]
      congr 1
      obtain ⟨eh, ek, ev⟩ := e
      simp only at h1 h2
      subst h1 h2
      unfold entryOfKey
      congr 1
      show _ = reduceHash (Builtin.Tuple.tupleHashOf ((zs.map Sum.inr).map (mixKind X.prog X.w).hash))
      rw [List.map_map]
      rfl
    · rcases List.mem_cons.mp hy with rfl | hy
      · exact key_sq I h4.sq
      · exact q2 y hy
    · by_cases c : zs = z
      · subst c
        unfold valV atKey
        simp only [List.map_cons, List.find?_cons, decide_true, Option.map_some]
        exact h3
      · have c' : ¬ zs.map (Sum.inr : Str → Key) = z.map Sum.inr := fun h => c ((List.map_inj_right (fun _ _ q => Sum.inr.inj q)).mp h)
        have := q4 z
        unfold valV atKey at this ⊢
        simp only [List.map_cons, List.find?_cons, decide_eq_false c, decide_eq_false c']
        exact this
  | [], _ :: _, h => h.elim
  | _ :: _, [], h => h.elim
theorem KTDt.out {c : Addr} {xs : List (List Str × Addr × V)} (I : Inv X pins σ H s) (q : KTDt X.K X.w c xs) : (c == sysModules) = false ∧ ∃ ys : List (List Key × Addr × Value), s.heap.DictOfH (tupleKind (mixKind X.prog X.w)) c ys ∧
    ∀ zs : List Str, RelO (valV (xs.map fun x => (x.1, x.2.2)) zs) ((atKey ys (zs.map Sum.inr)).map (·.2)) := by
  obtain ⟨o, es, ep, h1, h2, h3, h4, h5, h6, h7, h8⟩ := q
  obtain ⟨ys, q1, q2, q3, q4⟩ := KTEnt.out I h6
  refine ⟨h8, ys, ⟨o, es, ep, I.kIn _ _ h1, ⟨h2, h3, h4⟩, h5, q1, q2, ?_⟩, q4⟩
  rw [q3]
  have e : xs.map (fun x => x.1.map (Sum.inr : Str → Key)) = (xs.map (·.1)).map (fun z => z.map Sum.inr) := by simp
  rw [e]
  exact List.Pairwise.map _ (fun a b hab h => hab ((List.map_inj_right (fun _ _ q => Sum.inr.inj q)).mp h)) h7
end
theorem KT.rp {K : PySem.W.Frag} {a : Addr} {zs : List Str} {Z : Addr → Prop} {m : Mu} {H : Hp} (h : KT K a zs) : RP K Z m H (.tuple (zs.map PyData.str)) (.ref a) := by
  simp only [RP]
  exact ⟨a, _, rfl, h.sq, strs_rps zs⟩
section
variable {X : Cx} {e g : Expr} {fi fg : DE} {p apos cpos : Pos}
@[simp] def dTGet2C (kvs : List (List Str × PyData)) (fi fg : DE) : DE := fun d m Q => fi d m fun y m1 => ∃ zs : List Str, y = .dat (.tuple (zs.map .str)) ∧ fg d m1 fun x m2 => Q (match valP kvs zs with | some q => .dat q | none => x) m2
theorem le_tget2C {x : Str} {c : Addr} {kvs : List (List Str × PyData)} (hu : X.A.units + 100 < cLine) (hg : Gl X x) (hm : X.mg x = some (.ref c)) (hk : KTD X.K X.w c kvs) (he : PE X e (LE X.K fi)) (hf : PE X g (LE X.K fg)) (hd : (x == ("__debug__" : Str)) = false := by decide)
    (hbase : attributeBase (.Name x p) "get" X.env (eval (.Name x p) X.env) = eval (.Name x p) X.env := by rfl)
    (hfew : ((backTo cpos (starEach [e, g] X.env)).all (fun x => !x.1) && (backToKw cpos (keywordEach [] X.env)).all (fun x => x.1.isSome) && decide (([e, g] : List Expr).length + ([] : List Keyword).length + (if ([] : List Keyword).isEmpty then 0 else 1) < 30)) = true := by rfl)
    (hline : (apos.endLine == cpos.line) = true := by rfl) (hs : backTo cpos (starEach [e, g] X.env) = [(false, eval e X.env), (false, eval g X.env)] := by rfl) :
    PE X (.Call (.Attribute (.Name x p) "get" apos) [e, g] [] cpos) (LE X.K (dTGet2C kvs fi fg)) := by
  intro pins s σ H Q I h
  obtain ⟨Z, d, m, R, ok, rs, h, k⟩ := h
  obtain ⟨xs, kd, rk⟩ := hk
  refine wpAny_Call_method hbase hfew hline PySem.F.plainAttrs_dict PySem.F.slot_dict_get PySem.F.type_dict_get (thn (pe_glob (v := .ref c) hg hm rfl hd pins s σ H (fun x H1 => x = .ref c ∧ H1 = H) I ⟨rfl, rfl⟩) fun u s1 ⟨x, H1, I1, rx, ex, eH⟩ => ?_)
  subst ex; subst eH
  obtain rfl : u = Value.ref c := rx
  obtain ⟨_, ws1, dd1, _⟩ := kd.out I1
  refine ⟨dd1.typeIs, fun b q => ?_, ?_⟩
  · cases q
    obtain ⟨ob, _, _, h1, h2, _⟩ := dd1
    exact ⟨ob, h1, h2.2.1⟩
  rw [hs]
  refine Calls.callWith_builtin rfl (Calls.evalArgs_plain (Calls.spliced_cons (thn (he pins s1 σ _ (fun v H2 => ∃ (zs : List Str) (b : Addr), v = .ref b ∧ LE X.K fg σ H2 fun v2 H3 => SqT X.K H3 b (zs.map V.str) ∧ Q ((valV (xs.map fun x => (x.1, x.2.2)) zs).getD v2) H3) I1 ⟨Z, d, m, _, ok, rs, h, fun y m1 v H1 ⟨zs, ey, hq⟩ e1 ok1 r1 => ?_⟩) fun iv s2 ⟨y, H2, I2, ry, zs, b, ey, q2⟩ =>
    Calls.spliced_cons (thn (hf pins s2 σ H2 _ I2 q2) fun fv s3 ⟨v2, H3, I3, rz, sq, q3⟩ => Calls.spliced_nil ?_))))
  · subst ey
    have r1' := r1
    simp only [RD, RP] at r1'
    obtain ⟨b, vs, rfl, _, _⟩ := r1'
    refine ⟨zs, b, rfl, Z, d, m1, _, ok1, rs.ext e1, hq, fun x m2 v2 H2 hq2 e2 ok2 r2 => ⟨?_, ?_⟩⟩
    · have r3 := r1.ext e2
      simp only [RD, RP] at r3
      obtain ⟨b', vs', e', h1, h2⟩ := r3
      cases e'
      cases rps_strs h2
      exact h1
    · cases hv : valP kvs zs with
      | none =>
        rw [hv] at hq2
        rw [(rk Z m2 H2).val_none hv]
        exact k _ m2 _ H2 hq2 (e1.trans e2) ok2 r2
      | some q =>
        rw [hv] at hq2
        obtain ⟨w, hw, rw'⟩ := (rk Z m2 H2).val hv
        rw [hw]
        exact k _ m2 _ H2 hq2 (e1.trans e2) ok2 rw'
  · subst ey
    cases (show iv = Value.ref b from ry)
    obtain ⟨sy, ys, dd, rel⟩ := kd.out I3
    exact call_meetsIn PySem.F.slot_dict_get dd.typeIs PySem.F.entry_dict_get (PySem.F.args_dict_get_3 _ _ _) (meetsH_dict_get_default (tupleKind (mixKind X.prog X.w)) c b sy fv) ⟨tupleKind_room_in1 (by omega), zs.map Sum.inr, ys, key_sq I3 sq, dd, ⟨_, H3, I3.tok _, (rel zs).getD rz, q3⟩⟩
end
end DL
set_option Elab.async false
set_option linter.all false
set_option maxRecDepth 100000
set_option maxHeartbeats 4000000
namespace DL
open PySem PySem.Spec PyProof.Rows L2
section
variable {X : Cx} {o e : Expr} {f g : DE} {apos cpos : Pos}
end
end DL
set_option Elab.async false
set_option linter.all false
set_option maxRecDepth 100000
set_option maxHeartbeats 4000000
namespace DL
open PySem PySem.Spec PyProof.Rows L2
section
variable {X : Cx} {a : Expr} {f : DE} {pos p2 : Pos}
end
end DL
set_option Elab.async false
set_option linter.all false
set_option maxRecDepth 100000
set_option maxHeartbeats 4000000
namespace DL
open PySem PySem.Spec PyProof.Rows L2
section
variable {X : Cx} {a : Expr} {elts : List Expr} {j : Nat} {f : DE} {pos p p2 : Pos}
end
end DL
set_option Elab.async false
set_option linter.all false
set_option maxRecDepth 100000
set_option maxHeartbeats 4000000
namespace DL
open PySem PySem.Spec PyProof.Rows L2
section
variable {prog : Program} {w : World} {A : Around} {E : Value → Shared → Prop} {s : Shared}
end
section
variable {X : Cx} {a : Expr} {elts : List Expr} {j : Nat} {f : DE} {pos p p2 : Pos}
end
end DL
set_option Elab.async false
set_option linter.all false
set_option maxRecDepth 100000
set_option maxHeartbeats 4000000
namespace DL
open PySem PySem.Spec PyProof.Rows L2
section
variable {prog : Program} {w : World} {A : Around} {E : Value → Shared → Prop} {s : Shared}
structure Zsl (h : Heap) (z TI TO i1 i2 t1 t2 : Addr) (f0 : Value) (k : Nat) : Prop where
  z : IsZip h z TI TO f0
  ti : IsPair h TI (.ref i1) (.ref i2)
  to : ∃ a b, IsPair h TO a b
  a : h.IsListIter i1 t1 k
  b : h.IsTupleIter i2 t2 k
theorem zl_item {z TI TO i1 i2 t1 t2 : Addr} {k : Nat} {xs ys : Array Value} {x y : Value} {Q : Value → Shared → Prop} (D : ZipApart z TI TO i1 i2 t1 t2) (S : Zsl s.heap z TI TO i1 i2 t1 t2 .none k)
    (g1 : s.heap.IsList t1 xs) (g2 : s.heap.IsTuple t2 ys) (hx : xs[k]? = some x) (hy : ys[k]? = some y)
    (hQ : ∀ h', Zsl h' z TI TO i1 i2 t1 t2 (rawInt s.heap.objs.size) (k + 1) → IsPair h' s.heap.objs.size x y →
      (∀ c o, c ≠ z → c ≠ TO → c ≠ i1 → c ≠ i2 → s.heap.get? c = some o → h'.get? c = some o) → Q (.ref s.heap.objs.size) { s with heap := h' }) :
    wpAny (model prog w) A (Builtin.«zip.__next__» ⟨[.ref z], []⟩) (fun fin s' => ∃ v, fin = .done (.ret v) ∧ Q v s') E s := by
  obtain ⟨hz, hTI, ⟨a, b, hTO⟩, h1, h2⟩ := S
  show wpAny _ _ (field (.ref z) 2 >>= _) _ _ _; refine wpAny_bind (wpAny_field hz rfl (x := .bool false) rfl ?_)
  show wpAny _ _ (field (.ref z) 3 >>= _) _ _ _; refine wpAny_bind (wpAny_field hz rfl (x := .ref TI) rfl (wpAny_bind (wpAny_seqItems hTI rfl ?_)))
  show wpAny _ _ (Builtin.SmallTypes.ownedTupleIsFree (.ref z) >>= _) _ _ _; refine wpAny_bind ?_
  unfold Builtin.SmallTypes.ownedTupleIsFree; refine wpAny_bind (wpAny_field hz rfl (x := .none) rfl (wpAny_pure ?_))
  simp only [if_true]; refine wpAny_bind (wpAny_rule (wpAny_bind (wpAny_field hz rfl (x := .ref TO) rfl ?_)))
  refine wpAny_bind (wpAny_setField_rec hz (by simp) fun n1 z1 c1 => ?_); replace z1 : IsZip n1 z TI TO .ellipsis := z1
  refine wpAny_bind ?_; simp only [List.zipIdx_cons, List.zipIdx_nil, List.forIn_cons, List.forIn_nil]
  refine wpAny_bind (wpAny_bind (wpAny_onRaise ?_)); show wpAny _ _ (Builtin.SmallTypes.nextOf (.ref i1) >>= _) _ _ _
  refine wpAny_bind (wpAny_nextOf_list_item (h1.at fun o e => c1.extBut _ o D.i1z e) (g1.extBut c1.extBut D.l1z) hx fun n2 b2 c2 => wpAny_pure ?_)
  have p2 : IsPair n2 TO a b := c2.extBut _ _ D.TOi1 (c1.extBut _ _ D.TOz hTO)
  refine wpAny_bind (wpAny_seqItems p2 rfl (wpAny_bind (wpAny_updateSeq_pair p2 fun n3 p3 c3 => ?_))); replace p3 : IsPair n3 TO x b := p3
  refine wpAny_bind (wpAny_letGo (wpAny_pure (wpAny_bind (wpAny_bind (wpAny_onRaise ?_))))); show wpAny _ _ (Builtin.SmallTypes.nextOf (.ref i2) >>= _) _ _ _
  have up3 : ∀ c o, c ≠ z → c ≠ TO → c ≠ i1 → s.heap.get? c = some o → n3.get? c = some o := fun c o q1 q2 q3 e => c3.extBut _ _ q2 (c2.extBut _ _ q3 (c1.extBut _ _ q1 e))
  have g23 : n3.IsTuple t2 ys := by
    obtain ⟨o, ho, r⟩ := g2
    exact ⟨o, up3 _ _ D.l2z D.l2TO D.l2i1 ho, r⟩
  refine wpAny_bind (nt_item (h2.at fun o e => up3 _ o D.i2z D.TOi2.symm D.i12.symm e) g23 hy fun n4 b4 c4 => wpAny_pure ?_)
  have p4 : IsPair n4 TO x b := c4.extBut _ _ D.TOi2 p3
  refine wpAny_bind (wpAny_seqItems p4 rfl (wpAny_bind (wpAny_updateSeq_pair p4 fun n5 p5 c5 => ?_))); replace p5 : IsPair n5 TO x y := p5
  refine wpAny_bind (wpAny_letGo (wpAny_pure (wpAny_pure (wpAny_bind (wpAny_seqItems p5 rfl (wpAny_bind (wpAny_newTuple ?_)))))))
  have size5 : n5.objs.size = s.heap.objs.size := by rw [c5.1, c4.1, c3.1, c2.1, c1.1]
  have z5 : IsZip n5 z TI TO .ellipsis := c5.extBut _ _ D.TOz.symm (c4.extBut _ _ D.i2z.symm (c3.extBut _ _ D.TOz.symm (c2.extBut _ _ D.i1z.symm z1)))
  have up5 : ∀ c o, c ≠ z → c ≠ TO → c ≠ i1 → c ≠ i2 → s.heap.get? c = some o → n5.get? c = some o := fun c o q1 q2 q3 q4 e => c5.extBut _ _ q2 (c4.extBut _ _ q4 (up3 c o q1 q2 q3 e))
  have a5 : n5.IsListIter i1 t1 (k + 1) := b2.at fun o e => c5.extBut _ _ D.TOi1.symm (c4.extBut _ _ D.i12 (c3.extBut _ _ D.TOi1.symm e))
  have b5 : n5.IsTupleIter i2 t2 (k + 1) := b4.at fun o e => c5.extBut _ _ D.TOi2.symm e
  have zlt : z < n5.objs.size := Heap.lt_size z5
  show wpAny _ _ (Builtin.SmallTypes.ownedTupleHandOut (.ref z) (.ref n5.objs.size) >>= _) _ _ _; refine wpAny_bind ?_
  unfold Builtin.SmallTypes.ownedTupleHandOut
  have z6 : IsZip (n5.push { cls := .type "tuple", data := .seq #[x, y] }) z TI TO .ellipsis := Heap.get?_push_of_some _ z5
  refine wpAny_bind (wpAny_setField_rec z6 (by simp) fun n7 z7 c7 => ?_); replace z7 : IsZip n7 z TI TO (rawInt n5.objs.size) := z7
  refine wpAny_setField_rec z7 (by simp) fun n8 z8 c8 => ?_; replace z8 : IsZip n8 z TI TO (rawInt n5.objs.size) := z8
  have up8 : ∀ c o, c ≠ z → n5.get? c = some o → n8.get? c = some o := fun c o q e => c8.extBut _ _ q (c7.extBut _ _ q (Heap.get?_push_of_some _ e))
  have new8 : IsPair n8 n5.objs.size x y := c8.extBut _ _ (Nat.ne_of_gt zlt) (c7.extBut _ _ (Nat.ne_of_gt zlt) (Heap.get?_push_size _ rfl))
  rw [size5] at z8 new8
  refine wpAny_pure ⟨_, rfl, ?_⟩
  show Q (.ref n5.objs.size) _
  rw [size5]
  exact hQ n8 ⟨z8, up8 _ _ D.TIz (up5 _ _ D.TIz D.TITO D.TIi1 D.TIi2 hTI), ⟨x, y, up8 _ _ D.TOz p5⟩, a5.at fun o e => up8 _ o D.i1z e, b5.at fun o e => up8 _ o D.i2z e⟩ new8 fun c o q1 q2 q3 q4 e => up8 c o q1 (up5 c o q1 q2 q3 q4 e)
theorem zl_end {z TI TO i1 i2 t1 t2 : Addr} {k : Nat} {xs ys : Array Value} {Q : Fin → Shared → Prop} (hh : A.handled = none) (D : ZipApart z TI TO i1 i2 t1 t2) (S : Zsl s.heap z TI TO i1 i2 t1 t2 .none k)
    (g1 : s.heap.IsList t1 xs) (g2 : s.heap.IsTuple t2 ys) (hend : xs[k]? = none ∨ ys[k]? = none)
    (hE : ∀ h' e, (∀ c o, c ≠ z → c ≠ TO → c ≠ i1 → c ≠ i2 → s.heap.get? c = some o → h'.get? c = some o) → (∃ o, h'.get? e = some o ∧ o.cls = .type "StopIteration") → E (.ref e) { s with heap := h' }) :
    wpAny (model prog w) A (Builtin.«zip.__next__» ⟨[.ref z], []⟩) Q E s := by
  obtain ⟨hz, hTI, ⟨a, b, hTO⟩, h1, h2⟩ := S
  show wpAny _ _ (field (.ref z) 2 >>= _) _ _ _; refine wpAny_bind (wpAny_field hz rfl (x := .bool false) rfl ?_)
  show wpAny _ _ (field (.ref z) 3 >>= _) _ _ _; refine wpAny_bind (wpAny_field hz rfl (x := .ref TI) rfl (wpAny_bind (wpAny_seqItems hTI rfl ?_)))
  show wpAny _ _ (Builtin.SmallTypes.ownedTupleIsFree (.ref z) >>= _) _ _ _; refine wpAny_bind ?_
  unfold Builtin.SmallTypes.ownedTupleIsFree; refine wpAny_bind (wpAny_field hz rfl (x := .none) rfl (wpAny_pure ?_))
  simp only [if_true]; refine wpAny_bind (wpAny_rule (wpAny_bind (wpAny_field hz rfl (x := .ref TO) rfl ?_)))
  refine wpAny_bind (wpAny_setField_rec hz (by simp) fun n1 z1 c1 => ?_); replace z1 : IsZip n1 z TI TO .ellipsis := z1
  refine wpAny_bind ?_; simp only [List.zipIdx_cons, List.zipIdx_nil, List.forIn_cons, List.forIn_nil]
  refine wpAny_bind (wpAny_bind (wpAny_onRaise ?_)); show wpAny _ _ (Builtin.SmallTypes.nextOf (.ref i1) >>= _) _ _ _
  have apart : ∀ (n : Heap) (e : Addr) (oe : Obj), IsZip n z TI TO .ellipsis → n.get? e = some oe → oe.cls = .type "StopIteration" → e ≠ z := fun n e oe q q1 q2 q3 => by
    subst q3
    rw [q] at q1
    cases q1
    simp at q2
  cases hx : xs[k]? with
  | none =>
    refine wpAny_bind (wpAny_nextOf_list_end hh (h1.at fun o e => c1.extBut _ o D.i1z e) (g1.extBut c1.extBut D.l1z) hx fun n2 e c2 he => ?_)
    obtain ⟨oe, q1, q2⟩ := he
    have z2 : IsZip n2 z TI TO .ellipsis := c2 _ _ D.i1z.symm z1
    exact wpAny_setField_rec z2 (by simp) fun n3 _ c3 => hE n3 e (fun c o r1 _ r3 _ q => c3.extBut _ _ r1 (c2 _ _ r3 (c1.extBut _ _ r1 q))) ⟨oe, c3.extBut _ _ (apart _ _ _ z2 q1 q2) q1, q2⟩
  | some x =>
    have hy : ys[k]? = none := by
      rcases hend with h | h
      · rw [hx] at h; cases h
      · exact h
    refine wpAny_bind (wpAny_nextOf_list_item (h1.at fun o e => c1.extBut _ o D.i1z e) (g1.extBut c1.extBut D.l1z) hx fun n2 b2 c2 => wpAny_pure ?_)
    have p2 : IsPair n2 TO a b := c2.extBut _ _ D.TOi1 (c1.extBut _ _ D.TOz hTO)
    refine wpAny_bind (wpAny_seqItems p2 rfl (wpAny_bind (wpAny_updateSeq_pair p2 fun n3 p3 c3 => ?_)))
    refine wpAny_bind (wpAny_letGo (wpAny_pure (wpAny_bind (wpAny_bind (wpAny_onRaise ?_))))); show wpAny _ _ (Builtin.SmallTypes.nextOf (.ref i2) >>= _) _ _ _
    have up3 : ∀ c o, c ≠ z → c ≠ TO → c ≠ i1 → s.heap.get? c = some o → n3.get? c = some o := fun c o q1 q2 q3 e => c3.extBut _ _ q2 (c2.extBut _ _ q3 (c1.extBut _ _ q1 e))
    have g23 : n3.IsTuple t2 ys := by
      obtain ⟨o, ho, r⟩ := g2
      exact ⟨o, up3 _ _ D.l2z D.l2TO D.l2i1 ho, r⟩
    refine wpAny_bind (nt_end hh (h2.at fun o e => up3 _ o D.i2z D.TOi2.symm D.i12.symm e) g23 hy fun n4 e c4 he => ?_)
    obtain ⟨oe, q1, q2⟩ := he
    have z4 : IsZip n4 z TI TO .ellipsis := c4 _ _ D.i2z.symm (c3.extBut _ _ D.TOz.symm (c2.extBut _ _ D.i1z.symm z1))
    exact wpAny_setField_rec z4 (by simp) fun n5 _ c5 => hE n5 e (fun c o r1 r2 r3 r4 q => c5.extBut _ _ r1 (c4 _ _ r4 (up3 c o r1 r2 r3 q))) ⟨oe, c5.extBut _ _ (apart _ _ _ z4 q1 q2) q1, q2⟩
abbrev zr1 (h : Heap) (t1 : Addr) : Heap := h.push { cls := .type "list_iterator", data := .fields #[.ref t1, .int 0 0] }
abbrev zr2 (h : Heap) (t1 t2 : Addr) : Heap := (zr1 h t1).push { cls := .type "tuple_iterator", data := .fields #[.ref t2, .int 0 0] }
abbrev zr3 (h : Heap) (t1 t2 : Addr) : Heap := (zr2 h t1 t2).push { cls := .type "tuple", data := .seq #[.ref h.objs.size, .ref (zr1 h t1).objs.size] }
abbrev zr4 (h : Heap) (t1 t2 : Addr) : Heap := (zr3 h t1 t2).push { cls := .type "tuple", data := .seq #[.none, .none] }
abbrev zr5 (h : Heap) (t1 t2 : Addr) : Heap := (zr4 h t1 t2).push { cls := .type "zip", data := .fields #[.none, .bool false, .bool false, .ref (zr2 h t1 t2).objs.size, .ref (zr3 h t1 t2).objs.size] }
theorem zl_new (t1 t2 : Addr) (xs ys : Array Value) : Meets (Builtin.«zip.__new__» ⟨[.type "zip", .ref t1, .ref t2], []⟩) (fun _ R s => s.heap.IsList t1 xs ∧ s.heap.IsTuple t2 ys ∧
    R (.ok (.ret (.ref (zr4 s.heap t1 t2).objs.size))) { s with heap := zr5 s.heap t1 t2 }) := .of_wp fun prog w A R s hs => by
  obtain ⟨hp, g, d, tk, os⟩ := s; obtain ⟨hl1, hl2, h⟩ := hs
  have hsub := sub_zip
  have u1 : Heap.IsList (Shared.heap ⟨hp, g, d, tk, os⟩) t1 xs := hl1
  have u2 : Heap.IsTuple (Shared.heap ⟨hp.push { cls := .type "list_iterator", data := .fields #[.ref t1, .int 0 0] }, g, d, tk, os⟩) t2 ys := tup_push hl2 _
  wp_walk using wpAny_pyIter_list u1, wpAny_pyIter_tuple u2
  exact ⟨_, rfl, h⟩
theorem zl_call {t1 t2 : Addr} {xs ys : Array Value} {Q : Value → Shared → Prop} (g1 : s.heap.IsList t1 xs) (g2 : s.heap.IsTuple t2 ys)
    (h : ∀ h' n, n = s.heap.objs.size → Zsl h' (n + 4) (n + 2) (n + 3) n (n + 1) t1 t2 .none 0 → (∀ c o, s.heap.get? c = some o → h'.get? c = some o) → Q (.ref (n + 4)) { s with heap := h' }) : wpAny (model prog w) A (call (.type "zip") [.ref t1, .ref t2]) Q E s := by
  refine callType_new F.called_zip (by decide) (F.typeCall_zip_2 _ _) (F.newCall_zip_2 _ _) (fun obj => F.args_object_init_3 obj _ _) F.entry_zip_new (zl_new t1 t2 xs ys) ⟨g1, g2, ?_⟩
  have z1 : (zr1 s.heap t1).objs.size = s.heap.objs.size + 1 := Heap.size_push ..
  have z2 : (zr2 s.heap t1 t2).objs.size = s.heap.objs.size + 2 := by rw [Heap.size_push, z1]
  have z3 : (zr3 s.heap t1 t2).objs.size = s.heap.objs.size + 3 := by rw [Heap.size_push, z2]
  have z4 : (zr4 s.heap t1 t2).objs.size = s.heap.objs.size + 4 := by rw [Heap.size_push, z3]
  have a5 : (zr5 s.heap t1 t2).get? (zr4 s.heap t1 t2).objs.size = some _ := Heap.get?_push_size _ rfl
  have a4 : (zr5 s.heap t1 t2).get? (zr3 s.heap t1 t2).objs.size = some _ := Heap.get?_push_of_some _ (Heap.get?_push_size _ rfl)
  have a3 : (zr5 s.heap t1 t2).get? (zr2 s.heap t1 t2).objs.size = some _ := Heap.get?_push_of_some _ (Heap.get?_push_of_some _ (Heap.get?_push_size _ rfl))
  have a2 : (zr5 s.heap t1 t2).get? (zr1 s.heap t1).objs.size = some _ := Heap.get?_push_of_some _ (Heap.get?_push_of_some _ (Heap.get?_push_of_some _ (Heap.get?_push_size _ rfl)))
  have a1 : (zr5 s.heap t1 t2).get? s.heap.objs.size = some _ := Heap.get?_push_of_some _ (Heap.get?_push_of_some _ (Heap.get?_push_of_some _ (Heap.get?_push_of_some _ (Heap.get?_push_size _ rfl))))
  show _ ∧ _
  rw [z2, z3, z4] at a5
  rw [z1, z2] at a3
  rw [z3] at a4
  rw [z1] at a2
  rw [z4]
  exact ⟨⟨_, a5, rfl⟩, h _ _ rfl ⟨a5, a3, ⟨_, _, a4⟩, ⟨_, a1, rfl, rfl⟩, ⟨_, a2, rfl, rfl⟩⟩ fun c o x => Heap.get?_push_of_some _ (Heap.get?_push_of_some _ (Heap.get?_push_of_some _ (Heap.get?_push_of_some _ (Heap.get?_push_of_some _ x))))⟩
end
def Itl (K : PySem.W.Frag) (t1 t2 : Addr) (n : Nat) : It :=
  ⟨fun i H => i < n ∧ ∃ xs ys, SqL K H t1 xs ∧ SqT K H t2 ys ∧ n = min xs.length ys.length, fun i H v H' => ∃ p x y, v = .ref p ∧ H p = none ∧ H' = upd H p (.tup [x, y]) ∧ ∀ xs ys, SqL K H t1 xs → SqT K H t2 ys → xs[i]? = some x ∧ ys[i]? = some y,
    fun i H => i = n ∧ ∃ xs ys, SqL K H t1 xs ∧ SqT K H t2 ys ∧ n = min xs.length ys.length⟩
theorem turn_zl {P : Program} {w : World} {K : PySem.W.Frag} {elts : List Expr} {j : Nat} {pos : Pos} {z TI TO i1 i2 t1 t2 : Addr} {n : Nat} (D : ZipApart z TI TO i1 i2 t1 t2) :
    Turn P w K (.Tuple elts j pos) (Itl K t1 t2 n) [z, TI, TO, i1, i2] z (fun i h => Zsl h z TI TO i1 i2 t1 t2 .none i) where
  mem := by simp
  obj := fun i h st b hb => by
    obtain ⟨h1, h2, ⟨a, c, h3⟩, ⟨o4, e4, _, d4⟩, ⟨o5, e5, _, d5⟩⟩ := st
    simp only [List.mem_cons, List.not_mem_nil, or_false] at hb
    rcases hb with rfl | rfl | rfl | rfl | rfl
    · exact ⟨_, h1, fun v q => nomatch q⟩
    · exact ⟨_, h2, fun v q => nomatch q⟩
    · exact ⟨_, h3, fun v q => nomatch q⟩
    · exact ⟨_, e4, fun v q => by rw [d4] at q; cases q⟩
    · exact ⟨_, e5, fun v q => by rw [d5] at q; cases q⟩
  keep := fun i h h' st k => by
    obtain ⟨h1, h2, ⟨a, c, h3⟩, h4, h5⟩ := st
    exact ⟨k z (by simp) _ h1, k TI (by simp) _ h2, ⟨a, c, k TO (by simp) _ h3⟩, h4.at fun o e => k i1 (by simp) o e, h5.at fun o e => k i2 (by simp) o e⟩
  item := by
    intro X hP hw hK hc i pins s σ H E I hf st hg
    subst hP hw hK
    obtain ⟨hi, xs, ys, q1, q2, hn⟩ := hg
    obtain ⟨its1, r1, p1, l1⟩ := I.list q1
    obtain ⟨its2, r2, p2, l2⟩ := I.tuple q2
    have e1 : xs[i]? = some (xs[i]'(by omega)) := List.getElem?_eq_getElem (by omega)
    have e2 : ys[i]? = some (ys[i]'(by omega)) := List.getElem?_eq_getElem (by omega)
    obtain ⟨u1, hu1, ru1⟩ := r1.get e1
    obtain ⟨u2, hu2, ru2⟩ := r2.get e2
    have hT : s.TypeIs (.ref z) "zip" := ⟨_, st.z, rfl⟩
    have hp : H s.heap.objs.size = none := I.hok.fresh (Nat.le_refl _)
    unfold pyNext
    refine wpAny_bind (wpAny_attempt (wpAny_callSpecial?_slot (name := Str.ofString "__next__") hT F.slot_zip_next (wpAny_call_entry F.slot_zip_next hT F.entry_zip_next (zl_item D st p1.isList (show s.heap.IsTuple t2 its2.toArray from p2) (by simpa using hu1) (by simpa using hu2) fun h' st' np k => wpAny_pure ?_) (F.args_zip_next_1 _))))
    refine ⟨_, rfl, ?_⟩
    refine wpAny_letOwnedTupleGo_zip (s := { s with heap := h' }) st'.z fun h2 z2 c2 => ?_
    have I1 : Inv X pins σ (upd H s.heap.objs.size (.tup [_, _])) { s with heap := s.heap.push { cls := .type "tuple", data := .seq #[u1, u2] } } :=
      I.laid (t' := s.toks) (fun b o e => Heap.get?_push_of_some _ e) (Nat.le_refl _) (show ObjOk X.prog X.w _ _ _ (.tup [_, _]) from ⟨⟨by show 2 ≤ sizeLine; rw [sizeLine_eq]; decide, NoD.new _ _ _⟩, [u1, u2], .cons ru1 (.cons ru2 .nil), IsTup.new _ _⟩)
    have lt : ∀ {c o}, s.heap.get? c = some o → c ≠ s.heap.objs.size := fun e => Nat.ne_of_lt (Heap.lt_size e)
    have zne : s.heap.objs.size ≠ z := fun e => lt st.z e.symm
    have hf' : ∀ b ∈ [z, TI, TO, i1, i2], FpOk X pins (upd H s.heap.objs.size (.tup [xs[i]'(by omega), ys[i]'(by omega)])) b := fun b hb => by
      obtain ⟨f0, f1, f2, f3, f4, f5⟩ := hf b hb
      refine ⟨?_, f1, f2, f3, f4, f5⟩
      rw [upd_ne]
      · exact f0
      · obtain ⟨h1, h2, ⟨a, c, h3⟩, ⟨o4, e4, _⟩, ⟨o5, e5, _⟩⟩ := st
        simp only [List.mem_cons, List.not_mem_nil, or_false] at hb
        rcases hb with rfl | rfl | rfl | rfl | rfl
        · exact lt h1
        · exact lt h2
        · exact lt h3
        · exact lt e4
        · exact lt e5
    have kk : ∀ b o, b ∉ [z, TI, TO, i1, i2] → (s.heap.push { cls := .type "tuple", data := .seq #[u1, u2] }).get? b = some o → h2.get? b = some o := fun b o hb e => by
      simp only [List.mem_cons, List.not_mem_nil, or_false, not_or] at hb
      obtain ⟨n1, n2, n3, n4, n5⟩ := hb
      refine c2.extBut _ _ n1 ?_
      rcases Heap.get?_push_cases e with ⟨rfl, rfl⟩ | e
      · exact np
      · exact k b o n1 n3 n4 n5 e
    have I2 := turns (s := { s with heap := s.heap.push { cls := .type "tuple", data := .seq #[u1, u2] } }) (h' := h2) (t' := s.toks) (ch := [z, TI, TO, i1, i2]) I1 kk hf'
    refine ⟨.ref s.heap.objs.size, upd H s.heap.objs.size (.tup [xs[i]'(by omega), ys[i]'(by omega)]), I2, rfl, ⟨_, _, _, rfl, hp, rfl, fun xs' ys' g1 g2 => ?_⟩, ?_, fun b hb => (hf' b hb).1⟩
    · rw [I.list_inj g1 q1, I.tuple_inj g2 q2]
      exact ⟨e1, e2⟩
    · obtain ⟨h1, h2', ⟨a, c, h3⟩, h4, h5⟩ := st'
      exact ⟨z2, c2.extBut _ _ D.TIz h2', ⟨a, c, c2.extBut _ _ D.TOz h3⟩, h4.at fun o e => c2.extBut _ _ D.i1z e, h5.at fun o e => c2.extBut _ _ D.i2z e⟩
  done := by
    intro X hP hw hK hc i pins s σ H E I hf st hg
    subst hP hw hK
    obtain ⟨hi, xs, ys, q1, q2, hn⟩ := hg
    obtain ⟨its1, r1, p1, l1⟩ := I.list q1
    obtain ⟨its2, r2, p2, l2⟩ := I.tuple q2
    have m1 := r1.length
    have m2 := r2.length
    have hT : s.TypeIs (.ref z) "zip" := ⟨_, st.z, rfl⟩
    unfold pyNext
    refine wpAny_bind (wpAny_attempt (wpAny_callSpecial?_slot (name := Str.ofString "__next__") hT F.slot_zip_next (wpAny_call_entry F.slot_zip_next hT F.entry_zip_next (zl_end (I.ok.hd hc) D st p1.isList (show s.heap.IsTuple t2 its2.toArray from p2) ?_ fun h' e k he => ?_) (F.args_zip_next_1 _))))
    · by_cases c : xs.length ≤ ys.length
      · left
        simp
        omega
      · right
        simp
        omega
    · obtain ⟨o, ho, hce⟩ := he
      refine wpAny_bind (wpAny_isInstance (T := "StopIteration") (b := true) ⟨o, ho, hce⟩ isSubtype_stop ?_)
      refine wpAny_pure ⟨rfl, turns (t' := s.toks) (ch := [z, TI, TO, i1, i2]) I (fun b o hb e => ?_) hf⟩
      simp only [List.mem_cons, List.not_mem_nil, or_false, not_or] at hb
      exact k b o hb.1 hb.2.2.1 hb.2.2.2.1 hb.2.2.2.2 e
  self := fun _ _ _ _ _ st h => wpAny_pyIter_zip st.z h
@[simp] def dZipL (f g : DE) : DI := fun d m Q => f d m fun x m1 => g d m1 fun y m2 => ∃ ps qs, x = .dat (.list ps) ∧ y = .dat (.tuple qs) ∧ Q ((ps.zip qs).map fun z => .dat (.tuple [z.1, z.2])) m2
section
variable {X : Cx} {a b : Expr} {elts : List Expr} {j : Nat} {f g : DE} {pos p p2 : Pos}
theorem li_zipL (hg : Gl X "zip") (hm : X.mg "zip" = none) (ha : PE X a (LE X.K f)) (hb : PE X b (LE X.K g)) (hs : starEach [a, b] X.env = [(false, eval a X.env), (false, eval b X.env)] := by rfl) (hs2 : starEach [b] X.env = [(false, eval b X.env)] := by rfl) :
    PI X (.Tuple elts j p2) (.Call (.Name "zip" p) [a, b] [] pos) (LI X.K (dZipL f g)) := by
  intro pins s σ H R I h
  obtain ⟨Z, d, m, ZZ, ok, rs, h, k⟩ := h
  have hA := la_cons (X := X) ha (la_cons hb la_nil (by rw [hs2]; rfl)) (by rw [hs, hs2]) pos pins s σ H (fun vs H1 => ∃ a1 a2 xs ys ps qs m1, vs = [.ref a1, .ref a2] ∧ (m1 a1 = none ∧ ¬ Z a1) ∧ SqL X.K H1 a1 xs ∧ SqT X.K H1 a2 ys ∧ RPs X.K Z m1 H1 ps xs ∧ RPs X.K Z m1 H1 qs ys ∧
      ZZ ((ps.zip qs).map fun z => .dat (.tuple [z.1, z.2])) m1 ∧ Ext X.K Z m H m1 H1 ∧ Ok X.K Z m1 H1) I ⟨Z, d, m, fun ds m1 => match ds with | [x, y] => ∃ ps qs, x = .dat (.list ps) ∧ y = .dat (.tuple qs) ∧ ZZ ((ps.zip qs).map fun z => .dat (.tuple [z.1, z.2])) m1 | _ => False, ok, rs, h, fun xs m1 vs H1 q e1 ok1 rd => ?_⟩
  · refine Call_ (ld_blt I hg hm boot_zip_ (PyProof.Rows.callWith_type1 (thn hA fun us s1 ⟨vs, H1, I1, r1, q1⟩ => ?_) (by rw [hs, hs2]) (by rw [hs2]; rfl)))
    obtain ⟨a1, a2, xs, ys, ps, qs, m1, e, h0, h1, h2, rp, rq, q, e1, ok1⟩ := q1
    subst e
    obtain ⟨u1, u2, rfl, ru1, ru2⟩ := vals2 r1
    cases ru1
    cases ru2
    obtain ⟨its1, rv1, pt1, l1⟩ := I1.list h1
    obtain ⟨its2, rv2, pt2, l2⟩ := I1.tuple h2
    refine zl_call pt1.isList (show s1.heap.IsTuple a2 its2.toArray from pt2) fun h' n hn st kp => ?_
    have D : ZipApart (n + 4) (n + 2) (n + 3) n (n + 1) a1 a2 := zapart n a1 a2 (by obtain ⟨o, ho, _⟩ := pt1.isList; rw [hn]; exact Heap.lt_size ho) (by obtain ⟨o, ho, _⟩ := pt2; rw [hn]; exact Heap.lt_size ho)
    refine wpAny_pyIter_zip (s := { s1 with heap := h' }) st.z ?_
    refine ⟨n + 4, [n + 4, n + 2, n + 3, n, n + 1], _, _, H1, rfl, I1.kept (t' := s1.toks) kp, turn_zl (n := min xs.length ys.length) D, st, fun c hc => ?_, k _ m1 H1 _ q e1 ok1 ?_⟩
    · have hle : s1.heap.objs.size ≤ c := by
        simp only [List.mem_cons, List.not_mem_nil, or_false] at hc
        subst hn
        rcases hc with rfl | rfl | rfl | rfl | rfl
        · exact Nat.le_add_right _ 4
        · exact Nat.le_add_right _ 2
        · exact Nat.le_add_right _ 3
        · exact Nat.le_refl _
        · exact Nat.le_add_right _ 1
      exact I1.fpOk hle (I1.hok.fresh hle)
    · intro m2 H2 e2
      obtain ⟨_, q1⟩ := e2.l a1 xs h0 h1
      have q2 := e2.t a2 ys h2
      have lp := rp.length
      have lq := rq.length
      refine ⟨fun i x hx => ?_, ?_, xs, ys, q1, q2, rfl⟩
      · rw [List.getElem?_map] at hx
        cases ez : (ps.zip qs)[i]? with
        | none => rw [ez] at hx; cases hx
        | some z =>
          rw [ez] at hx
          cases hx
          obtain ⟨z1, z2⟩ := z
          obtain ⟨ea, eb⟩ := List.getElem?_zip_eq_some.mp ez
          obtain ⟨v1, hv1, rv1'⟩ := rp.get ea
          obtain ⟨v2, hv2, rv2'⟩ := rq.get eb
          have b1 := (List.getElem?_eq_some_iff.mp hv1).1
          have b2 := (List.getElem?_eq_some_iff.mp hv2).1
          refine ⟨⟨by omega, xs, ys, q1, q2, rfl⟩, fun v H3 ⟨pp, x', y', ev, hp, eH, al⟩ => ?_⟩
          obtain ⟨w1, w2⟩ := al xs ys q1 q2
          rw [hv1] at w1
          rw [hv2] at w2
          cases w1
          cases w2
          refine .inr ⟨pp, [z1, z2], [_, _], rfl, ev, hp, eH, ?_⟩
          simp only [RPs]
          exact ⟨_, _, rfl, rv1', _, _, rfl, rv2', rfl⟩
      · show ((ps.zip qs).map _).length = min xs.length ys.length
        rw [List.length_map, List.length_zip, lp, lq]
  · match xs, q, rd with
    | [], q, _ => exact q.elim
    | [_], q, _ => exact q.elim
    | _ :: _ :: _ :: _, q, _ => exact q.elim
    | [x, y], q, rd =>
    obtain ⟨ps, qs, rfl, rfl, q⟩ := q
    obtain ⟨v, w, rfl, g1, g2⟩ := rd.two
    simp only [RD, RP] at g1 g2
    obtain ⟨a1, xs, rfl, h0, h1, h2⟩ := g1
    obtain ⟨a2, ys, rfl, h3, h4⟩ := g2
    exact ⟨a1, a2, xs, ys, ps, qs, m1, rfl, h0, h1, h3, h2, h4, q, e1, ok1⟩
end
end DL
set_option Elab.async false
set_option linter.all false
set_option maxRecDepth 100000
set_option maxHeartbeats 4000000
namespace DL
open PySem PySem.Spec PyProof.Rows L2
section
variable {K : PySem.W.Frag} {Z : Addr → Prop} {m m' : Mu} {H : Hp}
def offM (m : Mu) (a : Addr) : Mu := fun b => if b = a then none else m b
theorem off_none {a b : Addr} (h : m b = none) : offM m a b = none := by unfold offM; split <;> first | rfl | exact h
end
section
variable {X : Cx} {a : Expr} {f : DE} {pos p2 : Pos}
end
end DL
set_option Elab.async false
set_option linter.all false
set_option maxRecDepth 100000
set_option maxHeartbeats 4000000
namespace DL
open PySem PySem.Spec PyProof.Rows L2
section
variable {prog : Program} {w : World} {A : Around} {E : Value → Shared → Prop} {s : Shared}
end
section
variable {prog : Program} {w : World} {κ : Type} [DecidableEq κ] {knd : KeyKind prog w κ} {A : Around} {E : Value → Shared → Prop} {s : Shared}
end
section
variable {X : Cx} {e : Expr} {f : DE} {pos p : Pos}
end
end DL
set_option Elab.async false
set_option linter.all false
set_option maxRecDepth 100000
set_option maxHeartbeats 4000000
namespace DL
open PySem PySem.Spec PyProof.Rows L2
section
variable {prog : Program} {w : World} {A : Around} {E : Value → Shared → Prop} {s : Shared}
end
end DL
set_option Elab.async false
set_option linter.all false
set_option maxRecDepth 100000
set_option maxHeartbeats 4000000
namespace DL
open PySem PySem.Spec PyProof.Rows L2
section
variable {prog : Program} {w : World} {A : Around} {E : Value → Shared → Prop} {s : Shared}
end
section
variable {X : Cx} {pins : List (Addr × Obj)} {σ : L2.St}
def PairsH (H : Hp) (xs ys : List V) (ps : List Addr) : Prop := ∀ (j : Nat) (p : Addr), ps[j]? = some p → ∃ x y, xs[j]? = some x ∧ ys[j]? = some y ∧ H p = some (.tup [x, y])
theorem PairsH.same {H H' : Hp} {xs ys : List V} {ps : List Addr} (h : PairsH H xs ys ps) (e : Same H H') : PairsH H' xs ys ps := fun j p q => let ⟨x, y, h1, h2, h3⟩ := h j p q; ⟨x, y, h1, h2, e _ _ h3⟩
theorem PairsH.snoc {H : Hp} {xs ys : List V} {ps : List Addr} {a : Addr} {x y : V} (h : PairsH H xs ys ps) (hx : xs[ps.length]? = some x) (hy : ys[ps.length]? = some y) (ha : H a = some (.tup [x, y])) : PairsH H xs ys (ps ++ [a]) := fun j p q => by
  rcases Nat.lt_or_ge j ps.length with c | c
  · rw [List.getElem?_append_left c] at q
    exact h j p q
  · rw [List.getElem?_append_right c] at q
    have : j - ps.length = 0 := by
      rcases Nat.eq_zero_or_pos (j - ps.length) with z | z
      · exact z
      · rw [List.getElem?_eq_none (by simp; omega)] at q; cases q
    rw [this] at q
    cases q
    have e : j = ps.length := by omega
    subst e
    exact ⟨x, y, hx, hy, ha⟩
end
end DL
set_option Elab.async false
set_option linter.all false
set_option maxRecDepth 100000
set_option maxHeartbeats 4000000
namespace DL
open PySem PySem.Spec PyProof.Rows L2
open AutoSeq1 (wpAny_loadPart')
section
variable {X : Cx} {pins : List (Addr × Obj)} {σ : L2.St}
end
end DL
set_option Elab.async false
set_option linter.all false
set_option maxRecDepth 100000
set_option maxHeartbeats 4000000
namespace DL
open PySem PySem.Spec PyProof.Rows L2
open AutoSeq1 (wpAny_loadPart')
section
variable {X : Cx} {pins : List (Addr × Obj)} {σ : L2.St}
end
section
variable {X : Cx} {a b : Expr} {f g : DE} {pos p p2 pos2 : Pos}
end
end DL
set_option Elab.async false
set_option linter.all false
set_option maxRecDepth 100000
set_option maxHeartbeats 4000000
namespace DL
open PySem PySem.Spec PyProof.Rows L2
section
variable {X : Cx} {o e : Expr} {f g : DE}
@[simp] def isN : PyData → Bool
  | .none => true
  | _ => false
@[simp] def aNotN : D2
  | .dat p, .dat .none, m, Q => Q (.dat (.bool (!isN p))) m
  | _, _, _, _ => False
theorem rp_non {K : PySem.W.Frag} {Z : Addr → Prop} {m : Mu} {H : Hp} {p : PyData} {x : V} (h : RP K Z m H p x) : decide (x = .non) = isN p := by
  cases p with
  | none => simp only [RP] at h; subst h; rfl
  | bool b => simp only [RP] at h; subst h; rfl
  | int i => simp only [RP] at h; subst h; rfl
  | str z => simp only [RP] at h; subst h; rfl
  | tuple xs => simp only [RP] at h; obtain ⟨a, vs, rfl, _⟩ := h; rfl
  | list xs => simp only [RP] at h; obtain ⟨a, vs, rfl, _⟩ := h; rfl
  | dict _ => simp only [RP] at h
theorem od_notN : OpD X (compareOp .IsNot) aNotN := by
  intro pins s σ H Z m x y dx dy v u R Q I ok rx ry r1 r2 h k
  unfold aNotN at h
  split at h
  · have e : y = .non := by simpa only [RD, RP] using r2
    refine op_notN pins s σ H _ _ v u Q I rx ry ⟨e, ?_⟩
    rw [rp_non r1]
    exact k _ m _ H h Ext.refl ok .ofBl
  · exact h.elim
end
end DL
set_option Elab.async false
set_option linter.all false
set_option maxRecDepth 100000
set_option maxHeartbeats 4000000
namespace DL
open PySem PySem.Spec PyProof.Rows L2
section
variable {K : PySem.W.Frag} {Z : Addr → Prop} {m m1 : Mu} {H H1 : Hp}
theorem Ok.off {a : Addr} (ok : Ok K Z m H) : Ok K Z (offM m a) H :=
  ⟨fun b c h => by
    unfold offM at h
    split at h
    · cases h
    · obtain ⟨o, h1, h2⟩ := ok.g b c h
      exact ⟨o, h1, h2.lift fun p v q => RP.tr (fun _ _ q => q) (fun b ws q1 q2 => ⟨⟨off_none q1.1, q1.2⟩, q2⟩) p v q⟩, fun b hz => ⟨off_none (ok.z b hz).1, (ok.z b hz).2⟩⟩
theorem Ext.off {a : Addr} (e : Ext K Z m H m1 H1) (h : m a = none) : Ext K Z m H (offM m1 a) H1 :=
  ⟨e.t, fun b vs h1 h2 => let ⟨q1, q2⟩ := e.l b vs h1 h2; ⟨off_none q1, q2⟩, e.z, fun b hb => by
    unfold offM
    split
    · rename_i q; rw [q, h] at hb; cases hb
    · exact e.c b hb, e.fz, fun b hb => by
    unfold offM
    split
    · rename_i q; rw [q, h] at hb; cases hb
    · exact e.fm b hb⟩
end
section
variable {X : Cx} {e : Expr} {f : DE}
end
end DL
set_option Elab.async false
set_option linter.all false
set_option maxRecDepth 100000
set_option maxHeartbeats 4000000
namespace DL
open PySem PySem.Spec PyProof.Rows L2
section
variable {X : Cx} {pos : Pos}
@[simp] def aInK : D2
  | x, .cel c, m, Q => ∃ k kvs, keyD x = some k ∧ m c = some (.d kvs) ∧ Q (.dat (.bool (valP kvs k).isSome)) m
  | _, _, _, _ => False
@[simp] def aNotInK : D2
  | x, .cel c, m, Q => ∃ k kvs, keyD x = some k ∧ m c = some (.d kvs) ∧ Q (.dat (.bool (!(valP kvs k).isSome))) m
  | _, _, _, _ => False
theorem val_some {K : PySem.W.Frag} {Z : Addr → Prop} {m : Mu} {H : Hp} {k : Key} {kvs : List (Key × PyData)} {vs : List (Key × V)} (h : RKV K Z m H kvs vs) : (valV vs k).isSome = (valP kvs k).isSome := by
  cases e : valP kvs k with
  | none => rw [h.val_none e]; rfl
  | some p =>
    obtain ⟨v, hv, _⟩ := h.val e
    rw [hv]; rfl
theorem od_notInK (hu : X.A.units + 100 < cLine) : OpD X (compareOp .NotIn) aNotInK := by
  intro pins s σ H Z m x y dx dy v u R Q I ok rx ry r1 r2 h k
  unfold aNotInK at h
  split at h
  · obtain ⟨ky, kvs, hk, hm, q⟩ := h
    cases r1.key hk
    obtain ⟨rfl, _⟩ := r2
    obtain ⟨vs, g1, g2⟩ := ok.d hm
    obtain rfl := (show u = Value.ref _ from ry)
    refine d_notIn (by omega) I (.inl ⟨vs, ky, .inl g1, rfl, rfl⟩) rx fun s3 I3 => ⟨.bl (!(valV vs ky).isSome), H, I3, rfl, ?_⟩
    rw [val_some g2]
    exact k _ m _ H q Ext.refl ok .ofBl
  · exact h.elim
theorem od_inK (hu : X.A.units + 100 < cLine) : OpD X (compareOp .In) aInK := by
  intro pins s σ H Z m x y dx dy v u R Q I ok rx ry r1 r2 h k
  unfold aInK at h
  split at h
  · obtain ⟨ky, kvs, hk, hm, q⟩ := h
    cases r1.key hk
    obtain ⟨rfl, _⟩ := r2
    obtain ⟨vs, g1, g2⟩ := ok.d hm
    obtain rfl := (show u = Value.ref _ from ry)
    refine d_in (by omega) I (.inl ⟨vs, ky, .inl g1, rfl, rfl⟩) rx fun s3 I3 => ⟨.bl ((valV vs ky).isSome), H, I3, rfl, ?_⟩
    rw [val_some g2]
    exact k _ m _ H q Ext.refl ok .ofBl
  · exact h.elim
variable {o e : Expr} {f g : DE}
end
end DL
set_option Elab.async false
set_option linter.all false
set_option maxRecDepth 100000
set_option maxHeartbeats 4000000
namespace DL
open PySem PySem.Spec PyProof.Rows L2
section
variable {X : Cx} {o i : Expr} {fo fi : DE} {pos : Pos}
end
end DL
set_option Elab.async false
set_option linter.all false
set_option maxRecDepth 100000
set_option maxHeartbeats 4000000
namespace DL
open PySem PySem.Spec PyProof.Rows L2
section
variable {X : Cx} {e : Expr} {f : DE} {pos p p2 pos2 : Pos}
variable {e2 : Expr} {f2 : DE}
theorem rng_vals2 {acc : Array Value} {a : Int} {n : Nat} (h : ItemsOf (fun i v => ∃ t, v = .int (a + i * 1) t) acc n) : Vals ((List.range n).map fun i : Nat => V.int (a + (i : Int))) acc.toList := by
  obtain ⟨h1, h2⟩ := h
  have key : ∀ (k : Nat) (us : List Value) (o : Nat), us.length = k → (∀ j v, us[j]? = some v → ∃ t, v = Value.int (a + ((o + j : Nat) : Int) * 1) t) → Vals ((List.range' o k).map fun i : Nat => V.int (a + (i : Int))) us := by
    intro k
    induction k with
    | zero =>
      intro us o hl _
      cases us with
      | nil => exact .nil
      | cons _ _ => simp at hl
    | succ k ih =>
      intro us o hl hv
      cases us with
      | nil => simp at hl
      | cons u us =>
        rw [List.range'_succ, List.map_cons]
        obtain ⟨t, e⟩ := hv 0 u rfl
        refine .cons ⟨t, by rw [e]; congr 1; simp⟩ (ih us (o + 1) (by simpa using hl) fun j v hj => ?_)
        obtain ⟨t', e'⟩ := hv (j + 1) v (by simpa using hj)
        exact ⟨t', by rw [e']; congr 4; omega⟩
  have := key n acc.toList 0 (by simpa using h1) fun j v hj => by
    obtain ⟨t, e⟩ := h2 j v (by simpa using hj)
    exact ⟨t, by rw [e]; simp⟩
  rwa [← List.range_eq_range'] at this
theorem rps_rng2 {K : PySem.W.Frag} {Z : Addr → Prop} {m : Mu} {H : Hp} {a : Int} : ∀ l : List Nat, RPs K Z m H (l.map fun i : Nat => PyData.int (a + (i : Int))) (l.map fun i : Nat => V.int (a + (i : Int)))
  | [] => by simp [RPs]
  | i :: l => by
    simp only [List.map_cons, RPs]
    exact ⟨_, _, rfl, by simp only [RP], rps_rng2 l⟩
@[simp] def dLstRng2 (f f2 : DE) : DE := fun d m Q => f d m fun x m1 => f2 d m1 fun y m2 => ∃ (a : Int) (n : Nat), x = .dat (.int a) ∧ y = .dat (.int (a + n)) ∧ -1000 ≤ a ∧ a ≤ 1000 ∧ n ≤ 1000 ∧ Q (.dat (.list ((List.range n).map fun i : Nat => PyData.int (a + (i : Int))))) m2
theorem le_lstRng2 (hc : X.calm = true) (hg : Gl X "list") (hm : X.mg "list" = none) (hg2 : Gl X "range") (hm2 : X.mg "range" = none) (he : PE X e (LE X.K f)) (he2 : PE X e2 (LE X.K f2)) (hs : starEach [e, e2] X.env = [(false, eval e X.env), (false, eval e2 X.env)] := by rfl) (hs' : starEach [e2] X.env = [(false, eval e2 X.env)] := by rfl)
    (hs2 : starEach [.Call (.Name "range" p2) [e, e2] [] pos2] X.env = [(false, eval (.Call (.Name "range" p2) [e, e2] [] pos2) X.env)] := by rfl) : PE X (.Call (.Name "list" p) [.Call (.Name "range" p2) [e, e2] [] pos2] [] pos) (LE X.K (dLstRng2 f f2)) := by
  intro pins s σ H Q I h
  obtain ⟨Z, d, m, R, ok, rs, h, k⟩ := h
  have hA := pa_cons (X := X) he (pa_cons he2 pa_nil (by rw [hs']; rfl)) (by rw [hs, hs']) pos2 pins s σ H (fun vs H1 => ∃ (a : Int) (n : Nat) (m1 : Mu), vs = [V.int a, V.int (a + n)] ∧ -1000 ≤ a ∧ a ≤ 1000 ∧ n ≤ 1000 ∧ R (.dat (.list ((List.range n).map fun i : Nat => PyData.int (a + (i : Int))))) m1 ∧ Ext X.K Z m H m1 H1 ∧ Ok X.K Z m1 H1) I
    ⟨Z, d, m, _, ok, rs, h, fun x m1 v H1 q e1 ok1 rd => ⟨Z, d, m1, _, ok1, rs.ext e1, q, fun y m2 w H2 ⟨a, n, ex, ey, h1, h2, h3, q2⟩ e2 ok2 rd2 => by
      subst ex; subst ey
      cases rd.int
      cases rd2.int
      exact ⟨a, n, m2, rfl, h1, h2, h3, q2, e1.trans e2, ok2⟩⟩⟩
  refine Call_ (ld_blt I hg hm boot_list_ (PyProof.Rows.callWith_type1 ?_ hs2 rfl))
  rw [hs2]
  show wpAny _ _ (spliced ((false, eval (.Call (.Name "range" p2) [e, e2] [] pos2) X.env) :: [])) _ _ s
  refine Calls.spliced_cons (Call_ (ld_blt I hg2 hm2 boot_range (PyProof.Rows.callWith_type1 (thn hA fun us s1 ⟨vs, H1, I1, r1, q1⟩ => ?_) (by rw [hs, hs']) (by rw [hs']; rfl))))
  obtain ⟨a, n, m1, ev, a0, a1, hn, q, e1, ok1⟩ := q1
  subst ev
  cases r1 with
  | cons r rr =>
    cases rr with
    | cons r' rr =>
      cases rr
      obtain ⟨t, rfl⟩ := r
      obtain ⟨t', rfl⟩ := r'
      refine call_range_2 ?_
      refine Calls.spliced_nil ?_
      have hsz : Builtin.Range.rangeSize a (a + n) 1 = (n : Nat) := by rw [rangeSize_one]; split <;> omega
      refine call_list_range (I1.ok.hd hc) (IsRange.new ..) (small_one (by omega) (by omega) (by omega) (by omega)) hsz (by omega) fun h' tk acc c' kp hS hacc => ?_
      have hv := rng_vals2 hacc
      have kp1 : ∀ b o, s1.heap.get? b = some o → h'.get? b = some o := fun b o q => kp b o (Heap.get?_push_of_some _ q)
      revert hS
      generalize eS : (Heap.objs _).size = S
      intro hS
      have hSle : s1.heap.objs.size ≤ S := by
        rw [← eS, Heap.size_push]
        omega
      have hp : H1 S = none := I1.hok.fresh hSle
      have sm : Same H1 (upd H1 S (.lst ((List.range n).map fun i : Nat => V.int (a + (i : Int))))) := same_new hp
      refine ⟨.ref S, _, I1.laid (t' := tk) (o := .lst ((List.range n).map fun i : Nat => V.int (a + (i : Int)))) kp1 hSle ⟨by rw [List.length_map, List.length_range, sizeLine_eq]; omega, acc.toList, c', hv, by simpa using hS⟩, rfl, k _ m1 _ _ q (e1.trans (ok1.ext sm)) (ok1.grow sm) ?_⟩
      simp only [RD, RP]
      exact ⟨S, _, rfl, ok_none ok1 hp, .inl (.inl upd_same), rps_rng2 (List.range n)⟩
end
end DL
set_option Elab.async false
set_option linter.all false
set_option maxRecDepth 100000
set_option maxHeartbeats 4000000
namespace DL
open PySem PySem.Spec PyProof.Rows L2
section
variable {X : Cx} {a b c : Expr} {f g h : DE} {pos : Pos}
end
end DL
set_option Elab.async false
set_option linter.all false
set_option maxRecDepth 100000
set_option maxHeartbeats 4000000
namespace DL
open PySem PySem.Spec PyProof.Rows L2
section
variable {K : PySem.W.Frag} {Z : Addr → Prop} {m : Mu} {H : Hp}
end
section
variable {X : Cx}
end
end DL
set_option Elab.async false
set_option linter.all false
set_option maxRecDepth 100000
set_option maxHeartbeats 4000000
namespace DL
open PySem PySem.Spec PyProof.Rows L2
section
variable {X : Cx}
end
end DL
set_option Elab.async false
set_option linter.all false
set_option maxRecDepth 100000
set_option maxHeartbeats 4000000
namespace DL
open PySem PySem.Spec PyProof.Rows L2
section
variable {P : Program} {w : World} {A : Around} {E : Value → Shared → Prop} {s : Shared} {it d : Addr} {i ep : Nat} {es : Array DictEntry} {od : Obj}
end
theorem Paired.at {α β : Type} {r : α → β → Prop} : ∀ {xs : List α} {ys : List β} {i : Nat} {x : α}, Paired r xs ys → xs[i]? = some x → ∃ y, ys[i]? = some y ∧ r x y
  | _, _, _, _, .nil, e => by simp at e
  | _, _, 0, x, .cons h _, e => by
    simp at e
    subst e
    exact ⟨_, rfl, h⟩
  | _, _, i + 1, x, .cons _ h, e => by
    obtain ⟨y, h1, h2⟩ := Paired.at (i := i) h (by simpa using e)
    exact ⟨y, by simpa using h1, h2⟩
theorem Paired.len {α β : Type} {r : α → β → Prop} : ∀ {xs : List α} {ys : List β}, Paired r xs ys → xs.length = ys.length
  | _, _, .nil => rfl
  | _, _, .cons _ h => by rw [List.length_cons, List.length_cons, Paired.len h]
section
variable {X : Cx} {a : Expr} {tg : Expr} {f : DE}
end
section
variable {X : Cx} {o : Expr} {es : List Expr} {fo : DE} {fa : DA} {pos ipos : Pos} {j : Nat}
theorem Ok.ft {K : PySem.W.Frag} {Z : Addr → Prop} {m : Mu} {H : Hp} {a : Addr} {xs : List (List Key × PyData)} (ok : Ok K Z m H) (h : m a = some (.ft xs)) : ∃ ob vs, H a = some (.frz ob (.dT vs)) ∧ RKV K Z m H xs vs := by
  obtain ⟨o, h1, h2⟩ := ok.g a _ h
  cases o with
  | frz ob u => cases u <;> first | exact ⟨_, _, h1, h2⟩ | exact h2.elim
  | _ => exact h2.elim
end
end DL
set_option Elab.async false
set_option linter.all false
set_option maxRecDepth 100000
set_option maxHeartbeats 4000000
namespace DL
open PySem PySem.Spec PyProof.Rows L2
def kaV (kas : List (Key × Addr)) : List (Key × V) := kas.map fun x => (x.1, V.ref x.2)
theorem Ok.dl {K : PySem.W.Frag} {Z : Addr → Prop} {m : Mu} {H : Hp} {a : Addr} {kas : List (Key × Addr)} (ok : Ok K Z m H) (h : m a = some (.dl kas)) : H a = some (.dK (kaV kas)) := by
  obtain ⟨o, h1, h2⟩ := ok.g a _ h
  cases o <;> first | (cases (show _ = kaV kas from h2); exact h1) | exact h2.elim
section
variable {X : Cx} {o i e : Expr} {fo fi f : DE} {pos tpos : Pos}
end
end DL
set_option Elab.async false
set_option linter.all false
set_option maxRecDepth 100000
set_option maxHeartbeats 4000000
namespace DL
open PySem PySem.Spec PyProof.Rows L2
def many (n lo st : Nat) : Nat := if lo < n then (n - lo - 1) / st + 1 else 0
def places (n lo st : Nat) : List Nat := (List.range (many n lo st)).map fun k => lo + k * st
def pick {α : Type} (xs : List α) (is : List Nat) : List α := is.filterMap fun i => xs[i]?
theorem pickN_len {α : Type} (xs : List α) (is : List Nat) : (pick xs is).length ≤ is.length := List.length_filterMap_le _ _
theorem many_le (n lo st : Nat) : many n lo st ≤ n := by
  unfold many
  split
  · have := Nat.div_le_self (n - lo - 1) st
    omega
  · omega
theorem Vals.at {xs : List V} {us : List Value} : ∀ {i : Nat} {x : V}, Vals xs us → xs[i]? = some x → ∃ u, us[i]? = some u ∧ RelV x u := fun h e => h.get e
theorem Vals.pick {xs : List V} {us : List Value} (h : Vals xs us) : ∀ is : List Nat, Vals (pick xs is) (DL.pick us is)
  | [] => .nil
  | i :: is => by
    have ih := Vals.pick h is
    unfold DL.pick at ih ⊢
    rw [List.filterMap_cons, List.filterMap_cons]
    cases e : xs[i]? with
    | none =>
      have : us[i]? = none := by
        rw [List.getElem?_eq_none_iff] at e ⊢
        rw [← h.length]; exact e
      rw [this]
      exact ih
    | some x =>
      obtain ⟨u, hu, r⟩ := h.get e
      rw [hu]
      exact .cons r ih
theorem RPs.pick {K : PySem.W.Frag} {Z : Addr → Prop} {m : Mu} {H : Hp} {xs : List PyData} {vs : List V} (h : RPs K Z m H xs vs) : ∀ is : List Nat, RPs K Z m H (pick xs is) (DL.pick vs is)
  | [] => by simp [DL.pick, RPs]
  | i :: is => by
    have ih := RPs.pick h is
    unfold DL.pick at ih ⊢
    rw [List.filterMap_cons, List.filterMap_cons]
    cases e : xs[i]? with
    | none =>
      have : vs[i]? = none := by
        rw [List.getElem?_eq_none_iff] at e ⊢
        rw [h.length]; exact e
      rw [this]
      exact ih
    | some x =>
      obtain ⟨u, hu, r⟩ := h.get e
      rw [hu]
      simp only [RPs]
      exact ⟨u, _, rfl, r, ih⟩
section
variable {prog : Program} {w : World} {A : Around} {E : Value → Shared → Prop} {s : Shared}
theorem adjust_st {n lo st : Nat} (hl : lo ≤ n) (hs : 0 < st) : Builtin.Slice.sliceAdjust (some (lo : Int)) none (st : Int) (n : Int) = ((lo : Int), (n : Int)) := by
  unfold Builtin.Slice.sliceAdjust
  have h1 : ¬ ((st : Int) < 0) := by omega
  have h2 : ¬ ((lo : Int) < 0) := by omega
  simp only [h1, h2, if_false]
  congr 1
  omega
theorem places_st {n lo st : Nat} (hl : lo ≤ n) (hs : 0 < st) : Builtin.Slice.slicePlaces (lo : Int) (n : Int) (st : Int) = many n lo st := by
  unfold Builtin.Slice.slicePlaces many
  rw [if_pos (show (st : Int) > 0 by omega)]
  by_cases c : lo < n
  · rw [if_pos (by omega), if_pos c]
    have e : ((n : Int) - lo - 1) / (st : Int) = (((n - lo - 1) / st : Nat) : Int) := by
      rw [show ((n : Int) - lo - 1) = ((n - lo - 1 : Nat) : Int) by omega]
      rfl
    rw [e]
    obtain ⟨q, hq⟩ : ∃ q, (n - lo - 1) / st = q := ⟨_, rfl⟩
    rw [hq]
    omega
  · rw [if_neg (by omega), if_neg c]
    rfl
theorem applied_st {sl : Addr} {t t2 : Tok} {n lo st : Nat} {Q : Int × Int × Nat → Shared → Prop} (hs : s.heap.IsSliceOf sl (.int lo t) .none (.int st t2)) (hl : lo ≤ n) (h0 : 0 < st)
    (h : Q ((lo : Int), (st : Int), many n lo st) s) : wpAny (model prog w) A (Builtin.Slice.sliceApplied (.ref sl) (pure (n : Int))) Q E s := by
  obtain ⟨os, hos, hcs, hds⟩ := id hs
  unfold Builtin.Slice.sliceApplied Builtin.Slice.sliceFields
  refine wpAny_bind (wpAny_bind (wpAny_field hos hds (x := .int lo t) rfl (wpAny_bind (wpAny_field hos hds (x := .none) rfl (wpAny_bind (wpAny_field hos hds (x := .int st t2) rfl (wpAny_pure ?_)))))))
  refine wpAny_bind (slicePart_int ?_)
  show wpAny _ _ (if ((st : Int) == 0) = true then _ else _) _ _ s
  rw [if_neg (by rw [beq_iff_eq]; omega)]
  refine wpAny_bind (slicePart_int (wpAny_bind (slicePart_none (wpAny_bind (wpAny_pure ?_)))))
  show wpAny _ _ (match Builtin.Slice.sliceAdjust (some (lo : Int)) none (st : Int) (n : Int) with | (lo', hi) => pure (lo', (st : Int), Builtin.Slice.slicePlaces lo' hi (st : Int))) _ _ s
  rw [adjust_st hl h0]
  show wpAny _ _ (pure ((lo : Int), (st : Int), Builtin.Slice.slicePlaces (lo : Int) (n : Int) (st : Int))) _ _ s
  rw [places_st hl h0]
  exact wpAny_pure h
theorem pick_arr (xs : Array Value) (lo st : Nat) : ((List.range (many xs.size lo st)).filterMap fun (k : Nat) => xs[((lo : Int) + (k : Int) * (st : Int)).toNat]?) = pick xs.toList (places xs.size lo st) := by
  unfold pick places
  rw [List.filterMap_map]
  congr 1
  funext k
  have e : ((lo : Int) + (k : Int) * (st : Int)).toNat = lo + k * st := by
    rw [show ((lo : Int) + (k : Int) * (st : Int)) = ((lo + k * st : Nat) : Int) by push_cast; rfl]
    rfl
  rw [e]
  show _ = xs.toList[lo + k * st]?
  rw [Array.getElem?_toList]
theorem places_one (n : Nat) : places n 0 1 = List.range n := by
  unfold places many
  cases n with
  | zero => rfl
  | succ n => simp
theorem pick_all {α : Type} : ∀ xs : List α, pick xs (List.range xs.length) = xs := fun xs => by
  unfold pick
  exact List.filterMap_getElem?_range_length xs
theorem getItem_tuple_st {t sl : Addr} {items : Array Value} {tk tk2 : Tok} {lo st : Nat} {Q : Value → Shared → Prop} (ht : IsTup s.heap t items) (hs : s.heap.IsSliceOf sl (.int lo tk) .none (.int st tk2)) (hl : lo ≤ items.size) (h0 : 0 < st)
    (hw : lo = 0 → st = 1 → Q (.ref t) s)
    (h : ¬ (lo = 0 ∧ st = 1) → Q (.ref s.heap.objs.size) { s with heap := s.heap.push { cls := .type "tuple", data := .seq (pick items.toList (places items.size lo st)).toArray } })
    (hsz : items.size ≤ sizeLine) : wpAny (model prog w) A (getItem (.ref t) (.ref sl)) Q E s := by
  have htake : sizeOk (.seq (pick items.toList (places items.size lo st)).toArray) := by
    show (pick items.toList (places items.size lo st)).toArray.size ≤ sizeLine
    have q := pickN_len items.toList (places items.size lo st)
    have q2 := many_le items.size lo st
    unfold places at q
    rw [List.length_map, List.length_range] at q
    rw [List.size_toArray]
    unfold places
    omega
  obtain ⟨os, hos, hcs, hds⟩ := id hs
  have hTs : s.TypeIs (.ref sl) "slice" := ⟨os, hos, hcs⟩
  unfold getItem
  try with_reducible refine wpAny_holding ?_
  first | refine wpAny_bind (wpAny_pure ?_) | skip
  refine wpAny_bind (wpAny_sequenceKey ht.typeIs (by decide) ?_)
  refine wpAny_bind (wpAny_callSpecial?_slot (name := Str.ofString "__getitem__") ht.typeIs PyProof.Rows.slot_tuple_getitem
    (wpAny_call_entry PyProof.Rows.slot_tuple_getitem ht.typeIs entry_tuple_getitem ?_ (args_tuple_getitem _ _)))
  show wpAny _ _ (Builtin.Tuple.tupleItemsOf (.ref t) >>= _) _ _ s
  refine wpAny_bind (tupleItemsOf_ ht ?_)
  refine wpAny_bind (wpAny_typeOf hTs ?_)
  rw [if_pos (by decide)]
  refine wpAny_bind (applied_st hs hl h0 ?_)
  show wpAny _ _ (if ((lo : Int) == 0 && (st : Int) == 1 && many items.size lo st == items.size) = true then _ else _) _ _ s
  by_cases c : lo = 0 ∧ st = 1
  · obtain ⟨rfl, rfl⟩ := c
    have e : many items.size 0 1 = items.size := by
      unfold many
      by_cases q : 0 < items.size
      · rw [if_pos q, Nat.div_one]
        omega
      · rw [if_neg q]
        omega
    rw [if_pos (by rw [e]; simp)]
    obtain ⟨⟨cls, dd, data, sl'⟩, ho, hc, n, hd⟩ := id ht
    simp only at hc hd
    subst hc hd
    show wpAny _ _ (Builtin.Tuple.tupleIsExact (.ref t) >>= _) _ _ _
    refine wpAny_bind ?_
    unfold Builtin.Tuple.tupleIsExact
    refine wpAny_bind (wpAny_typeOf ⟨_, ho, rfl⟩ (wpAny_pure ?_))
    show wpAny _ _ (if ((Value.type "tuple" == Value.type "tuple") = true) then _ else _) _ _ _
    rw [if_pos (by decide)]
    refine wpAny_bind (wpAny_rule ?_)
    exact wpAny_pure ⟨_, rfl, wpAny_pure (hw rfl rfl)⟩
  · rw [if_neg (by
      intro q
      rw [Bool.and_eq_true, Bool.and_eq_true, beq_iff_eq, beq_iff_eq] at q
      exact c ⟨by omega, by omega⟩), pick_arr]
    have h := h c
    first
      | exact wpAny_bind (m := Builtin.Tuple.tupleExact _) (wpAny_newObj_type (wpAny_pure ⟨_, rfl, wpAny_pure h⟩) htake)
      | exact wpAny_bind (m := Builtin.Tuple.tupleExact _) (wpAny_newObj_type (wpAny_bind (wpAny_pure (wpAny_pure ⟨_, rfl, wpAny_pure h⟩))) htake)
      | exact wpAny_bind (wpAny_bind (m := Builtin.Tuple.tupleExact _) (wpAny_newObj_type (wpAny_pure (wpAny_pure ⟨_, rfl, wpAny_pure h⟩)) htake))
      | exact wpAny_bind (wpAny_bind (m := Builtin.Tuple.tupleExact _) (wpAny_newObj_type (wpAny_pure ⟨_, rfl, wpAny_pure h⟩) htake))
end
section
variable {X : Cx} {a lo st : Expr} {f g h : DE} {pos p2 : Pos}
@[simp] def dStp (f g h : DE) : DE := fun d m Q => f d m fun x m1 => g d m1 fun y m2 => h d m2 fun z m3 => ∃ (xs : List PyData) (i j : Nat), x = .dat (.tuple xs) ∧ y = .dat (.int i) ∧ z = .dat (.int j) ∧ i ≤ xs.length ∧ 0 < j ∧ Q (.dat (.tuple (pick xs (places xs.length i j)))) m3
theorem le_stp (ha : PE X a (LE X.K f)) (hl : PE X lo (LE X.K g)) (hs : PE X st (LE X.K h)) : PE X (.Subscript a (.Slice (some lo) none (some st) p2) pos) (LE X.K (dStp f g h)) := by
  intro pins s σ H Q I hh
  obtain ⟨Z, d, m, R, ok, rs, hf, k⟩ := hh
  refine Subscript_ (thn (ha pins s σ H (fun x H1 => ∃ (dx : D) (m1 : Mu), RD X.K Z m1 H1 dx x ∧ (g d m1 fun y m2 => h d m2 fun z m3 => ∃ (xs : List PyData) (i j : Nat), dx = .dat (.tuple xs) ∧ y = .dat (.int i) ∧ z = .dat (.int j) ∧ i ≤ xs.length ∧ 0 < j ∧ R (.dat (.tuple (pick xs (places xs.length i j)))) m3) ∧ Ext X.K Z m H m1 H1 ∧ Ok X.K Z m1 H1) I
    ⟨Z, d, m, _, ok, rs, hf, fun x m1 v H1 q e1 ok1 rd => ⟨x, m1, rd, q, e1, ok1⟩⟩) fun v s1 ⟨x, H1, I1, r1, dx, m1, rd, q, e1, ok1⟩ => ?_)
  refine wpAny_Slice ?_
  rw [evalPart_some]
  refine thn (hl pins s1 σ H1 (fun y H2 => ∃ (dy : D) (m2 : Mu), RD X.K Z m2 H2 dy y ∧ (h d m2 fun z m3 => ∃ (xs : List PyData) (i j : Nat), dx = .dat (.tuple xs) ∧ dy = .dat (.int i) ∧ z = .dat (.int j) ∧ i ≤ xs.length ∧ 0 < j ∧ R (.dat (.tuple (pick xs (places xs.length i j)))) m3) ∧ Ext X.K Z m1 H1 m2 H2 ∧ Ok X.K Z m2 H2) I1
    ⟨Z, d, m1, _, ok1, rs.ext e1, q, fun y m2 u H2 q e2 ok2 rd2 => ⟨y, m2, rd2, q, e2, ok2⟩⟩) fun v2 s2 ⟨y, H2, I2, r2, dy, m2, rd2, q2, e2, ok2⟩ => ?_
  rw [evalPart_none, evalPart_some]
  refine wpAny_pure ?_
  refine thn (hs pins s2 σ H2 (fun z H3 => ∃ (m3 : Mu) (xs : List PyData) (i j : Nat), dx = .dat (.tuple xs) ∧ dy = .dat (.int i) ∧ z = .int j ∧ i ≤ xs.length ∧ 0 < j ∧ R (.dat (.tuple (pick xs (places xs.length i j)))) m3 ∧ Ext X.K Z m2 H2 m3 H3 ∧ Ok X.K Z m3 H3) I2
    ⟨Z, d, m2, _, ok2, (rs.ext e1).ext e2, q2, fun z m3 u H3 ⟨xs, i, j, ex, ey, ez, hi, hj, q⟩ e3 ok3 rd3 => by subst ez; exact ⟨m3, xs, i, j, ex, ey, rd3.int, hi, hj, q, e3, ok3⟩⟩) fun v3 s3 ⟨z, H3, I3, r3, m3, xs, i, j, ex, ey, ez, hi, hj, q3, e3, ok3⟩ => ?_
  subst ex ey ez
  cases rd2.int
  obtain ⟨t2, rfl⟩ := r2
  obtain ⟨t3, rfl⟩ := r3
  have rd' := rd.ext (e2.trans e3)
  have rd0 := rd'
  simp only [RD, RP] at rd'
  obtain ⟨a', vs, rfl, hq, hv⟩ := rd'
  cases r1
  have hvl := hv.length
  have I4 : Inv X pins σ H3 { s3 with heap := s3.heap.push { cls := .type "slice", data := .fields #[.int i t2, .none, .int j t3] } } := I3.kept (t' := s3.toks) fun b ob q => Heap.get?_push_of_some _ q
  obtain ⟨its, r, ht, hz⟩ := I4.tuple hq
  have hlen := r.length
  refine tail_any (ops := [.ref a', .ref s3.heap.objs.size]) ht.typeIs PyProof.Rows.slot_tuple_getitem.lookup (getItem_tuple_st ht (Heap.IsSliceOf.new ..) (by rw [List.size_toArray]; omega) hj (fun c1 c2 => ?_) (fun c => ?_) (by rw [List.size_toArray]; omega)) (by with_unfolding_all rfl)
  · subst c1 c2
    rw [places_one, pick_all] at q3
    exact ⟨.ref a', H3, I4, rfl, k _ m3 _ _ q3 (e1.trans (e2.trans e3)) ok3 rd0⟩
  · have zl : (pick vs (places vs.length i j)).length ≤ sizeLine := by
      have q1 := pickN_len vs (places vs.length i j)
      have q2 := many_le vs.length i j
      unfold places at q1
      rw [List.length_map, List.length_range] at q1
      unfold places
      omega
    have pe : pick its.toArray.toList (places its.toArray.size i j) = pick its (places vs.length i j) := by rw [List.size_toArray, ← hlen]
    have hpk : RPs X.K Z m3 H3 (pick xs (places xs.length i j)) (pick vs (places vs.length i j)) := by
      rw [hvl]
      exact hv.pick _
    refine ⟨.ref _, upd H3 _ (.tup (pick vs (places vs.length i j))), I4.laid (t' := s3.toks) (fun b ob q => Heap.get?_push_of_some _ q) (Nat.le_refl _) ?_, rfl, ?_⟩
    · rw [pe]
      exact ⟨⟨zl, NoD.new _ _ _⟩, _, Vals.pick r _, IsTup.new _ _⟩
    · have hp := I4.hok.fresh (Nat.le_refl _)
      have sm := same_new (o := .tup (pick vs (places vs.length i j))) hp
      refine k _ m3 _ _ q3 (e1.trans (e2.trans (e3.trans (ok3.ext sm)))) (ok3.grow sm) ?_
      simp only [RD, RP]
      refine ⟨_, _, rfl, .inl (.inl upd_same), ?_⟩
      exact RPs.ext (ok3.ext sm) _ _ hpk
end
end DL
set_option Elab.async false
set_option linter.all false
set_option maxRecDepth 100000
set_option maxHeartbeats 4000000
namespace DL
open PySem PySem.Spec PyProof.Rows L2
def TSet (P : Program) (w : World) (h : Heap) (a : Addr) (zs : List Str) : Prop :=
  ∃ o es ep t, h.get? a = some o ∧ o.ExactSet ∧ o.data = .set es ep t ∧ ElemsOf (mixKind P w) es.toList ∧ (∃ vs, StrsAre (es.toList.map (·.2)) vs ∧ vs.Perm zs) ∧ zs.Nodup ∧ es.size < scanBound ∧ t.fits es.size = true ∧ t.led = !w.params.followText "set-order" ∧ (zs ≠ [] → t.plain = false)
theorem StrsAre.snoc : ∀ {l : List Value} {vs : List Str} (z : Str) (tk : Tok), StrsAre l vs → StrsAre (l ++ [.str z tk]) (vs ++ [z])
  | _, _, z, tk, .nil => .cons z tk .nil
  | _, _, z, tk, .cons x t h => .cons x t (StrsAre.snoc z tk h)
section
variable {P : Program} {w : World} {A : Around} {E : Value → Shared → Prop} {s : Shared} {a : Addr} {zs : List Str} {z : Str} {tk : Tok}
theorem TSet.len {h : Heap} (T : TSet P w h a zs) : ∃ o es ep t, h.get? a = some o ∧ o.data = .set es ep t ∧ es.size = zs.length := by
  obtain ⟨o, es, ep, t, h1, _, h3, _, ⟨vs, h5, h6⟩, _⟩ := T
  refine ⟨o, es, ep, t, h1, h3, ?_⟩
  have q1 := congrArg List.length h5.strs
  have q2 := h6.length_eq
  simp at q1
  omega
end
end DL
set_option Elab.async false
set_option linter.all false
set_option maxRecDepth 100000
set_option maxHeartbeats 4000000
namespace DL
open PySem PySem.Spec PyProof.Rows L2
section
variable {P : Program} {w : World} {A : Around} {R : Result → Shared → Prop} {I : Addr} {fp wr : List Addr} {G : Array GenState → Array GenState → Prop} {n : Nat} {Pv : Nat → Value → Prop} {St : Nat → Shared → Prop}
theorem TSet.at {h h' : Heap} {a : Addr} {zs : List Str} (T : TSet P w h a zs) (k : ∀ o, h.get? a = some o → h'.get? a = some o) : TSet P w h' a zs := by
  obtain ⟨o, es, ep, t, ho, rest⟩ := T
  exact ⟨o, es, ep, t, k o ho, rest⟩
end
end DL
set_option Elab.async false
set_option linter.all false
set_option maxRecDepth 100000
set_option maxHeartbeats 4000000
namespace DL
open PySem PySem.Spec PyProof.Rows L2
section
variable {P : Program} {w : World} {A : Around} {E : Value → Shared → Prop} {s : Shared}
end
end DL
set_option Elab.async false
set_option linter.all false
set_option maxRecDepth 100000
set_option maxHeartbeats 4000000
namespace DL
open PySem PySem.Spec PyProof.Rows L2
end DL
set_option Elab.async false
set_option linter.all false
set_option maxRecDepth 100000
set_option maxHeartbeats 4000000
namespace DL
open PySem PySem.Spec PyProof.Rows L2
section
variable {P : Program} {w : World} {A : Around} {E : Value → Shared → Prop} {s : Shared} {I S T : Addr} {o : Obj} {es : Array (Int × Value)} {ep i : Nat} {t : SetTable} {places : Array Value}
end
end DL
set_option Elab.async false
set_option linter.all false
set_option maxRecDepth 100000
set_option maxHeartbeats 4000000
namespace DL
open PySem PySem.Spec PyProof.Rows L2
section
variable {P : Program} {w : World} {A : Around} {E : Value → Shared → Prop} {s : Shared} {I S T : Addr} {o : Obj} {es : Array (Int × Value)} {ep i slot : Nat} {t : SetTable}
end
end DL
set_option Elab.async false
set_option linter.all false
set_option maxRecDepth 100000
set_option maxHeartbeats 4000000
namespace DL
open PySem PySem.Spec PyProof.Rows L2
section
variable {P : Program} {w : World} {A : Around} {E : Value → Shared → Prop} {s : Shared} {I S T : Addr} {o : Obj} {es : Array (Int × Value)} {ep i slot : Nat} {t : SetTable}
end
end DL
set_option Elab.async false
set_option linter.all false
set_option maxRecDepth 100000
set_option maxHeartbeats 4000000
namespace DL
open PySem PySem.Spec PyProof.Rows L2
section
variable {P : Program} {w : World} {A : Around} {E : Value → Shared → Prop} {s : Shared} {I S T : Addr} {o : Obj} {es : Array (Int × Value)} {ep i slot : Nat} {t : SetTable}
end
end DL
set_option Elab.async false
set_option linter.all false
set_option maxRecDepth 100000
set_option maxHeartbeats 4000000
namespace DL
open PySem PySem.Spec PyProof.Rows L2
section
variable {P : Program} {w : World} {A : Around} {E : Value → Shared → Prop} {s : Shared} {S : Addr} {zs : List Str}
theorem TSet.type {h : Heap} (T : TSet P w h S zs) : ∃ o, h.get? S = some o ∧ o.cls = .type "set" := let ⟨o, _, _, _, ho, hx, _⟩ := T; ⟨o, ho, hx.1⟩
end
end DL
set_option Elab.async false
set_option linter.all false
set_option maxRecDepth 100000
set_option maxHeartbeats 4000000
namespace DL
open PySem PySem.Spec PyProof.Rows L2
section
variable {X : Cx} {e : Expr} {f : DE} {pos p p2 pos2 : Pos}
end
end DL
set_option Elab.async false
set_option linter.all false
set_option maxRecDepth 100000
set_option maxHeartbeats 4000000
namespace DL
open PySem PySem.Spec PyProof.Rows L2
section
variable {X : Cx} {a : Expr} {tg : Expr} {f : DE}
end
end DL
set_option Elab.async false
set_option linter.all false
set_option maxRecDepth 100000
set_option maxHeartbeats 4000000
namespace DL
open PySem PySem.Spec PyProof.Rows L2
section
variable {X : Cx}
end
end DL
set_option Elab.async false
set_option linter.all false
set_option maxRecDepth 100000
set_option maxHeartbeats 4000000
namespace DL
open PySem PySem.Spec PyProof.Rows L2
section
variable {X : Cx}
end
end DL
set_option Elab.async false
set_option linter.all false
set_option maxRecDepth 100000
set_option maxHeartbeats 4000000
namespace DL
open PySem PySem.Spec PyProof.Rows L2
section
variable {K : PySem.W.Frag} {Z : Addr → Prop} {m : Mu} {H : Hp}
theorem RD.rw {x : D} {v : V} (h : RD K Z m H x v) : RW K Z m H x v := by
  cases x with
  | dat p => exact h
  | cel a => exact h.1
theorem RW.rd {x : D} {v : V} (h : RW K Z m H x v) (hc : ∀ a, x = .cel a → (m a).isSome = true) : RD K Z m H x v := by
  cases x with
  | dat p => exact h
  | cel a => exact ⟨h, hc a rfl⟩
theorem RKW.length {κ : Type} : ∀ {fs : List (κ × D)} {vs : List (κ × V)}, RKW K Z m H fs vs → vs.length = fs.length
  | [], _, h => by cases (show _ = [] from h); rfl
  | (_, _) :: _, _, ⟨v, r, h1, _, h3⟩ => by subst h1; rw [List.length_cons, List.length_cons, h3.length]
theorem RKW.look {f : Str} : ∀ {fs : List (Str × D)} {vs : List (Str × V)}, RKW K Z m H fs vs → (∀ x, fs.lookup f = some x → ∃ v, vs.lookup f = some v ∧ RW K Z m H x v) ∧ (fs.lookup f = none → vs.lookup f = none)
  | [], _, h => by cases (show _ = [] from h); exact ⟨fun x e => (nomatch e), fun _ => rfl⟩
  | (g, y) :: fs, _, ⟨v, r, h1, h2, h3⟩ => by
    subst h1
    obtain ⟨i1, i2⟩ := h3.look (f := f)
    by_cases e : f = g
    · have b : (f == g) = true := beq_iff_eq.mpr e
      simp only [List.lookup, b]
      exact ⟨fun x q => by cases q; exact ⟨v, rfl, h2⟩, fun q => (nomatch q)⟩
    · have b : (f == g) = false := beq_eq_false_iff_ne.mpr e
      simp only [List.lookup, b]
      exact ⟨i1, i2⟩
def putO (f : Str) (v : D) : List (Str × D) → List (Str × D)
  | [] => [(f, v)]
  | (g, x) :: r => if g = f then (g, v) :: r else (g, x) :: putO f v r
theorem RKW.putO {f : Str} {x : D} {v : V} (hx : RW K Z m H x v) : ∀ {fs : List (Str × D)} {vs : List (Str × V)}, RKW K Z m H fs vs → RKW K Z m H (DL.putO f x fs) (putF f v vs)
  | [], _, h => by cases (show _ = [] from h); exact ⟨v, [], rfl, hx, rfl⟩
  | (g, y) :: fs, _, ⟨w, r, h1, h2, h3⟩ => by
    subst h1
    unfold DL.putO putF
    by_cases e : g = f
    · rw [if_pos e, if_pos e]; exact ⟨v, r, rfl, hx, h3⟩
    · rw [if_neg e, if_neg e]; exact ⟨w, _, rfl, h2, h3.putO hx⟩
theorem Ok.o {a : Addr} {N : Str} {fs : List (Str × D)} (ok : Ok K Z m H) (h : m a = some (.o N fs)) : ∃ C dx vs, H a = some (.ins C dx vs) ∧ PySem.W.nsIn K mainGlobals N = some (some (.ref C)) ∧ RKW K Z m H fs vs := by
  obtain ⟨o, h1, h2⟩ := ok.g a _ h
  cases o <;> first | exact ⟨_, _, _, h1, h2⟩ | exact h2.elim
end
section
variable {X : Cx} {o e : Expr} {es : List Expr} {fo fe : DE} {ga : DA} {pos pos' tpos apos p : Pos} {N f : Str} {C : Addr}
@[simp] def dFld (N f : Str) (fo : DE) : DE := fun d m Q => fo d m fun x m1 => ∃ a fs y, x = .cel a ∧ m1 a = some (.o N fs) ∧ fs.lookup f = some y ∧ (∀ b, y = .cel b → (m1 b).isSome = true) ∧ Q y m1
theorem le_fld (g : PySem.W.nsIn X.K mainGlobals N = some (some (.ref C))) (c : Cls X.K C) (n : NoAttr X.K C f) (ho : PE X o (LE X.K fo)) (hb : attributeBase o f X.env (eval o X.env) = eval o X.env := by rfl) : PE X (.Attribute o f pos) (LE X.K (dFld N f fo)) :=
  PE.imp (pe_fld ho hb) fun s H Q h => by
    obtain ⟨Z, d, m, R, ok, rs, h, k⟩ := h
    refine ⟨Z, d, m, _, ok, rs, h, fun x m1 v H1 q e1 ok1 rd => ?_⟩
    obtain ⟨a, fs, y, rfl, hm, hl, hc, q⟩ := q
    obtain ⟨C', dx, vs, h1, h2, h3⟩ := ok1.o hm
    rw [g] at h2
    cases h2
    obtain ⟨v', l1, l2⟩ := h3.look.1 _ hl
    obtain ⟨rfl, _⟩ := rd
    exact ⟨a, C, dx, vs, v', rfl, h1, c, n, l1, k y m1 v' H1 q e1 ok1 (l2.rd hc)⟩
@[simp] def dFPut (N f : Str) (fo fe : DE) : DS := fun E d m => fe d m fun y m1 => fo d m1 fun x m2 => ∃ a fs, x = .cel a ∧ m2 a = some (.o N fs) ∧ fs.length < 1000 ∧ E.nx d (updM m2 a (.o N (putO f y fs)))
theorem ls_fput (g : PySem.W.nsIn X.K mainGlobals N = some (some (.ref C))) (c : Cls X.K C) (n : NoAttr X.K C f) (he : PE X e (LE X.K fe)) (ho : PE X o (LE X.K fo)) (hs : swapsWith e (some (.Attribute o f pos')) pos.line X.env = pure false := by rfl) :
    PS X (.Assign [.Attribute o f pos'] e pos) (LS X.K (dFPut N f fo fe)) := PS.imp (ps_fld ho he hs) fun E s H h => by
  obtain ⟨Z, d, m, R, ok, rs, h, k, _⟩ := h
  refine ⟨Z, d, m, _, ok, rs, h, fun y m1 v H1 q e1 ok1 r1 => ⟨Z, d, m1, _, ok1, rs.ext e1, q, fun x m2 w H2 q2 e2 ok2 r2 => ?_⟩⟩
  obtain ⟨a, fs, rfl, hm, hl, q⟩ := q2
  obtain ⟨C', dx, vs, h1, h2, h3⟩ := ok2.o hm
  rw [g] at h2
  cases h2
  obtain ⟨rfl, _⟩ := r2
  refine ⟨a, C, dx, vs, rfl, h1, c, n, by rw [h3.length]; exact hl, ?_⟩
  have e3 : Ext X.K Z m2 H2 (updM m2 a (.o N (putO f y fs))) (upd H2 a (.ins C dx (putF f v vs))) := Ext.put ok2 hm h1
  exact k d _ s _ q (e1.trans (e2.trans e3)) (ok2.put hm h1 ⟨g, h3.putO (r1.ext e2).rw⟩) ((rs.ext e1).ext (e2.trans e3))
@[simp] def dMeth (N mn : Str) (n : Nat) (sp : DC) (fo : DE) (ga : DA) : DE := fun d m Q => fo d m fun x m1 => ∃ a fs, x = .cel a ∧ m1 a = some (.o N fs) ∧ fs.lookup mn = none ∧ ga d m1 fun xs m2 => (x :: xs).length = n ∧ sp (x :: xs) m2 Q
theorem le_meth {k n : Nat} {fa : Addr} {fd : FuncData} {ps : List Str} {sp : DC} (g : PySem.W.nsIn X.K mainGlobals N = some (some (.ref C))) (c : Cls X.K C) (hm : Meth X.K C f fa) (F : FnOk X.prog X.w X.K X.mg X.base CX0 k fa fd ps (LSp X.K n sp)) (hr : Room k X.A) (hb : Binds X.K fd ps [])
    (hx : X.xe = fun _ _ => False) (ho : PE X o (LE X.K fo)) (ha : PA X (e :: es) (LA X.K ga))
    (hst : starEach (e :: es) X.env = (false, eval e X.env) :: starEach es X.env := by rfl) (hpl : (backTo pos (starEach es X.env)).any (·.1) = false := by rfl) {pl : Sem Bool}
    (ht : eval (.Call (.Attribute o f apos) (e :: es) [] pos) X.env = (do
      let ov ← eval o X.env
      standAt apos.atName
      let (f, first) ← holding [ov] (getMethod ov f pl)
      callWith pos f first (backTo pos (starEach (e :: es) X.env)) (backToKw pos (keywordEach [] X.env))) := by rfl) :
    PE X (.Call (.Attribute o f apos) (e :: es) [] pos) (LE X.K (dMeth N f n sp fo ga)) :=
  PE.imp (pe_meth (pl := pl) ho c hm F hr hb .nil (pass0 (X := X)) ha hst hpl ht) fun s H Q h => by
    obtain ⟨Z, d, m, R, ok, rs, h, k⟩ := h
    refine ⟨Z, d, m, _, ok, rs, h, fun x m1 v H1 q e1 ok1 rd => ?_⟩
    obtain ⟨a, fs, rfl, hm, hl, q⟩ := q
    obtain ⟨C', dx, vs, h1, h2, h3⟩ := ok1.o hm
    rw [g] at h2
    cases h2
    obtain ⟨rfl, hsome⟩ := rd
    refine ⟨a, dx, vs, rfl, h1, h3.look.2 hl, Z, d, m1, _, ok1, rs.ext e1, q, fun xs m2 ws H2 ⟨hl2, q2⟩ e2 ok2 rd2 => ?_⟩
    exact ⟨Z, .cel a :: xs, m2, R, ok2, ⟨.ref a, ws, by simp, ⟨rfl, e2.c _ hsome⟩, rd2⟩, hl2, q2, fun d' m' v' H' h1 h2 h3 h4 => k d' m' v' H' h1 (e1.trans (e2.trans h2)) h3 h4⟩
theorem run_makeK {k : Nat} {f : Addr} {fd : FuncData} {ps : List Str} {sp : Sp} {pins : List (Addr × Obj)} {σ : L2.St} {H : Hp} {s : Shared} {Q : VK} {us : List Value} {vs : List V} (M : Mk X.K C f) (F : FnOk X.prog X.w X.K X.mg X.base CX0 k f fd ps sp) (hr : Room (k + 1) X.A) (hb : Binds X.K fd ps [])
    (I : Inv X pins σ H s) (r : Vals vs us)
    (h : ∀ x dx, H x = none → H dx = none → dx ≠ x → X.K.lookup x = none → X.K.lookup dx = none → sp (.ref x :: vs) (upd (upd H dx (.own x)) x (.ins C dx [])) (fun v H2 => v = .non ∧ Q (.ref x) H2) E0) :
    wpAny (model X.prog X.w) X.A (call (.ref C) us) (EP X pins σ Q) X.xe s := by
  have hk : ∀ a, s.heap.objs.size ≤ a → X.K.lookup a = none := fun a ha => by
    cases e : X.K.lookup a with
    | none => rfl
    | some o => exact absurd (Heap.lt_size (I.kIn _ o e)) (Nat.not_lt.mpr ha)
  have hq := h (s.heap.objs.size + 1) s.heap.objs.size (I.hok.fresh (Nat.le_succ _)) (I.hok.fresh (Nat.le_refl _)) (Nat.ne_of_lt (Nat.lt_succ_self _)) (hk _ (Nat.le_succ _)) (hk _ (Nat.le_refl _))
  have I2 := Inv.made (C := C) I
  have r2 : Vals (V.ref (s.heap.objs.size + 1) :: vs) (Value.ref (s.heap.objs.size + 1) :: us) := .cons rfl r
  have hl : (Value.ref (s.heap.objs.size + 1) :: us ++ []).length = ps.length := by
    have e := r2.length
    rw [F.len _ _ _ _ hq] at e
    rw [List.append_nil]
    exact e.symm
  have hb' := hb _ (Value.ref (s.heap.objs.size + 1) :: us) I2.kIn hl
  rw [List.append_nil] at hb'
  refine wpAny_call (make_map (f := f) I.kIn M.makes M.init (beq_iff_eq.mp M.fn) (codeAny_mono (F.run _ X.stack _ _ ⟨Value.ref (s.heap.objs.size + 1) :: us, []⟩ (Value.ref (s.heap.objs.size + 1) :: us) _ _ E0 (hr.make C us [])
    (I2.env0.make C us []) hb' r2 hq) fun r s' hq' => ?_))
  cases r with
  | error e => exact False.elim hq'
  | ok fl =>
    cases fl with
    | ret u =>
      obtain ⟨v, H', I3, rv, ev, q3⟩ := I2.after hq'
      subst ev
      exact ⟨rv, ⟨V.ref (s.heap.objs.size + 1), H', I3, rfl, q3⟩⟩
    | next => exact False.elim hq'
    | brk => exact False.elim hq'
    | cont => exact False.elim hq'
@[simp] def dMake (N : Str) (n : Nat) (sp : DC) (ga : DA) : DE := fun d m Q => ga d m fun xs m1 => xs.length + 1 = n ∧ ∀ a, m1 a = none → sp (.cel a :: xs) (updM m1 a (.o N [])) fun v m2 => v = .dat .none ∧ Q (.cel a) m2
theorem make_core {k n : Nat} {fa : Addr} {fd : FuncData} {ps : List Str} {sp : DC} {pins : List (Addr × Obj)} {σ : L2.St} {H : Hp} {s : Shared} {Q : VK} {us : List Value} {vs : List V} {xs : List D} {Z : Addr → Prop} {m : Mu} {R : DK}
    (g : PySem.W.nsIn X.K mainGlobals N = some (some (.ref C))) (M : Mk X.K C fa) (F : FnOk X.prog X.w X.K X.mg X.base CX0 k fa fd ps (LSp X.K n sp)) (hr : Room (k + 1) X.A) (hb : Binds X.K fd ps [])
    (I : Inv X pins σ H s) (r : Vals vs us) (ok : Ok X.K Z m H) (rd : RDs X.K Z m H xs vs) (hn : xs.length + 1 = n) (q : ∀ a, m a = none → sp (.cel a :: xs) (updM m a (.o N [])) fun v m2 => v = .dat .none ∧ R (.cel a) m2)
    (k : ∀ x m' v H', R x m' → Ext X.K Z m H m' H' → Ok X.K Z m' H' → RD X.K Z m' H' x v → Q v H') : wpAny (model X.prog X.w) X.A (call (.ref C) us) (EP X pins σ Q) X.xe s := by
  refine run_makeK M F hr hb I r fun x dx hx hdx ne kx kdx => ?_
  have sm : Same H (upd H dx (.own x)) := same_new hdx
  have ok1 := ok.grow sm
  have e1 := ok.ext sm
  have hx1 : upd H dx (.own x) x = none := by rw [upd_ne (Ne.symm ne)]; exact hx
  have e2 : Ext X.K Z m (upd H dx (.own x)) (updM m x (.o N [])) (upd (upd H dx (.own x)) x (.ins C dx [])) := Ext.cell ok1 hx1 kx
  have ok2 : Ok X.K Z (updM m x (.o N [])) (upd (upd H dx (.own x)) x (.ins C dx [])) := ok1.cell hx1 kx ⟨g, rfl⟩
  refine ⟨Z, .cel x :: xs, updM m x (.o N []), _, ok2, ⟨.ref x, vs, rfl, ⟨rfl, by rw [updM_same]; rfl⟩, rd.ext (e1.trans e2)⟩, by simpa using hn, q x (ok_none ok hx).1, fun d m' v' H' ⟨h1, h2⟩ e3 ok3 r3 => ?_⟩
  subst h1
  refine ⟨by simpa only [RD, RP] using r3, k _ m' _ H' h2 (e1.trans (e2.trans e3)) ok3 ⟨rfl, e3.c _ (by rw [updM_same]; rfl)⟩⟩
theorem le_make0 {k n : Nat} {fa : Addr} {fd : FuncData} {ps : List Str} {sp : DC} (g : PySem.W.nsIn X.K mainGlobals N = some (some (.ref C))) (M : Mk X.K C fa) (hm : X.mg N = some (.ref C)) (F : FnOk X.prog X.w X.K X.mg X.base CX0 k fa fd ps (LSp X.K n sp)) (hr : Room (k + 1) X.A) (hb : Binds X.K fd ps [])
    (hg : Gl X N := by rfl) (hdb : (N == ("__debug__" : Str)) = false := by decide) : PE X (.Call (.Name N p) [] [] pos) (LE X.K (dMake N n sp dNil)) := by
  intro pins s σ H Q I h
  obtain ⟨Z, d, m, R, ok, rs, ⟨q1, q2⟩, k⟩ := h
  refine wpAny_Call_Name_kw (ld_glob I hg hm ?_ hdb)
  exact PySem.W.callWith_K0 I.kIn M.kp (make_core g M F hr hb I .nil ok (show RDs X.K Z m H [] [] from rfl) q1 q2 k)
end
end DL
set_option Elab.async false
set_option linter.all false
set_option maxRecDepth 100000
set_option maxHeartbeats 4000000
namespace DL
open PySem PySem.Spec PyProof.Rows L2
section
variable {κ β : Type} [DecidableEq κ]
def valG (kvs : List (κ × β)) (k : κ) : Option β := (kvs.find? fun kv => decide (kv.1 = k)).map (·.2)
def putG (kvs : List (κ × β)) (k : κ) (v : β) : List (κ × β) :=
  if (kvs.any fun kv => decide (kv.1 = k)) = true then kvs.map (fun kv => if kv.1 = k then (kv.1, v) else kv) else kvs ++ [(k, v)]
theorem valG_pos {p : κ × β} {r : List (κ × β)} {k : κ} (e : p.1 = k) : valG (p :: r) k = some p.2 := by simp [valG, List.find?_cons, e]
theorem valG_neg {p : κ × β} {r : List (κ × β)} {k : κ} (e : ¬ p.1 = k) : valG (p :: r) k = valG r k := by simp [valG, List.find?_cons, e]
theorem valG_any (k : κ) : ∀ kvs : List (κ × β), (kvs.any fun kv => decide (kv.1 = k)) = (valG kvs k).isSome
  | [] => rfl
  | p :: r => by
    rw [List.any_cons]
    by_cases e : p.1 = k
    · simp only [valG_pos e, decide_eq_true e, Bool.true_or, Option.isSome_some]
    · rw [valG_neg e, decide_eq_false e, Bool.false_or]; exact valG_any k r
theorem valG_map (k j : κ) (y : β) : ∀ kvs : List (κ × β), valG (kvs.map fun kv => if kv.1 = k then (kv.1, y) else kv) j = (valG kvs j).map fun x => if j = k then y else x
  | [] => rfl
  | p :: r => by
    have ih := valG_map k j y r
    rw [List.map_cons]
    by_cases h : p.1 = k
    · rw [if_pos h]
      by_cases e : p.1 = j
      · rw [valG_pos (p := (p.1, y)) e, valG_pos e, Option.map_some, if_pos (e.symm.trans h)]
      · rw [valG_neg (p := (p.1, y)) e, valG_neg e, ih]
    · rw [if_neg h]
      by_cases e : p.1 = j
      · rw [valG_pos (p := p) e, valG_pos e, Option.map_some, if_neg (fun z => h (e.trans z))]
      · rw [valG_neg (p := p) e, valG_neg e, ih]
theorem valG_snoc (k j : κ) (y : β) : ∀ kvs : List (κ × β), valG kvs k = none → valG (kvs ++ [(k, y)]) j = if j = k then some y else valG kvs j
  | [], _ => by
    by_cases e : k = j
    · rw [if_pos e.symm]; exact valG_pos (p := (k, y)) e
    · rw [if_neg (fun z => e z.symm)]; exact valG_neg (p := (k, y)) e
  | p :: r, hn => by
    rw [List.cons_append]
    have hk : ¬ p.1 = k := fun z => by rw [valG_pos z] at hn; cases hn
    rw [valG_neg hk] at hn
    have ih := valG_snoc k j y r hn
    by_cases e : p.1 = j
    · rw [valG_pos e, valG_pos e, if_neg (fun z => hk (e.trans z))]
    · rw [valG_neg e, valG_neg e, ih]
theorem valG_put (kvs : List (κ × β)) (k j : κ) (y : β) : valG (putG kvs k y) j = if j = k then some y else valG kvs j := by
  unfold putG
  by_cases a : (kvs.any fun kv => decide (kv.1 = k)) = true
  · rw [if_pos a, valG_map]
    rw [valG_any] at a
    by_cases e : j = k
    · obtain ⟨x, hx⟩ := Option.isSome_iff_exists.mp a
      rw [if_pos e, e, hx, Option.map_some, if_pos rfl]
    · rw [if_neg e]
      cases valG kvs j with
      | none => rfl
      | some x => rw [Option.map_some, if_neg e]
  · rw [if_neg a]
    refine valG_snoc k j y kvs ?_
    rw [valG_any] at a
    cases q : valG kvs k with
    | none => rfl
    | some x => rw [q] at a; exact (a rfl).elim
theorem length_putG (kvs : List (κ × β)) (k : κ) (v : β) : (putG kvs k v).length ≤ kvs.length + 1 := by
  unfold putG
  split
  · rw [List.length_map]; omega
  · rw [List.length_append, List.length_cons, List.length_nil]; omega
end
section
variable {κ : Type} [DecidableEq κ] {K : PySem.W.Frag} {Z : Addr → Prop} {m : Mu} {H : Hp}
theorem RKW.val {k : κ} : ∀ {kvs : List (κ × D)} {vs : List (κ × V)}, RKW K Z m H kvs vs → (∀ x, valG kvs k = some x → ∃ v, valV vs k = some v ∧ RW K Z m H x v) ∧ (valG kvs k).isSome = (valV vs k).isSome
  | [], _, h => by cases (show _ = [] from h); exact ⟨fun x e => (nomatch e), rfl⟩
  | (g, y) :: fs, _, ⟨v, r, h1, h2, h3⟩ => by
    subst h1
    obtain ⟨i1, i2⟩ := h3.val (k := k)
    by_cases e : g = k
    · rw [valG_pos (p := (g, y)) e, valV_pos (p := (g, v)) e]
      exact ⟨fun x q => by cases q; exact ⟨v, rfl, h2⟩, rfl⟩
    · rw [valG_neg (p := (g, y)) e, valV_neg (p := (g, v)) e]
      exact ⟨i1, i2⟩
theorem RKW.any {k : κ} : ∀ {kvs : List (κ × D)} {vs : List (κ × V)}, RKW K Z m H kvs vs → (vs.any fun kv => decide (kv.1 = k)) = (kvs.any fun kv => decide (kv.1 = k))
  | [], _, h => by cases (show _ = [] from h); rfl
  | (g, y) :: fs, _, ⟨v, r, h1, h2, h3⟩ => by subst h1; rw [List.any_cons, List.any_cons, h3.any]
theorem RKW.repl {k : κ} {x : D} {v : V} (hx : RW K Z m H x v) : ∀ {kvs : List (κ × D)} {vs : List (κ × V)}, RKW K Z m H kvs vs → RKW K Z m H (kvs.map fun kv => if kv.1 = k then (kv.1, x) else kv) (vs.map fun kv => if kv.1 = k then (kv.1, v) else kv)
  | [], _, h => by cases (show _ = [] from h); rfl
  | (g, y) :: fs, _, ⟨w, r, h1, h2, h3⟩ => by
    subst h1
    rw [List.map_cons, List.map_cons]
    by_cases e : g = k
    · rw [if_pos (show ((g, y) : κ × D).1 = k from e), if_pos (show ((g, w) : κ × V).1 = k from e)]; exact ⟨v, _, rfl, hx, h3.repl hx⟩
    · rw [if_neg (show ¬ ((g, y) : κ × D).1 = k from e), if_neg (show ¬ ((g, w) : κ × V).1 = k from e)]; exact ⟨w, _, rfl, h2, h3.repl hx⟩
theorem RKW.snoc {k : κ} {x : D} {v : V} (hx : RW K Z m H x v) : ∀ {kvs : List (κ × D)} {vs : List (κ × V)}, RKW K Z m H kvs vs → RKW K Z m H (kvs ++ [(k, x)]) (vs ++ [(k, v)])
  | [], _, h => by cases (show _ = [] from h); exact ⟨v, [], rfl, hx, rfl⟩
  | (g, y) :: fs, _, ⟨w, r, h1, h2, h3⟩ => by subst h1; exact ⟨w, _, rfl, h2, h3.snoc hx⟩
theorem RKW.put {k : κ} {x : D} {v : V} {kvs : List (κ × D)} {vs : List (κ × V)} (h : RKW K Z m H kvs vs) (hx : RW K Z m H x v) : RKW K Z m H (putG kvs k x) (putK vs k v) := by
  unfold putG putK
  rw [h.any]
  split
  · exact h.repl hx
  · exact h.snoc hx
theorem Ok.n {a : Addr} {kvs : List (List PyData × D)} (ok : Ok K Z m H) (h : m a = some (.n kvs)) : ∃ vs, H a = some (.dN K vs) ∧ RKW K Z m H kvs vs := by
  obtain ⟨o, h1, h2⟩ := ok.g a _ h
  cases o <;> first | (obtain ⟨rfl, h2⟩ := h2; exact ⟨_, h1, h2⟩) | exact h2.elim
mutual
theorem RP.nkv : ∀ (p : PyData) (v : V), L2.isK p = true → RP K Z m H p v → NKV K H p v
  | .int _, _, _, h => by simp only [RP] at h; simp only [NKV]; exact h
  | .str _, _, _, h => by simp only [RP] at h; simp only [NKV]; exact h
  | .tuple xs, _, hk, h => by
    simp only [RP] at h
    simp only [NKV]
    obtain ⟨a, vs, e, h1, h2⟩ := h
    exact ⟨a, vs, e, h1, RPs.nkv xs vs hk h2⟩
  | .none, _, h, _ | .bool _, _, h, _ | .list _, _, h, _ | .dict _, _, h, _ => by simp [L2.isK] at h
theorem RPs.nkv : ∀ (ps : List PyData) (vs : List V), L2.isKs ps = true → RPs K Z m H ps vs → NKVs K H ps vs
  | [], _, _, h => by simp only [RPs] at h; simp only [NKVs]; exact h
  | p :: ps, _, hk, h => by
    simp only [L2.isKs, Bool.and_eq_true] at hk
    simp only [RPs] at h
    simp only [NKVs]
    obtain ⟨v, r, e, h1, h2⟩ := h
    exact ⟨v, r, e, RP.nkv p v hk.1 h1, RPs.nkv ps r hk.2 h2⟩
end
end
section
variable {X : Cx} {pins : List (Addr × Obj)} {σ : L2.St} {H : Hp} {s : Shared}
mutual
theorem NKV.reads (I : Inv X pins σ H s) : ∀ (p : PyData) (v : V) (u : Value), NKV X.K H p v → RelV v u → ∃ as, Reads s.heap u p as
  | .int i, v, u, h, r => by simp only [NKV] at h; subst h; obtain ⟨t, rfl⟩ := r; exact ⟨_, .int i t⟩
  | .str x, v, u, h, r => by simp only [NKV] at h; subst h; obtain ⟨t, rfl⟩ := r; exact ⟨_, .str x t⟩
  | .tuple xs, v, u, h, r => by
    simp only [NKV] at h
    obtain ⟨a, vs, rfl, h2, h3⟩ := h
    cases r
    obtain ⟨its, rv, ⟨o, e, c, n, d⟩, _⟩ := I.tuple h2
    obtain ⟨as, q⟩ := NKVs.reads I xs vs its h3 rv
    exact ⟨_, .tuple e c d (by simpa using q)⟩
  | .none, _, _, h, _ | .bool _, _, _, h, _ | .list _, _, _, h, _ | .dict _, _, _, h, _ => by simp only [NKV] at h
theorem NKVs.reads (I : Inv X pins σ H s) : ∀ (xs : List PyData) (vs : List V) (us : List Value), NKVs X.K H xs vs → Vals vs us → ∃ as, ReadsAll s.heap us xs as
  | [], vs, us, h, r => by simp only [NKVs] at h; subst h; cases r; exact ⟨_, .nil⟩
  | x :: xs, vs, us, h, r => by
    simp only [NKVs] at h
    obtain ⟨v, w, rfl, h1, h2⟩ := h
    cases r with
    | cons r1 r2 =>
      obtain ⟨as, q1⟩ := NKV.reads I x v _ h1 r1
      obtain ⟨bs, q2⟩ := NKVs.reads I xs w _ h2 r2
      exact ⟨_, .cons q1 q2⟩
end
abbrev KN (K : PySem.W.Frag) (H : Hp) : List (List PyData × V) → List (List PyData × Addr × Value) → Prop :=
  Paired fun p q => p.1 = q.1 ∧ (L2.isKs p.1 = true ∧ PyData.depthAll p.1 ≤ 6 ∧ NKV K H (.tuple p.1) (.ref q.2.1)) ∧ RelV p.2 q.2.2
theorem KN.val {K : PySem.W.Frag} {kvs : List (List PyData × V)} {xs : List (List PyData × Addr × Value)} (r : KN K H kvs xs) (k : List PyData) : RelO (valV kvs k) ((atKey xs k).map (·.2)) := by
  induction r with
  | nil => exact True.intro
  | @cons p q ps qs h t ih =>
    obtain ⟨h1, _, h2⟩ := h
    by_cases e : p.1 = k
    · have e' : q.1 = k := h1.symm.trans e
      have b : atKey (q :: qs) k = some q.2 := by simp [atKey, List.find?_cons, e']
      rw [valV_pos e, b]; exact h2
    · have e' : ¬ q.1 = k := fun z => e (h1.trans z)
      have b : atKey (q :: qs) k = atKey qs k := by simp [atKey, List.find?_cons, e']
      rw [valV_neg e, b]; exact ih
theorem KN.repl {K : PySem.W.Frag} {kvs : List (List PyData × V)} {xs : List (List PyData × Addr × Value)} (r : KN K H kvs xs) (k : List PyData) {y : V} {u : Value} (ry : RelV y u) :
    KN K H (kvs.map fun kv => if kv.1 = k then (kv.1, y) else kv) (xs.map (putAt k u)) := by
  induction r with
  | nil => exact .nil
  | @cons p q ps qs h t ih =>
    rw [List.map_cons, List.map_cons]
    refine .cons ?_ ih
    obtain ⟨h1, h2, h3⟩ := h
    unfold putAt
    by_cases e : p.1 = k
    · rw [if_pos e, if_pos (h1.symm.trans e)]; exact ⟨h1, h2, ry⟩
    · rw [if_neg e, if_neg (fun z => e (h1.trans z))]; exact ⟨h1, h2, h3⟩
theorem KN.put {K : PySem.W.Frag} {kvs : List (List PyData × V)} {xs : List (List PyData × Addr × Value)} (r : KN K H kvs xs) (k : List PyData) {b : Addr} {y : V} {u : Value} (hb : L2.isKs k = true ∧ PyData.depthAll k ≤ 6 ∧ NKV K H (.tuple k) (.ref b)) (ry : RelV y u) :
    KN K H (putK kvs k y) (storedH xs k b u) := by
  have e : (kvs.any fun kv => decide (kv.1 = k)) = (atKey xs k).isSome := by
    rw [valV_any, (r.val k).isSome_eq, Option.isSome_map]
  unfold putK storedH
  rw [e]
  by_cases q : (atKey xs k).isSome = true
  · rw [if_pos q, if_pos q]; exact r.repl k ry
  · rw [if_neg q, if_neg q]; exact Paired.snoc r ⟨rfl, hb, ry⟩
theorem nkey_of (I : Inv X pins σ H s) {k : List PyData} {b : Addr} (h : L2.isKs k = true ∧ PyData.depthAll k ≤ 6 ∧ NKV X.K H (.tuple k) (.ref b)) : (nestKind X.prog X.w).is s.heap k b :=
  ⟨h.1, h.2.1, NKV.reads I _ _ _ h.2.2 rfl⟩
theorem dn_of {a : Addr} {kvs : List (List PyData × V)} (I : Inv X pins σ H s) (e : H a = some (.dN X.K kvs)) : kvs.length ≤ sizeLine ∧ (a == sysModules) = false ∧ ∃ xs, KN X.K H kvs xs ∧ s.heap.DictOfH (nestKind X.prog X.w) a xs := by
  obtain ⟨z, y, xs, r, o, es, ep, h1, h2, h3, h4, h5⟩ := (show ObjOk X.prog X.w H s.heap a (.dN X.K kvs) from I.hok a _ e)
  refine ⟨z, y, xs, r, o, es, ep, h1, h2, h3, h4, fun x hx => ?_, h5⟩
  have all : ∀ {l : List (List PyData × V)} {m : List (List PyData × Addr × Value)}, KN X.K H l m → ∀ x ∈ m, (nestKind X.prog X.w).is s.heap x.1 x.2.1 := by
    intro l m q
    induction q with
    | nil => intro x hx; exact nomatch hx
    | @cons p q ps qs hq t ih =>
      intro x hx
      rcases List.mem_cons.mp hx with e | hx
      · subst e
        exact nkey_of I (by rw [← hq.1]; exact hq.2.1)
      · exact ih x hx
  exact all r x hx
theorem nroom {A : Around} (hu : A.units + 100 < cLine) : (nestKind X.prog X.w).room A.in1 := by
  show A.in1.units + 20 < cLine
  rw [Around.in1_units]; omega
end
section
variable {X : Cx} {o i e : Expr} {fo fi f : DE} {pos tpos : Pos}
@[simp] def keyN : D → Option (List PyData)
  | .dat (.tuple ks) => if L2.isKs ks = true ∧ PyData.depthAll ks ≤ 6 then some ks else none
  | _ => none
theorem keyN_of {y : D} {ks : List PyData} (h : keyN y = some ks) : y = .dat (.tuple ks) ∧ L2.isKs ks = true ∧ PyData.depthAll ks ≤ 6 := by
  unfold keyN at h
  split at h
  · split at h
    · rename_i q; cases h; exact ⟨rfl, q⟩
    · cases h
  · cases h
@[simp] def dNNew : DE := fun _ m Q => ∀ a, m a = none → Q (.cel a) (updM m a (.n []))
theorem dn_empty {P : Program} {w : World} {H : Hp} {K : PySem.W.Frag} (h : Heap) (hb : sysModules < h.objs.size) : ObjOk P w H (h.push { cls := .type "dict", data := .dict #[] }) h.objs.size (.dN K []) :=
  ⟨Nat.zero_le _, by rw [beq_eq_false_iff_ne]; exact (Nat.ne_of_lt hb).symm, [], .nil, _, _, _, Heap.get?_push_size _ rfl, ⟨rfl, rfl, rfl⟩, rfl, rfl, List.nodup_nil⟩
theorem le_nnew : PE X (.Dict [] [] pos) (LE X.K dNNew) := by
  intro pins s σ H Q I h
  obtain ⟨Z, d, m, R, ok, rs, h, k⟩ := h
  have hp : H s.heap.objs.size = none := I.hok.fresh (Nat.le_refl _)
  have hk : X.K.lookup s.heap.objs.size = none := by
    cases e : X.K.lookup s.heap.objs.size with
    | none => rfl
    | some o => exact absurd (Heap.lt_size (I.kIn _ o e)) (Nat.lt_irrefl _)
  refine wpAny_Dict_empty ⟨.ref s.heap.objs.size, _, I.laid (a := s.heap.objs.size) (o := .dN X.K []) (t' := s.toks) (fun _ _ q => Heap.get?_push_of_some _ q) (Nat.le_refl _) (dn_empty s.heap I.big), rfl, ?_⟩
  exact k _ _ _ _ (h _ (ok_none ok hp).1) (Ext.cell ok hp hk) (ok.cell hp hk (show RC _ _ _ _ (.n []) (.dN X.K []) from ⟨rfl, rfl⟩)) ⟨rfl, by rw [updM_same]; rfl⟩
@[simp] def dNGet (fo fi : DE) : DE := fun d m Q => fo d m fun o m1 => fi d m1 fun y m2 => ∃ c ks kvs x, o = .cel c ∧ keyN y = some ks ∧ m2 c = some (.n kvs) ∧ valG kvs ks = some x ∧ (∀ b, x = .cel b → (m2 b).isSome = true) ∧ Q x m2
theorem le_nget (hu : X.A.units + 100 < cLine) (ho : PE X o (LE X.K fo)) (hi : PE X i (LE X.K fi)) (hs : NoSl i := by exact fun _ _ => rfl) : PE X (.Subscript o i pos) (LE X.K (dNGet fo fi)) := by
  intro pins s σ H Q I h
  obtain ⟨Z, d, m, R, ok, rs, h, k⟩ := h
  refine subD_of PySem.F.slot_dict_getitem.lookup hs (thn (ho pins s σ H (fun x H1 => ∃ (ox : D) (m1 : Mu), RD X.K Z m1 H1 ox x ∧ (fi d m1 fun y m2 => ∃ c ks kvs x, ox = .cel c ∧ keyN y = some ks ∧ m2 c = some (.n kvs) ∧ valG kvs ks = some x ∧ (∀ b, x = .cel b → (m2 b).isSome = true) ∧ R x m2) ∧ Ext X.K Z m H m1 H1 ∧ Ok X.K Z m1 H1) I
    ⟨Z, d, m, _, ok, rs, h, fun x m1 v H1 q e1 ok1 rd => ⟨x, m1, rd, q, e1, ok1⟩⟩) fun u s1 ⟨x, H1, I1, rx, ox, m1, rd, q, e1, ok1⟩ => ?_)
  refine thn (hi pins s1 σ H1 (fun y H2 => ∃ m2 c ks kvs w, x = .ref c ∧ RD X.K Z m2 H2 (.dat (.tuple ks)) y ∧ (L2.isKs ks = true ∧ PyData.depthAll ks ≤ 6) ∧ m2 c = some (.n kvs) ∧ valG kvs ks = some w ∧ (∀ b, w = .cel b → (m2 b).isSome = true) ∧ R w m2 ∧ Ext X.K Z m1 H1 m2 H2 ∧ Ok X.K Z m2 H2) I1
    ⟨Z, d, m1, _, ok1, rs.ext e1, q, fun y m2 v2 H2 ⟨c, ks, kvs, w, eo, ey, hm, hv, hc, q2⟩ e2 ok2 r2 => by subst eo; obtain ⟨rfl, hk⟩ := keyN_of ey; obtain ⟨rfl, _⟩ := rd; exact ⟨m2, c, ks, kvs, w, rfl, r2, hk, hm, hv, hc, q2, e2, ok2⟩⟩) fun iv s2 ⟨y, H2, I2, ry, m2, c, ks, kvs, w, ex, r2, hk, hm, hv, hc, q2, e2, ok2⟩ => ?_
  subst ex
  obtain rfl : u = Value.ref c := rx
  have r3 := RP.nkv (.tuple ks) y hk.1 r2
  have r4 := r3
  simp only [NKV] at r4
  obtain ⟨b, vs, rfl, _⟩ := r4
  obtain rfl : iv = Value.ref b := ry
  obtain ⟨ws, g1, g2⟩ := ok2.n hm
  obtain ⟨v, hv', rv⟩ := g2.val.1 _ hv
  obtain ⟨z, hd, xs, rel, dd⟩ := dn_of I2 g1
  obtain ⟨w', hw, rw'⟩ := RelO.some_of (v := v) (o := (atKey xs ks).map (·.2)) (by rw [← hv']; exact rel.val ks)
  obtain ⟨pr, hp, hp2⟩ := Option.map_eq_some_iff.mp hw
  refine ⟨dd.typeIs, wpAny_getItem_heap (nroom hu) (nkey_of I2 ⟨hk.1, hk.2, r3⟩) dd hp ?_⟩
  rw [hp2]
  exact ⟨v, H2, I2.tok _, rw', k _ m2 v H2 q2 (e1.trans e2) ok2 (rv.rd hc)⟩
@[simp] def dNPut (fo fi f : DE) : DS := fun E d m => f d m fun x m1 => fo d m1 fun o m2 => fi d m2 fun y m3 => ∃ c ks kvs, o = .cel c ∧ keyN y = some ks ∧ m3 c = some (.n kvs) ∧ kvs.length < sizeLine ∧ E.nx d (updM m3 c (.n (putG kvs ks x)))
theorem ls_nput (hu : X.A.units + 100 < cLine) (he : PE X e (LE X.K f)) (ho : PE X o (LE X.K fo)) (hi : PE X i (LE X.K fi)) (hs : swapsWith e (some (.Subscript o i tpos)) pos.line X.env = pure false := by rfl) :
    PS X (.Assign [.Subscript o i tpos] e pos) (LS X.K (dNPut fo fi f)) := by
  intro pins s σ H D I h
  obtain ⟨Z, d, m, R, ok, rs, h, k, _⟩ := h
  refine wpAny_Assign_Subscript (thn (he pins s σ H (fun v H1 => ∃ (x : DL.D) (m1 : Mu), RD X.K Z m1 H1 x v ∧ (fo d m1 fun o m2 => fi d m2 fun y m3 => ∃ c ks kvs, o = .cel c ∧ keyN y = some ks ∧ m3 c = some (.n kvs) ∧ kvs.length < sizeLine ∧ R.nx d (updM m3 c (.n (putG kvs ks x)))) ∧ Ext X.K Z m H m1 H1 ∧ Ok X.K Z m1 H1) I
    ⟨Z, d, m, _, ok, rs, h, fun x m1 v H1 q e1 ok1 rd => ⟨x, m1, rd, q, e1, ok1⟩⟩) fun r s1 ⟨v, H1, I1, rv, x, m1, rx, q, e1, ok1⟩ => ?_) hs
  refine thn (ho pins s1 σ H1 (fun w H2 => ∃ (ox : DL.D) (m2 : Mu), RD X.K Z m2 H2 ox w ∧ (fi d m2 fun y m3 => ∃ c ks kvs, ox = .cel c ∧ keyN y = some ks ∧ m3 c = some (.n kvs) ∧ kvs.length < sizeLine ∧ R.nx d (updM m3 c (.n (putG kvs ks x)))) ∧ Ext X.K Z m1 H1 m2 H2 ∧ Ok X.K Z m2 H2) I1
    ⟨Z, d, m1, _, ok1, rs.ext e1, q, fun o m2 w H2 q2 e2 ok2 r2 => ⟨o, m2, r2, q2, e2, ok2⟩⟩) fun u s2 ⟨w, H2, I2, rw2, ox, m2, ro, q2, e2, ok2⟩ => ?_
  refine thn (hi pins s2 σ H2 (fun z H3 => ∃ (y : DL.D) (m3 : Mu), RD X.K Z m3 H3 y z ∧ (∃ c ks kvs, ox = .cel c ∧ keyN y = some ks ∧ m3 c = some (.n kvs) ∧ kvs.length < sizeLine ∧ R.nx d (updM m3 c (.n (putG kvs ks x)))) ∧ Ext X.K Z m2 H2 m3 H3 ∧ Ok X.K Z m3 H3) I2
    ⟨Z, d, m2, _, ok2, (rs.ext e1).ext e2, q2, fun y m3 z H3 q3 e3 ok3 r3 => ⟨y, m3, r3, q3, e3, ok3⟩⟩) fun iv s3 ⟨z, H3, I3, rz, y, m3, ry, ⟨c, ks, kvs, eo, ey, hm, hl, q3⟩, e3, ok3⟩ => ?_
  subst eo
  obtain ⟨rfl, hk⟩ := keyN_of ey
  obtain ⟨rfl, _⟩ := ro
  obtain rfl : u = Value.ref c := rw2
  have r3 := RP.nkv (.tuple ks) z hk.1 ry
  have r4 := r3
  simp only [NKV] at r4
  obtain ⟨b, vs, rfl, _⟩ := r4
  obtain rfl : iv = Value.ref b := rz
  obtain ⟨ws, g1, g2⟩ := ok3.n hm
  obtain ⟨z, hd, xs, rel, dd⟩ := dn_of I3 g1
  have hz : xs.length ≤ sizeLine := by rw [← Paired.length rel]; exact z
  have hl2 : (putK ws ks v).length ≤ sizeLine := by have := length_putK ws ks v; rw [g2.length] at this; omega
  refine wpAny_setItem_heap (hsz := hz) (nroom hu) (nkey_of I3 ⟨hk.1, hk.2, r3⟩) dd fun h' dd' hs' => ?_
  obtain ⟨q, es, ep, hq, h2, h3, h4, _, h5⟩ := dd'
  have ht : ∀ b' xs', H3 b' = some (.tup xs') → upd H3 c (.dN X.K (putK ws ks v)) b' = some (.tup xs') := fun b' xs' e => by rw [upd_ne (ne_of e g1 (fun z => nomatch z))]; exact e
  have hf : ∀ b' ob u', H3 b' = some (.frz ob u') → upd H3 c (.dN X.K (putK ws ks v)) b' = some (.frz ob u') := fun b' ob u' e => by rw [upd_ne (ne_of e g1 (fun z => nomatch z))]; exact e
  refine ⟨σ, upd H3 c (.dN X.K (putK ws ks v)), d_write I3 (by rw [g1]; exact True.intro) hs' ⟨q, hq⟩ ⟨hl2, hd, _, Paired.mapP (rel.put ks ⟨hk.1, hk.2, r3⟩ rv) (fun p q z => ⟨z.1, ⟨z.2.1.1, z.2.1.2.1, NKV.stay ht hf _ _ z.2.1.2.2⟩, z.2.2⟩), q, es, ep, hq, h2, h3, h4, h5⟩, ?_⟩
  have e4 : Ext X.K Z m3 H3 (updM m3 c (.n (putG kvs ks x))) (upd H3 c (.dN X.K (putK ws ks v))) := Ext.put ok3 hm g1
  exact k d _ σ _ q3 (e1.trans (e2.trans (e3.trans e4))) (ok3.put hm g1 ⟨rfl, g2.put ((rx.ext (e2.trans e3)).rw)⟩) ((rs.ext e1).ext (e2.trans (e3.trans e4)))
@[simp] def aNotInN : D2
  | x, .cel c, m, Q => ∃ ks kvs, keyN x = some ks ∧ m c = some (.n kvs) ∧ Q (.dat (.bool (!(valG kvs ks).isSome))) m
  | _, _, _, _ => False
theorem od_notInN (hu : X.A.units + 100 < cLine) : OpD X (compareOp .NotIn) aNotInN := by
  intro pins s σ H Z m x y dx dy v u R Q I ok rx ry r1 r2 h k
  unfold aNotInN at h
  split at h
  · obtain ⟨ks, kvs, ey, hm, q⟩ := h
    obtain ⟨rfl, hk⟩ := keyN_of ey
    obtain ⟨rfl, _⟩ := r2
    obtain rfl := (show u = Value.ref _ from ry)
    have r3 := RP.nkv (.tuple ks) x hk.1 r1
    have r4 := r3
    simp only [NKV] at r4
    obtain ⟨b, vs, rfl, _⟩ := r4
    obtain rfl : v = Value.ref b := rx
    obtain ⟨ws, g1, g2⟩ := ok.n hm
    obtain ⟨z, hd, xs, rel, dd⟩ := dn_of I g1
    refine wpAny_notIn_heap (nroom hu) (nkey_of I ⟨hk.1, hk.2, r3⟩) hd dd ?_
    have e := (rel.val ks).isSome_eq
    rw [Option.isSome_map] at e
    rw [← e, ← (g2.val (k := ks)).2]
    exact ⟨.bl (!(valG kvs ks).isSome), H, I.tok _, rfl, k _ m _ H q Ext.refl ok .ofBl⟩
  · exact h.elim
@[simp] def bLenD : DC
  | [.cel a], m, Q => ∃ kvs, m a = some (.d kvs) ∧ Q (.dat (.int kvs.length)) m
  | _, _, _ => False
theorem cd_lenD : CallD X (.builtin "len") bLenD := by
  intro pins s σ H Z m xs ds us R Q I ok rv rd h k
  unfold bLenD at h
  split at h
  · obtain ⟨v, rfl, r1⟩ := rd.one
    obtain ⟨rfl, _⟩ := r1
    obtain ⟨kvs, hm, q⟩ := h
    obtain ⟨vs, h1, h2⟩ := ok.d hm
    cases rv with
    | cons r1 r2 =>
      cases r2
      obtain rfl := (show _ = Value.ref _ from r1)
      refine d_len I (.inl h1) fun t s' I' => ⟨.int vs.length, H, I', ⟨t, rfl⟩, ?_⟩
      rw [h2.length]
      exact k _ m _ H q Ext.refl ok .ofInt
  · exact h.elim
end
end DL
set_option Elab.async false
set_option linter.all false
set_option maxRecDepth 100000
set_option maxHeartbeats 4000000
namespace DL
open PySem PySem.Spec PyProof.Rows L2
structure QE (X : Cx) (e : Expr) (t : TE) : Prop where
  pe : PE X e t
structure QA (X : Cx) (e : List Expr) (t : TA) : Prop where
  pe : PA X e t
structure QT (X : Cx) (e : Expr) (t : TT) : Prop where
  pe : PT X e t
structure QW (X : Cx) (e : Expr) (t : TT) : Prop where
  pe : PW X e t
structure QS (X : Cx) (e : Stmt) (t : TS) : Prop where
  pe : PS X e t
structure QSs (X : Cx) (e : List Stmt) (t : TS) : Prop where
  pe : PSs X e t
structure QG (X : Cx) (e : Expr) (t : TG) : Prop where
  pe : PG X e t
structure QGs (X : Cx) (e : List Expr) (t : TGs) : Prop where
  pe : PGs X e t
structure QO (X : Cx) (e : Option Expr) (t : TO) : Prop where
  pe : PO X e t
structure QF (X : Cx) (e : List Expr) (t : TT) : Prop where
  pe : PF X e t
structure QI (X : Cx) (tg e : Expr) (t : TI) : Prop where
  pe : PI X tg e t
theorem QW.pt {X : Cx} {e : Expr} {t : TT} (h : QW X e t) : QT X e t := ⟨h.pe.pt⟩
section
variable {X : Cx} {pos : Pos}
theorem qle_var (i : Nat) {x : Str} (hN : X.N[i]? = some x := by rfl) (hv : Vis X.env.scope x := by first | exact Or.inl rfl | exact Or.inr (Or.inl rfl) | exact Or.inr (Or.inr rfl)) (hd : (x == ("__debug__" : Str)) = false := by decide) (hcd : (x == ("__classdict__" : Str)) = false := by decide) : QE X (.Name x pos) (LE X.K (dVar i)) := ⟨le_var (i := i) (hN := hN) (hv := hv) (hd := hd) (hcd := hcd)⟩
end
section
variable {X : Cx} {pos : Pos}
theorem qle_int {i : Int} {j : Nat} : QE X (.Constant (.int i) j pos) (LE X.K (dCon (.int i))) := ⟨le_int ⟩
end
section
variable {X : Cx} {pos : Pos}
theorem qle_bl {b : Bool} {j : Nat} : QE X (.Constant (.bool b) j pos) (LE X.K (dCon (.bool b))) := ⟨le_bl ⟩
end
section
variable {X : Cx} {pos : Pos}
theorem qle_non {j : Nat} : QE X (.Constant .none j pos) (LE X.K (dCon .none)) := ⟨le_non ⟩
end
section
variable {X : Cx} {pos : Pos}
theorem qle_str {x : Str} {j : Nat} : QE X (.Constant (.str x) j pos) (LE X.K (dCon (.str x))) := ⟨le_str ⟩
end
section
variable {X : Cx} {a b c : Expr} {f g : DE} {pos : Pos}
theorem qle_bin {op : Operator} {r : D2} (ho : OpD X (binaryOp op) r) (ha : QE X a (LE X.K f)) (hb : QE X b (LE X.K g)) : QE X (.BinOp a op b pos) (LE X.K (dBin r f g)) := ⟨le_bin (ho := ho) (ha := ha.pe) (hb := hb.pe)⟩
end
section
variable {X : Cx} {a b c : Expr} {f g : DE} {pos : Pos}
theorem qle_cmp {op : CmpOp} {r : D2} (ho : OpD X (compareOp op) r) (ha : QE X a (LE X.K f)) (hb : QE X b (LE X.K g)) (hm : behindInMarks op b = false := by exact nomark _) : QE X (.Compare a [op] [b] pos) (LE X.K (dBin r f g)) := ⟨le_cmp (ho := ho) (ha := ha.pe) (hb := hb.pe) (hm := hm)⟩
end
section
variable {X : Cx} {a b c : Expr} {f g : DE} {pos : Pos}
theorem qlt_cmp {op : CmpOp} {r : D2} (ho : OpD X (compareOp op) r) (ha : QE X a (LE X.K f)) (hb : QE X b (LE X.K g)) (hm : behindInMarks op b = false := by exact nomark _) : QT X (.Compare a [op] [b] pos) (LT X.K (dTst (dBin r f g))) := ⟨lt_cmp (ho := ho) (ha := ha.pe) (hb := hb.pe) (hm := hm)⟩
end
section
variable {X : Cx} {a b c : Expr} {f g : DE} {pos : Pos}
theorem qlt_val (h : QE X a (LE X.K f)) (he : ∀ whole, isTrue a X.env whole = (do let v ← whole; standAt a.pos; holding [v] (truthy v)) := by intro _; rfl) : QT X a (LT X.K (dTst f)) := ⟨lt_val (h := h.pe) (he := he)⟩
end
section
variable {X : Cx} {a b c : Expr} {rest : List Expr} {f g : DE} {t u : DT} {pos : Pos}
theorem qlw_and1 (ha : QT X a (LT X.K t)) : QW X (.BoolOp .And [a] pos) (LT X.K t) := ⟨lw_and1 (ha := ha.pe)⟩
end
section
variable {X : Cx} {a b c : Expr} {rest : List Expr} {f g : DE} {t u : DT} {pos : Pos}
theorem qlw_or1 (ha : QT X a (LT X.K t)) : QW X (.BoolOp .Or [a] pos) (LT X.K t) := ⟨lw_or1 (ha := ha.pe)⟩
end
section
variable {X : Cx} {a b c : Expr} {rest : List Expr} {f g : DE} {t u : DT} {pos : Pos}
theorem qlw_and (ha : QT X a (LT X.K t)) (hb : QW X (.BoolOp .And (b :: rest) pos) (LT X.K u)) : QW X (.BoolOp .And (a :: b :: rest) pos) (LT X.K (dAndT t u)) := ⟨lw_and (ha := ha.pe) (hb := hb.pe)⟩
end
section
variable {X : Cx} {a b c : Expr} {rest : List Expr} {f g : DE} {t u : DT} {pos : Pos}
theorem qlw_or (ha : QT X a (LT X.K t)) (hb : QW X (.BoolOp .Or (b :: rest) pos) (LT X.K u)) : QW X (.BoolOp .Or (a :: b :: rest) pos) (LT X.K (dOrT t u)) := ⟨lw_or (ha := ha.pe) (hb := hb.pe)⟩
end
section
variable {X : Cx} {a b c : Expr} {rest : List Expr} {f g : DE} {t u : DT} {pos : Pos}
end
section
variable {X : Cx} {a b c : Expr} {rest : List Expr} {f g : DE} {t u : DT} {pos : Pos}
theorem qle_one {op : BoolOp} (h : QE X a (LE X.K f)) : QE X (.BoolOp op [a] pos) (LE X.K f) := ⟨le_one (h := h.pe)⟩
end
section
variable {X : Cx} {a b c : Expr} {rest : List Expr} {f g : DE} {t u : DT} {pos : Pos}
theorem qle_and (ha : QE X a (LE X.K f)) (hb : QE X (.BoolOp .And (b :: rest) pos) (LE X.K g)) : QE X (.BoolOp .And (a :: b :: rest) pos) (LE X.K (dAnd f g)) := ⟨le_and (ha := ha.pe) (hb := hb.pe)⟩
end
section
variable {X : Cx} {a b c : Expr} {rest : List Expr} {f g : DE} {t u : DT} {pos : Pos}
end
section
variable {X : Cx} {a b c : Expr} {rest : List Expr} {f g : DE} {t u : DT} {pos : Pos}
end
section
variable {X : Cx} {a b c : Expr} {rest : List Expr} {f g : DE} {t u : DT} {pos : Pos}
theorem qle_ite (hc : QT X c (LT X.K t)) (ha : QE X a (LE X.K f)) (hb : QE X b (LE X.K g)) : QE X (.IfExp c a b pos) (LE X.K (dIte t f g)) := ⟨le_ite (hc := hc.pe) (ha := ha.pe) (hb := hb.pe)⟩
end
section
variable {X : Cx} {e : Expr} {es : List Expr} {f : DE} {g : DA} {pos : Pos}
theorem qla_nil  : QA X [] (LA X.K dNil) := ⟨la_nil ⟩
end
section
variable {X : Cx} {e : Expr} {es : List Expr} {f : DE} {g : DA} {pos : Pos}
theorem qla_cons (ha : QE X e (LE X.K f)) (hr : QA X es (LA X.K g)) (hs : starEach (e :: es) X.env = (false, eval e X.env) :: starEach es X.env := by rfl) : QA X (e :: es) (LA X.K (dCons f g)) := ⟨la_cons (ha := ha.pe) (hr := hr.pe) (hs := hs)⟩
end
section
variable {X : Cx} {e : Expr} {es : List Expr} {f : DE} {g : DA} {pos : Pos}
theorem qle_tup {j : Nat} (h : QA X es (LA X.K g)) : QE X (.Tuple es j pos) (LE X.K (dTup g)) := ⟨le_tup (h := h.pe)⟩
end
section
variable {X : Cx} {e : Expr} {es : List Expr} {f : DE} {g : DA} {pos : Pos}
theorem qle_lst (h : QA X es (LA X.K g)) : QE X (.List es pos) (LE X.K (dLst g)) := ⟨le_lst (h := h.pe)⟩
end
section
variable {X : Cx} {e : Expr} {es : List Expr} {f : DE} {g : DA} {pos : Pos}
theorem qle_lstC (h : QA X es (LA X.K g)) : QE X (.List es pos) (LE X.K (dLstC g)) := ⟨le_lstC (h := h.pe)⟩
end
section
variable {X : Cx} {a b c e : Expr} {es : List Expr} {f g : DE} {ga : DA} {pos p2 p : Pos}
end
section
variable {X : Cx} {a b c e : Expr} {es : List Expr} {f g : DE} {ga : DA} {pos p2 p : Pos}
theorem qle_ix (ha : QE X a (LE X.K f)) (hb : QE X b (LE X.K g)) (hs : PlainIx b := by exact fun _ _ => rfl) : QE X (.Subscript a b pos) (LE X.K (dBin aIx f g)) := ⟨le_ix (ha := ha.pe) (hb := hb.pe) (hs := hs)⟩
end
section
variable {X : Cx} {a b c e : Expr} {es : List Expr} {f g : DE} {ga : DA} {pos p2 p : Pos}
theorem qlo_none  : QO X none (LO X.K dNoP) := ⟨lo_none ⟩
end
section
variable {X : Cx} {a b c e : Expr} {es : List Expr} {f g : DE} {ga : DA} {pos p2 p : Pos}
theorem qlo_some (ha : QE X a (LE X.K f)) : QO X (some a) (LO X.K (dPart f)) := ⟨lo_some (ha := ha.pe)⟩
end
section
variable {X : Cx} {a b c e : Expr} {es : List Expr} {f g : DE} {ga : DA} {pos p2 p : Pos}
end
section
variable {X : Cx} {a b c e : Expr} {es : List Expr} {f g : DE} {ga : DA} {pos p2 p : Pos}
theorem qle_callB {x : Str} {id : String} {r : DC} (hc : CallD X (.builtin id) r) (hg : Gl X x) (hm : X.mg x = none) (hv : bootBuiltins x = some (.builtin id)) (ha : QA X (e :: es) (LA X.K ga)) (hn : x ≠ "__name__" := by decide) (hdb : (x == ("__debug__" : Str)) = false := by decide) (he : starEach (e :: es) X.env = (false, eval e X.env) :: starEach es X.env := by rfl) (hpl : (backTo pos (starEach es X.env)).any (·.1) = false := by rfl) : QE X (.Call (.Name x p) (e :: es) [] pos) (LE X.K (dCallB r ga)) := ⟨le_callB (hc := hc) (hg := hg) (hm := hm) (hv := hv) (ha := ha.pe) (hn := hn) (hdb := hdb) (he := he) (hpl := hpl)⟩
end
section
variable {X : Cx} {a b c e : Expr} {es : List Expr} {f g : DE} {ga : DA} {pos p2 p : Pos}
theorem qle_callTy {x : Str} {T : String} {r : DC} (hc : CallD X (.type T) r) (hg : Gl X x) (hm : X.mg x = none) (hv : bootBuiltins x = some (.type T)) (ha : QA X (e :: es) (LA X.K ga)) (hn : x ≠ "__name__" := by decide) (hdb : (x == ("__debug__" : Str)) = false := by decide) (he : starEach (e :: es) X.env = (false, eval e X.env) :: starEach es X.env := by rfl) (hpl : (backTo pos (starEach es X.env)).any (·.1) = false := by rfl) : QE X (.Call (.Name x p) (e :: es) [] pos) (LE X.K (dCallB r ga)) := ⟨le_callTy (hc := hc) (hg := hg) (hm := hm) (hv := hv) (ha := ha.pe) (hn := hn) (hdb := hdb) (he := he) (hpl := hpl)⟩
end
section
variable {X : Cx} {st : Stmt} {rest body orelse : List Stmt} {t u b : DS} {e c tg iter : Expr} {f : DE} {tc : DT} {pos : Pos}
theorem qlss_nil  : QSs X [] (LS X.K dNext) := ⟨lss_nil ⟩
end
section
variable {X : Cx} {st : Stmt} {rest body orelse : List Stmt} {t u b : DS} {e c tg iter : Expr} {f : DE} {tc : DT} {pos : Pos}
theorem qlss_cons (h1 : QS X st (LS X.K t)) (h2 : QSs X rest (LS X.K u)) : QSs X (st :: rest) (LS X.K (dSeq t u)) := ⟨lss_cons (h1 := h1.pe) (h2 := h2.pe)⟩
end
section
variable {X : Cx} {st : Stmt} {rest body orelse : List Stmt} {t u b : DS} {e c tg iter : Expr} {f : DE} {tc : DT} {pos : Pos}
end
section
variable {X : Cx} {st : Stmt} {rest body orelse : List Stmt} {t u b : DS} {e c tg iter : Expr} {f : DE} {tc : DT} {pos : Pos}
end
section
variable {X : Cx} {st : Stmt} {rest body orelse : List Stmt} {t u b : DS} {e c tg iter : Expr} {f : DE} {tc : DT} {pos : Pos}
theorem qls_ret (he : QE X e (LE X.K f)) : QS X (.Return (some e) pos) (LS X.K (dRet f)) := ⟨ls_ret (he := he.pe)⟩
end
section
variable {X : Cx} {st : Stmt} {rest body orelse : List Stmt} {t u b : DS} {e c tg iter : Expr} {f : DE} {tc : DT} {pos : Pos}
theorem qls_if (hc : QT X c (LT X.K tc)) (h1 : QSs X body (LS X.K t)) (h2 : QSs X orelse (LS X.K u)) : QS X (.If c body orelse pos) (LS X.K (dIf tc t u)) := ⟨ls_if (hc := hc.pe) (h1 := h1.pe) (h2 := h2.pe)⟩
end
section
variable {X : Cx} {st : Stmt} {rest body orelse : List Stmt} {t u b : DS} {e c tg iter : Expr} {f : DE} {tc : DT} {pos : Pos}
theorem qls_set (i : Nat) {x : Str} {pos' : Pos} (hN : X.N.Nodup) (he : QE X e (LE X.K f)) (hi : X.N[i]? = some x := by rfl) (hx : Loc X.env.scope x := by first | exact Or.inl rfl | exact Or.inr rfl) (hs : swapsWith e (some (.Name x pos')) pos.line X.env = pure false := by rfl) (hf : X.fn x = true ∨ X.env.scope.names.lookup x = some .local := by first | exact .inl rfl | exact .inr rfl) : QS X (.Assign [.Name x pos'] e pos) (LS X.K (dSet i f)) := ⟨ls_set (i := i) (hN := hN) (he := he.pe) (hi := hi) (hx := hx) (hs := hs) (hf := hf)⟩
end
section
variable {X : Cx} {st : Stmt} {rest body orelse : List Stmt} {t u b : DS} {e c tg iter : Expr} {f : DE} {tc : DT} {pos : Pos}
theorem qlg_name (i : Nat) {x : Str} (hN : X.N.Nodup) (hi : X.N[i]? = some x := by rfl) (hx : Loc X.env.scope x := by first | exact Or.inl rfl | exact Or.inr rfl) (hf : X.fn x = true ∨ X.env.scope.names.lookup x = some .local := by first | exact .inl rfl | exact .inr rfl) : QG X (.Name x pos) (LG X.K (gN i)) := ⟨lg_name (i := i) (hN := hN) (hi := hi) (hx := hx) (hf := hf)⟩
end
section
variable {X : Cx} {st : Stmt} {rest body orelse : List Stmt} {t u b : DS} {e c tg iter : Expr} {f : DE} {tc : DT} {pos : Pos}
theorem qlgs_nil  : QGs X [] (LGs X.K gN0) := ⟨lgs_nil ⟩
end
section
variable {X : Cx} {st : Stmt} {rest body orelse : List Stmt} {t u b : DS} {e c tg iter : Expr} {f : DE} {tc : DT} {pos : Pos}
theorem qlgs_cons {es : List Expr} {g : DG} {r : DGs} (h1 : QG X e (LG X.K g)) (h2 : QGs X es (LGs X.K r)) (hs : (assignEach (e :: es) X.env).map (·.2) = assign e X.env :: (assignEach es X.env).map (·.2) := by rfl) : QGs X (e :: es) (LGs X.K (gNs g r)) := ⟨lgs_cons (h1 := h1.pe) (h2 := h2.pe) (hs := hs)⟩
end
section
variable {X : Cx} {st : Stmt} {rest body orelse : List Stmt} {t u b : DS} {e c tg iter : Expr} {f : DE} {tc : DT} {pos : Pos}
theorem qlg_tup {es : List Expr} {j n : Nat} {g : DGs} (hc : X.calm = true) (h : QGs X es (LGs X.K g)) (hn : (assignEach es X.env).length = n := by rfl) (hst : (assignEach es X.env).findIdx? (·.1) = none := by rfl) : QG X (.Tuple es j pos) (LG X.K (gT n g)) := ⟨lg_tup (hc := hc) (h := h.pe) (hn := hn) (hst := hst)⟩
end
section
variable {X : Cx} {st : Stmt} {rest body orelse : List Stmt} {t u b : DS} {e c tg iter : Expr} {f : DE} {tc : DT} {pos : Pos}
theorem qls_asg {g : DG} (he : QE X e (LE X.K f)) (hg : QG X tg (LG X.K g)) (hs : swapsWithSole [tg] e pos.line X.env = pure false := by rfl) (hw : swappedStores [tg] e X.env = pure none := by rfl) (h1 : (assignEach [tg] X.env).map (·.2) = [assign tg X.env] := by rfl) : QS X (.Assign [tg] e pos) (LS X.K (dAsg f g)) := ⟨ls_asg (he := he.pe) (hg := hg.pe) (hs := hs) (hw := hw) (h1 := h1)⟩
end
section
variable {X : Cx} {st : Stmt} {rest body orelse : List Stmt} {t u b : DS} {e c tg iter : Expr} {f : DE} {tc : DT} {pos : Pos}
end
section
variable {X : Cx} {st : Stmt} {rest body orelse : List Stmt} {t u b : DS} {e c tg iter : Expr} {f : DE} {tc : DT} {pos : Pos}
theorem qls_put {o i : Expr} {fo fi : DE} {tpos : Pos} (he : QE X e (LE X.K f)) (ho : QE X o (LE X.K fo)) (hi : QE X i (LE X.K fi)) (ha : ∀ v, assign (.Subscript o i tpos) X.env v = (do
      let ov ← holding [v] (eval o X.env)
      let iv ← holding [v, ov] (eval i X.env)
      standAt tpos
      holding [v, ov, iv] (setItem ov iv v)
      release [v, ov, iv] []) := by intro _; rfl) (hs : swapsWithSole [.Subscript o i tpos] e pos.line X.env = pure false := by rfl) (hw : swappedStores [.Subscript o i tpos] e X.env = pure none := by rfl) (h1 : (assignEach [.Subscript o i tpos] X.env).map (·.2) = [assign (.Subscript o i tpos) X.env] := by rfl) : QS X (.Assign [.Subscript o i tpos] e pos) (LS X.K (dPut fo fi f)) := ⟨ls_put (he := he.pe) (ho := ho.pe) (hi := hi.pe) (ha := ha) (hs := hs) (hw := hw) (h1 := h1)⟩
end
section
variable {X : Cx} {st : Stmt} {rest body orelse : List Stmt} {t u b : DS} {e c tg iter : Expr} {f : DE} {tc : DT} {pos : Pos}
end
section
variable {X : Cx} {st : Stmt} {rest body orelse : List Stmt} {t u b : DS} {e c tg iter : Expr} {f : DE} {tc : DT} {pos : Pos}
theorem qli_seq (ha : QE X e (LE X.K f)) : QI X tg e (LI X.K (dSeqI f)) := ⟨li_seq (ha := ha.pe)⟩
end
section
variable {X : Cx} {st : Stmt} {rest body orelse : List Stmt} {t u b : DS} {e c tg iter : Expr} {f : DE} {tc : DT} {pos : Pos}
theorem qli_range {p : Pos} (hg : Gl X "range") (hm : X.mg "range" = none) (ha : QE X e (LE X.K f)) (hs : starEach [e] X.env = [(false, eval e X.env)] := by rfl) : QI X tg (.Call (.Name "range" p) [e] [] pos) (LI X.K (dRngI f)) := ⟨li_range (hg := hg) (hm := hm) (ha := ha.pe) (hs := hs)⟩
end
section
variable {X : Cx} {st : Stmt} {rest body orelse : List Stmt} {t u b : DS} {e c tg iter : Expr} {f : DE} {tc : DT} {pos : Pos}
theorem qls_for {fi : DI} {g : DG} (hp : PassesOwn (model X.prog X.w) X.A X.env X.xe) (hc : X.calm = true) (hi : QI X tg iter (LI X.K fi)) (hg : QG X tg (LG X.K g)) (hb : QSs X body (LS X.K b)) (hs : ∀ x, foldedSetIterable iter X.env x = pure x := by intro _; rfl) : QS X (.For tg iter body [] pos) (LS X.K (dFor fi g b)) := ⟨ls_for (hp := hp) (hc := hc) (hi := hi.pe) (hg := hg.pe) (hb := hb.pe) (hs := hs)⟩
end
section
variable {X : Cx} {a e : Expr} {es : List Expr} {f : DE} {ga : DA} {pos p p1 p2 p3 p4 : Pos}
end
section
variable {X : Cx} {a e : Expr} {es : List Expr} {f : DE} {ga : DA} {pos p p1 p2 p3 p4 : Pos}
theorem qle_isi {T : Str} {c : String} (hg : Gl X "isinstance") (hm : X.mg "isinstance" = none) (hgT : Gl X T) (hmT : X.mg T = none) (hv : bootBuiltins T = some (.type c)) (hc : c = "int" ∨ c = "bool" ∨ c = "str" ∨ c = "tuple" ∨ c = "list") (ha : QE X a (LE X.K f)) (hn : T ≠ "__name__" := by decide) (hd : (T == ("__debug__" : Str)) = false := by decide) (he : starEach [a, .Name T p2] X.env = (false, eval a X.env) :: starEach [.Name T p2] X.env := by rfl) : QE X (.Call (.Name "isinstance" p1) [a, .Name T p2] [] pos) (LE X.K (dIsi f c)) := ⟨le_isi (hg := hg) (hm := hm) (hgT := hgT) (hmT := hmT) (hv := hv) (hc := hc) (ha := ha.pe) (hn := hn) (hd := hd) (he := he)⟩
end
section
variable {X : Cx} {a e : Expr} {es : List Expr} {f : DE} {ga : DA} {pos p p1 p2 p3 p4 : Pos}
end
section
variable {X : Cx} {a e : Expr} {es : List Expr} {f : DE} {ga : DA} {pos p p1 p2 p3 p4 : Pos}
theorem qle_call {k n : Nat} {fa : Addr} {fd : FuncData} {ps : List Str} {sp : DC} {x : Str} (F : FnOk X.prog X.w X.K X.mg X.base CX0 k fa fd ps (LSp X.K n sp)) (hr : Room k X.A) (hm : X.mg x = some (.ref fa)) (hk : PySem.W.keepIn X.K (.ref fa) = true) (hb : Binds X.K fd ps []) (hx : X.xe = fun _ _ => False) (ha : QA X (e :: es) (LA X.K ga)) (hg : Gl X x := by rfl) (hdb : (x == ("__debug__" : Str)) = false := by decide) (he : starEach (e :: es) X.env = (false, eval e X.env) :: starEach es X.env := by rfl) (hpl : (backTo pos (starEach es X.env)).any (·.1) = false := by rfl) : QE X (.Call (.Name x p) (e :: es) [] pos) (LE X.K (dCall n sp ga)) := ⟨le_call (F := F) (hr := hr) (hm := hm) (hk := hk) (hb := hb) (hx := hx) (ha := ha.pe) (hg := hg) (hdb := hdb) (he := he) (hpl := hpl)⟩
end
section
theorem qpf_nil {Y : Cx} : QF Y [] (LT Y.K dTrue) := ⟨pf_nil ⟩
end
section
theorem qpf_one {Y : Cx} {c : Expr} {t : TT} (h : QT Y c t) : QF Y [c] t := ⟨pf_one (h := h.pe)⟩
end
section
variable {X : Cx} {a e o : Expr} {es : List Expr} {f g : DE} {ga : DA} {pos p p1 p2 : Pos}
theorem qle_cst {x : Str} {c : Addr} {zs : List Str} (hg : Gl X x) (hm : X.mg x = some (.ref c)) (hk : KT X.K c zs) (hd : (x == ("__debug__" : Str)) = false := by decide) : QE X (.Name x pos) (LE X.K (dCon (.tuple (zs.map .str)))) := ⟨le_cst (hg := hg) (hm := hm) (hk := hk) (hd := hd)⟩
end
section
variable {X : Cx} {a e o : Expr} {es : List Expr} {f g : DE} {ga : DA} {pos p p1 p2 : Pos}
end
section
variable {X : Cx} {a e o : Expr} {es : List Expr} {f g : DE} {ga : DA} {pos p p1 p2 : Pos}
end
section
variable {X : Cx} {tg iter elt : Expr} {ifs : List Expr} {scope : Scope} {fi : DI} {g : DG} {t : DT} {f : DE} {pos : Pos}
theorem qle_lcB (NC : List Str) (src : List (Option Nat)) (hc : X.calm = true) (hi : QI X tg iter (LI X.K fi)) (hg : ∀ cl C s2 H2 pins fp, QG (cyOf X scope cl C NC s2 H2 pins fp) tg (LG X.K g)) (ht : ∀ cl C s2 H2 pins fp, QF (cyOf X scope cl C NC s2 H2 pins fp) ifs (LT X.K t)) (he : ∀ cl C s2 H2 pins fp, QE (cyOf X scope cl C NC s2 H2 pins fp) elt (LE X.K f)) (hkind : scope.kind = .function := by rfl) (hB : chkB scope X.env = true := by rfl) (hS : chkS X.N scope X.env NC src = true := by rfl) (hs : ∀ x, foldedSetIterable iter X.env x = pure x := by intro _; rfl) : QE X (.ListComp elt [⟨tg, iter, ifs, 0⟩] scope pos) (LE X.K (dLC src fi g t f)) := ⟨le_lcB (NC := NC) (src := src) (hc := hc) (hi := hi.pe) (hg := fun cl C s2 H2 pins fp => (hg cl C s2 H2 pins fp).pe) (ht := fun cl C s2 H2 pins fp => (ht cl C s2 H2 pins fp).pe) (he := fun cl C s2 H2 pins fp => (he cl C s2 H2 pins fp).pe) (hkind := hkind) (hB := hB) (hS := hS) (hs := hs)⟩
end
section
variable {X : Cx} {tg iter elt : Expr} {ifs : List Expr} {scope : Scope} {fi : DI} {g : DG} {t : DT} {f : DE} {pos : Pos}
end
section
variable {X : Cx} {tg iter elt : Expr} {ifs : List Expr} {scope : Scope} {fi : DI} {g : DG} {t : DT} {f : DE} {pos : Pos}
theorem qls_lcB (i : Nat) {y : Str} {py spos : Pos} (NC : List Str) (src : List (Option Nat)) (hc : X.calm = true) (hN : X.N.Nodup) (hi : QI X tg iter (LI X.K fi)) (hg : ∀ cl C s2 H2 pins fp, QG (cyOf X scope cl C NC s2 H2 pins fp) tg (LG X.K g)) (ht : ∀ cl C s2 H2 pins fp, QF (cyOf X scope cl C NC s2 H2 pins fp) ifs (LT X.K t)) (he : ∀ cl C s2 H2 pins fp, QE (cyOf X scope cl C NC s2 H2 pins fp) elt (LE X.K f)) (hkind : scope.kind = .function := by rfl) (hB : chkB scope X.env = true := by rfl) (hS : chkS X.N scope X.env NC src = true := by rfl) (hi2 : X.N[i]? = some y := by rfl) (hx : Loc X.env.scope y := by first | exact Or.inl rfl | exact Or.inr rfl) (hf : X.fn y = true ∨ X.env.scope.names.lookup y = some .local := by first | exact .inl rfl | exact .inr rfl) (hsw : swapsWith (.ListComp elt [⟨tg, iter, ifs, 0⟩] scope pos) (some (.Name y py)) spos.line X.env = pure true := by rfl) (hs : ∀ x, foldedSetIterable iter X.env x = pure x := by intro _; rfl) : QS X (.Assign [.Name y py] (.ListComp elt [⟨tg, iter, ifs, 0⟩] scope pos) spos) (LS X.K (dSet i (dLC src fi g t f))) := ⟨ls_lcB (i := i) (NC := NC) (src := src) (hc := hc) (hN := hN) (hi := hi.pe) (hg := fun cl C s2 H2 pins fp => (hg cl C s2 H2 pins fp).pe) (ht := fun cl C s2 H2 pins fp => (ht cl C s2 H2 pins fp).pe) (he := fun cl C s2 H2 pins fp => (he cl C s2 H2 pins fp).pe) (hkind := hkind) (hB := hB) (hS := hS) (hi2 := hi2) (hx := hx) (hf := hf) (hsw := hsw) (hs := hs)⟩
end
section
variable {X : Cx} {a b : Expr} {elts : List Expr} {j : Nat} {f g : DE} {pos p p2 : Pos}
theorem qli_zip (hg : Gl X "zip") (hm : X.mg "zip" = none) (ha : QE X a (LE X.K f)) (hb : QE X b (LE X.K g)) (hs : starEach [a, b] X.env = [(false, eval a X.env), (false, eval b X.env)] := by rfl) (hs2 : starEach [b] X.env = [(false, eval b X.env)] := by rfl) : QI X (.Tuple elts j p2) (.Call (.Name "zip" p) [a, b] [] pos) (LI X.K (dZipI f g)) := ⟨li_zip (hg := hg) (hm := hm) (ha := ha.pe) (hb := hb.pe) (hs := hs) (hs2 := hs2)⟩
end
section
variable {X : Cx} {a e o : Expr} {es : List Expr} {f g : DE} {ga : DA} {pos p p1 p2 : Pos}
end
section
variable {X : Cx} {a e o : Expr} {es : List Expr} {f g : DE} {ga : DA} {pos p p1 p2 : Pos}
end
section
variable {X : Cx} {a e o : Expr} {es : List Expr} {f g : DE} {ga : DA} {pos p p1 p2 : Pos}
theorem qle_slX {lo hi : Option Expr} {tl th : DO} (ha : QE X a (LE X.K f)) (hl : QO X lo (LO X.K tl)) (hu : QO X hi (LO X.K th)) : QE X (.Subscript a (.Slice lo hi none p2) pos) (LE X.K (dSlX f tl th)) := ⟨le_slX (ha := ha.pe) (hl := hl.pe) (hu := hu.pe)⟩
end
section
variable {X : Cx} {o i e : Expr} {fo fi f : DE} {pos tpos : Pos}
theorem qle_dnew  : QE X (.Dict [] [] pos) (LE X.K dDNew) := ⟨le_dnew ⟩
end
section
variable {X : Cx} {o i e : Expr} {fo fi f : DE} {pos tpos : Pos}
theorem qls_dput (hu : X.A.units + 100 < cLine) (he : QE X e (LE X.K f)) (ho : QE X o (LE X.K fo)) (hi : QE X i (LE X.K fi)) (hs : swapsWith e (some (.Subscript o i tpos)) pos.line X.env = pure false := by rfl) : QS X (.Assign [.Subscript o i tpos] e pos) (LS X.K (dDPut fo fi f)) := ⟨ls_dput (hu := hu) (he := he.pe) (ho := ho.pe) (hi := hi.pe) (hs := hs)⟩
end
section
variable {X : Cx} {o i e : Expr} {fo fi f : DE} {pos tpos : Pos}
end
section
variable {X : Cx} {e : Expr} {f : DE} {pos p p2 pos2 : Pos}
end
section
variable {X : Cx} {i e g : Expr} {fi f fg : DE} {p pos apos cpos : Pos}
theorem qle_dgetC {x : Str} {c : Addr} {kvs : List (Str × PyData)} (hg : Gl X x) (hm : X.mg x = some (.ref c)) (hk : KD X.K X.w c kvs) (hi : QE X i (LE X.K fi)) (hd : (x == ("__debug__" : Str)) = false := by decide) (hs : NoSl i := by exact fun _ _ => rfl) : QE X (.Subscript (.Name x p) i pos) (LE X.K (dDGetC kvs fi)) := ⟨le_dgetC (hg := hg) (hm := hm) (hk := hk) (hi := hi.pe) (hd := hd) (hs := hs)⟩
end
section
variable {X : Cx} {i e g : Expr} {fi f fg : DE} {p pos apos cpos : Pos}
end
section
variable {X : Cx} {e g : Expr} {f fg : DE} {tg : Expr} {pos : Pos}
end
section
variable {X : Cx} {o i e : Expr} {es : List Expr} {fo f : DE} {fa : DA} {pos tpos ipos : Pos} {j : Nat}
end
section
variable {X : Cx} {o i e : Expr} {es : List Expr} {fo f : DE} {fa : DA} {pos tpos ipos : Pos} {j : Nat}
end
section
variable {X : Cx} {o i e : Expr} {es : List Expr} {fo f : DE} {fa : DA} {pos tpos ipos : Pos} {j : Nat}
end
section
variable {X : Cx} {e : Expr} {f : DE} {pos p : Pos}
end
section
variable {X : Cx} {tg iter tg2 iter2 elt : Expr} {ifs ifs2 : List Expr} {scope : Scope} {NC : List Str} {fi fi2 : DI} {g g2 : DG} {t t2 : DT} {f : DE} {pos : Pos}
end
section
variable {X : Cx} {tg iter tg2 iter2 elt : Expr} {ifs ifs2 : List Expr} {scope : Scope} {NC : List Str} {fi fi2 : DI} {g g2 : DG} {t t2 : DT} {f : DE} {pos : Pos}
theorem qle_lc2B (NC : List Str) (src : List (Option Nat)) (hc : X.calm = true) (hi : QI X tg iter (LI X.K fi)) (hg : ∀ cl C s2 H2 pins fp, QG (cyOf X scope cl C NC s2 H2 pins fp) tg (LG X.K g)) (ht : ∀ cl C s2 H2 pins fp, QF (cyOf X scope cl C NC s2 H2 pins fp) ifs (LT X.K t)) (hi2 : ∀ cl C s2 H2 pins fp, QI (cyOf X scope cl C NC s2 H2 pins fp) tg2 iter2 (LI X.K fi2)) (hg2 : ∀ cl C s2 H2 pins fp, QG (cyOf X scope cl C NC s2 H2 pins fp) tg2 (LG X.K g2)) (ht2 : ∀ cl C s2 H2 pins fp, QF (cyOf X scope cl C NC s2 H2 pins fp) ifs2 (LT X.K t2)) (he : ∀ cl C s2 H2 pins fp, QE (cyOf X scope cl C NC s2 H2 pins fp) elt (LE X.K f)) (hkind : scope.kind = .function := by rfl) (hB : chkB scope X.env = true := by rfl) (hS : chkS X.N scope X.env NC src = true := by rfl) (hs2 : ∀ cl C x, foldedSetIterable iter2 (compEnvC scope cl C X.env) x = pure x := by intro _ _ _; rfl) (hs : ∀ x, foldedSetIterable iter X.env x = pure x := by intro _; rfl) : QE X (.ListComp elt [⟨tg, iter, ifs, 0⟩, ⟨tg2, iter2, ifs2, 0⟩] scope pos) (LE X.K (dLC2 src fi g t fi2 g2 t2 f)) := ⟨le_lc2B (NC := NC) (src := src) (hc := hc) (hi := hi.pe) (hg := fun cl C s2 H2 pins fp => (hg cl C s2 H2 pins fp).pe) (ht := fun cl C s2 H2 pins fp => (ht cl C s2 H2 pins fp).pe) (hi2 := fun cl C s2 H2 pins fp => (hi2 cl C s2 H2 pins fp).pe) (hg2 := fun cl C s2 H2 pins fp => (hg2 cl C s2 H2 pins fp).pe) (ht2 := fun cl C s2 H2 pins fp => (ht2 cl C s2 H2 pins fp).pe) (he := fun cl C s2 H2 pins fp => (he cl C s2 H2 pins fp).pe) (hkind := hkind) (hB := hB) (hS := hS) (hs2 := hs2) (hs := hs)⟩
end
section
variable {X : Cx} {e g : Expr} {fi fg : DE} {p apos cpos : Pos}
theorem qle_tget2C {x : Str} {c : Addr} {kvs : List (List Str × PyData)} (hu : X.A.units + 100 < cLine) (hg : Gl X x) (hm : X.mg x = some (.ref c)) (hk : KTD X.K X.w c kvs) (he : QE X e (LE X.K fi)) (hf : QE X g (LE X.K fg)) (hd : (x == ("__debug__" : Str)) = false := by decide) (hbase : attributeBase (.Name x p) "get" X.env (eval (.Name x p) X.env) = eval (.Name x p) X.env := by rfl) (hfew : ((backTo cpos (starEach [e, g] X.env)).all (fun x => !x.1) && (backToKw cpos (keywordEach [] X.env)).all (fun x => x.1.isSome) && decide (([e, g] : List Expr).length + ([] : List Keyword).length + (if ([] : List Keyword).isEmpty then 0 else 1) < 30)) = true := by rfl) (hline : (apos.endLine == cpos.line) = true := by rfl) (hs : backTo cpos (starEach [e, g] X.env) = [(false, eval e X.env), (false, eval g X.env)] := by rfl) : QE X (.Call (.Attribute (.Name x p) "get" apos) [e, g] [] cpos) (LE X.K (dTGet2C kvs fi fg)) := ⟨le_tget2C (hu := hu) (hg := hg) (hm := hm) (hk := hk) (he := he.pe) (hf := hf.pe) (hd := hd) (hbase := hbase) (hfew := hfew) (hline := hline) (hs := hs)⟩
end
section
variable {X : Cx} {o e : Expr} {f g : DE} {apos cpos : Pos}
end
section
variable {X : Cx} {o e : Expr} {f g : DE} {apos cpos : Pos}
end
section
variable {X : Cx} {a : Expr} {f : DE} {pos p2 : Pos}
end
section
variable {X : Cx} {a : Expr} {elts : List Expr} {j : Nat} {f : DE} {pos p p2 : Pos}
end
section
variable {X : Cx} {a : Expr} {elts : List Expr} {j : Nat} {f : DE} {pos p p2 : Pos}
end
section
variable {X : Cx} {a b : Expr} {elts : List Expr} {j : Nat} {f g : DE} {pos p p2 : Pos}
theorem qli_zipL (hg : Gl X "zip") (hm : X.mg "zip" = none) (ha : QE X a (LE X.K f)) (hb : QE X b (LE X.K g)) (hs : starEach [a, b] X.env = [(false, eval a X.env), (false, eval b X.env)] := by rfl) (hs2 : starEach [b] X.env = [(false, eval b X.env)] := by rfl) : QI X (.Tuple elts j p2) (.Call (.Name "zip" p) [a, b] [] pos) (LI X.K (dZipL f g)) := ⟨li_zipL (hg := hg) (hm := hm) (ha := ha.pe) (hb := hb.pe) (hs := hs) (hs2 := hs2)⟩
end
section
variable {X : Cx} {a : Expr} {f : DE} {pos p2 : Pos}
end
section
variable {X : Cx} {e : Expr} {f : DE} {pos p : Pos}
end
section
variable {X : Cx} {a b : Expr} {f g : DE} {pos p p2 pos2 : Pos}
end
section
variable {X : Cx} {o e : Expr} {f g : DE}
end
section
variable {X : Cx} {o e : Expr} {f g : DE}
end
section
variable {X : Cx} {e : Expr} {f : DE}
end
section
variable {X : Cx} {pos : Pos}
end
section
variable {X : Cx} {pos : Pos}
end
section
variable {X : Cx} {pos : Pos}
end
section
variable {X : Cx} {pos : Pos}
variable {o e : Expr} {f g : DE}
end
section
variable {X : Cx} {o i : Expr} {fo fi : DE} {pos : Pos}
end
section
variable {X : Cx} {e : Expr} {f : DE} {pos p p2 pos2 : Pos}
end
section
variable {X : Cx} {e : Expr} {f : DE} {pos p p2 pos2 : Pos}
variable {e2 : Expr} {f2 : DE}
theorem qle_lstRng2 (hc : X.calm = true) (hg : Gl X "list") (hm : X.mg "list" = none) (hg2 : Gl X "range") (hm2 : X.mg "range" = none) (he : QE X e (LE X.K f)) (he2 : QE X e2 (LE X.K f2)) (hs : starEach [e, e2] X.env = [(false, eval e X.env), (false, eval e2 X.env)] := by rfl) (hs' : starEach [e2] X.env = [(false, eval e2 X.env)] := by rfl) (hs2 : starEach [.Call (.Name "range" p2) [e, e2] [] pos2] X.env = [(false, eval (.Call (.Name "range" p2) [e, e2] [] pos2) X.env)] := by rfl) : QE X (.Call (.Name "list" p) [.Call (.Name "range" p2) [e, e2] [] pos2] [] pos) (LE X.K (dLstRng2 f f2)) := ⟨le_lstRng2 (hc := hc) (hg := hg) (hm := hm) (hg2 := hg2) (hm2 := hm2) (he := he.pe) (he2 := he2.pe) (hs := hs) (hs' := hs') (hs2 := hs2)⟩
end
section
variable {X : Cx} {a b c : Expr} {f g h : DE} {pos : Pos}
end
section
variable {X : Cx} {a b c : Expr} {f g h : DE} {pos : Pos}
end
section
variable {X : Cx} {a b c : Expr} {f g h : DE} {pos : Pos}
end
section
variable {X : Cx} {a b c : Expr} {f g h : DE} {pos : Pos}
end
section
variable {X : Cx} {a : Expr} {tg : Expr} {f : DE}
end
section
variable {X : Cx} {o : Expr} {es : List Expr} {fo : DE} {fa : DA} {pos ipos : Pos} {j : Nat}
end
section
variable {X : Cx} {o i e : Expr} {fo fi f : DE} {pos tpos : Pos}
end
section
variable {X : Cx} {o i e : Expr} {fo fi f : DE} {pos tpos : Pos}
end
section
variable {X : Cx} {o i e : Expr} {fo fi f : DE} {pos tpos : Pos}
end
section
variable {X : Cx} {a lo st : Expr} {f g h : DE} {pos p2 : Pos}
theorem qle_stp (ha : QE X a (LE X.K f)) (hl : QE X lo (LE X.K g)) (hs : QE X st (LE X.K h)) : QE X (.Subscript a (.Slice (some lo) none (some st) p2) pos) (LE X.K (dStp f g h)) := ⟨le_stp (ha := ha.pe) (hl := hl.pe) (hs := hs.pe)⟩
end
section
variable {X : Cx} {e : Expr} {f : DE} {pos p p2 pos2 : Pos}
end
section
variable {X : Cx} {a : Expr} {tg : Expr} {f : DE}
end
section
variable {X : Cx} {o e : Expr} {es : List Expr} {fo fe : DE} {ga : DA} {pos pos' tpos apos p : Pos} {N f : Str} {C : Addr}
theorem qle_fld (g : PySem.W.nsIn X.K mainGlobals N = some (some (.ref C))) (c : Cls X.K C) (n : NoAttr X.K C f) (ho : QE X o (LE X.K fo)) (hb : attributeBase o f X.env (eval o X.env) = eval o X.env := by rfl) : QE X (.Attribute o f pos) (LE X.K (dFld N f fo)) := ⟨le_fld (g := g) (c := c) (n := n) (ho := ho.pe) (hb := hb)⟩
end
section
variable {X : Cx} {o e : Expr} {es : List Expr} {fo fe : DE} {ga : DA} {pos pos' tpos apos p : Pos} {N f : Str} {C : Addr}
theorem qls_fput (g : PySem.W.nsIn X.K mainGlobals N = some (some (.ref C))) (c : Cls X.K C) (n : NoAttr X.K C f) (he : QE X e (LE X.K fe)) (ho : QE X o (LE X.K fo)) (hs : swapsWith e (some (.Attribute o f pos')) pos.line X.env = pure false := by rfl) : QS X (.Assign [.Attribute o f pos'] e pos) (LS X.K (dFPut N f fo fe)) := ⟨ls_fput (g := g) (c := c) (n := n) (he := he.pe) (ho := ho.pe) (hs := hs)⟩
end
section
variable {X : Cx} {o e : Expr} {es : List Expr} {fo fe : DE} {ga : DA} {pos pos' tpos apos p : Pos} {N f : Str} {C : Addr}
theorem qle_meth {k n : Nat} {fa : Addr} {fd : FuncData} {ps : List Str} {sp : DC} (g : PySem.W.nsIn X.K mainGlobals N = some (some (.ref C))) (c : Cls X.K C) (hm : Meth X.K C f fa) (F : FnOk X.prog X.w X.K X.mg X.base CX0 k fa fd ps (LSp X.K n sp)) (hr : Room k X.A) (hb : Binds X.K fd ps []) (hx : X.xe = fun _ _ => False) (ho : QE X o (LE X.K fo)) (ha : QA X (e :: es) (LA X.K ga)) (hst : starEach (e :: es) X.env = (false, eval e X.env) :: starEach es X.env := by rfl) (hpl : (backTo pos (starEach es X.env)).any (·.1) = false := by rfl) {pl : Sem Bool} (ht : eval (.Call (.Attribute o f apos) (e :: es) [] pos) X.env = (do
      let ov ← eval o X.env
      standAt apos.atName
      let (f, first) ← holding [ov] (getMethod ov f pl)
      callWith pos f first (backTo pos (starEach (e :: es) X.env)) (backToKw pos (keywordEach [] X.env))) := by rfl) : QE X (.Call (.Attribute o f apos) (e :: es) [] pos) (LE X.K (dMeth N f n sp fo ga)) := ⟨le_meth (g := g) (c := c) (hm := hm) (F := F) (hr := hr) (hb := hb) (hx := hx) (ho := ho.pe) (ha := ha.pe) (hst := hst) (hpl := hpl) (ht := ht)⟩
end
section
variable {X : Cx} {o e : Expr} {es : List Expr} {fo fe : DE} {ga : DA} {pos pos' tpos apos p : Pos} {N f : Str} {C : Addr}
end
section
variable {X : Cx} {o e : Expr} {es : List Expr} {fo fe : DE} {ga : DA} {pos pos' tpos apos p : Pos} {N f : Str} {C : Addr}
end
section
variable {X : Cx} {o e : Expr} {es : List Expr} {fo fe : DE} {ga : DA} {pos pos' tpos apos p : Pos} {N f : Str} {C : Addr}
theorem qle_make0 {k n : Nat} {fa : Addr} {fd : FuncData} {ps : List Str} {sp : DC} (g : PySem.W.nsIn X.K mainGlobals N = some (some (.ref C))) (M : Mk X.K C fa) (hm : X.mg N = some (.ref C)) (F : FnOk X.prog X.w X.K X.mg X.base CX0 k fa fd ps (LSp X.K n sp)) (hr : Room (k + 1) X.A) (hb : Binds X.K fd ps []) (hg : Gl X N := by rfl) (hdb : (N == ("__debug__" : Str)) = false := by decide) : QE X (.Call (.Name N p) [] [] pos) (LE X.K (dMake N n sp dNil)) := ⟨le_make0 (g := g) (M := M) (hm := hm) (F := F) (hr := hr) (hb := hb) (hg := hg) (hdb := hdb)⟩
end
section
variable {X : Cx} {o i e : Expr} {fo fi f : DE} {pos tpos : Pos}
theorem qle_nnew  : QE X (.Dict [] [] pos) (LE X.K dNNew) := ⟨le_nnew ⟩
end
section
variable {X : Cx} {o i e : Expr} {fo fi f : DE} {pos tpos : Pos}
theorem qle_nget (hu : X.A.units + 100 < cLine) (ho : QE X o (LE X.K fo)) (hi : QE X i (LE X.K fi)) (hs : NoSl i := by exact fun _ _ => rfl) : QE X (.Subscript o i pos) (LE X.K (dNGet fo fi)) := ⟨le_nget (hu := hu) (ho := ho.pe) (hi := hi.pe) (hs := hs)⟩
end
section
variable {X : Cx} {o i e : Expr} {fo fi f : DE} {pos tpos : Pos}
theorem qls_nput (hu : X.A.units + 100 < cLine) (he : QE X e (LE X.K f)) (ho : QE X o (LE X.K fo)) (hi : QE X i (LE X.K fi)) (hs : swapsWith e (some (.Subscript o i tpos)) pos.line X.env = pure false := by rfl) : QS X (.Assign [.Subscript o i tpos] e pos) (LS X.K (dNPut fo fi f)) := ⟨ls_nput (hu := hu) (he := he.pe) (ho := ho.pe) (hi := hi.pe) (hs := hs)⟩
end
section
variable {P : Program} {w : World} {K : PySem.W.Frag} {mg : Str → Option Value} {base : Heap}
theorem qfn_body {x qual : Str} {st : Stmt} {fa : Addr} {fd : FuncData} {N ps : List Str} {k : Nat} {sp : DC} {body : DS} (F : Fun K x qual st fa fd) (S : FnScope N ps (defScope st))
    (hb : ∀ (cdv : Value) (A : Around) (outer : List Env) (s : Shared) (H : Hp) (E : XK), Room k (A.deeper (envOfC qual (defScope st) s.heap.objs.size fa cdv)) → QSs (cxOf CX0 P w K mg base N qual (defScope st) fa cdv A outer s H E).nox (defBody st) (LS K body))
    (hv : ∀ ds m R, ds.length = ps.length → sp ds m R → body { nx := fun _ m => R (.dat .none) m, rt := R } (start2 N ds) m) : FnOk P w K mg base CX0 (k + 1) fa fd ps (LSp K ps.length sp) := fn_body F S (fun cdv A outer s H E hr => (hb cdv A outer s H E hr).pe) hv
end
end DL
set_option linter.all false
set_option maxHeartbeats 1000000
namespace K01
open PySem PySem.Spec PyProof.Rows L2 DL
theorem log2_lt {n k : Nat} (h : n < 2 ^ k) (hk : 0 < k) : n.log2 < k := by
  by_cases hn : n = 0
  · subst hn
    simpa using hk
  · exact (Nat.log2_lt hn).mpr h
def Bd (n : Nat) (i : Int) : Prop := i.natAbs < 2 ^ n
theorem Bd.mono {m n : Nat} {i : Int} (h : Bd m i) (hl : m ≤ n) : Bd n i := Nat.lt_of_lt_of_le h (Nat.pow_le_pow_right (by decide) hl)
theorem Bd.mul {m n : Nat} {i j : Int} (h : Bd m i) (g : Bd n j) : Bd (m + n) (i * j) := by
  unfold Bd at *
  rw [Int.natAbs_mul, Nat.pow_add]
  exact Nat.mul_lt_mul'' h g
theorem Bd.add {n : Nat} {i j : Int} (h : Bd n i) (g : Bd n j) : Bd (n + 1) (i + j) := by
  unfold Bd at *
  have := Int.natAbs_add_le i j
  rw [Nat.pow_succ]
  omega
theorem Bd.neg {n : Nat} {i : Int} (h : Bd n i) : Bd n (-i) := by
  unfold Bd at *
  rw [Int.natAbs_neg]
  exact h
theorem Bd.sub {n : Nat} {i j : Int} (h : Bd n i) (g : Bd n j) : Bd (n + 1) (i - j) := by
  rw [Int.sub_eq_add_neg]
  exact h.add g.neg
theorem Bd.log {n : Nat} {i : Int} (h : Bd n i) (hn : 0 < n) : i.natAbs.log2 < n := log2_lt h hn
theorem Bd.mulOk {m n : Nat} {i j : Int} (h : Bd m i) (g : Bd n j) (hm : m + n ≤ 134217728) : IntMulOk i j :=
  IntMulOk.of_le (intBits_le_iff.mpr h) (intBits_le_iff.mpr g) hm
def fr (t b : Int) : PyData := .tuple [.int (t / (Int.gcd t b : Int)), .int (b / (Int.gcd t b : Int))]
end K01
set_option Elab.async false
set_option linter.all false
set_option maxRecDepth 100000
set_option maxHeartbeats 4000000
namespace K01
open PySem PySem.Spec PyProof.Rows L2 DL
section
variable {κ : Type} [DecidableEq κ]
end
def Sv (B w e : Nat) (p : PyData) : Prop := p.showable = true ∧ p.leavesShort B = true ∧ p.weight ≤ w ∧ p.depth ≤ e
theorem Sv.mono {B w e w' e' : Nat} {p : PyData} (h : Sv B w e p) (h1 : w ≤ w') (h2 : e ≤ e') : Sv B w' e' p := ⟨h.1, h.2.1, Nat.le_trans h.2.2.1 h1, Nat.le_trans h.2.2.2 h2⟩
theorem sv_all {B w e : Nat} : ∀ {xs : List PyData}, (∀ x ∈ xs, Sv B w e x) → PyData.showableAll xs = true ∧ PyData.leavesShortAll B xs = true ∧ PyData.weightAll xs ≤ (w + 1) * xs.length ∧ PyData.depthAll xs ≤ e
  | [], _ => by simp [PyData.showableAll, PyData.leavesShortAll, PyData.weightAll, PyData.depthAll]
  | x :: xs, h => by
    obtain ⟨i1, i2, i3, i4⟩ := sv_all fun y hy => h y (List.mem_cons_of_mem _ hy)
    obtain ⟨s1, s2, s3, s4⟩ := h x List.mem_cons_self
    refine ⟨?_, ?_, ?_, ?_⟩
    · simp only [PyData.showableAll, i1, s1, Bool.and_self]
    · simp only [PyData.leavesShortAll, i2, s2, Bool.and_self]
    · simp only [PyData.weightAll, List.length_cons]
      rw [Nat.mul_add]
      omega
    · simp only [PyData.depthAll]
      omega
theorem sv_tup {B w e n : Nat} {xs : List PyData} (h : ∀ x ∈ xs, Sv B w e x) (hn : xs.length ≤ n) : Sv B ((w + 1) * n) (e + 1) (.tuple xs) := by
  obtain ⟨i1, i2, i3, i4⟩ := sv_all h
  refine ⟨by simpa only [PyData.showable] using i1, by rw [PyData.leavesShort]; exact i2, ?_, ?_⟩
  · simp only [PyData.weight]
    exact Nat.le_trans i3 (Nat.mul_le_mul_left _ hn)
  · simp only [PyData.depth]
    omega
theorem sv_str {B w : Nat} {z : Str} (h1 : z.cps.toList.all (fun c => decide (c < 1114112)) = true) (h2 : z.length ≤ w) : Sv B w 1 (.str z) := by
  refine ⟨by simp [PyData.showable], ?_, by simp only [PyData.weight]; exact h2, by simp [PyData.depth]⟩
  unfold PyData.leavesShort
  rw [List.all_eq_true]
  intro c hc
  have := List.all_eq_true.mp h1 c hc
  simp at this
  exact decide_eq_true (Nat.lt_trans this (by decide))
theorem sv_fits {B w e : Nat} {p : PyData} (h : Sv B w e p) (hB : 8 ≤ B) (hw : (B + 2) * w + B ≤ 16777216) (he : e ≤ 100) : p.showable = true ∧ p.shown.length ≤ sizeLine ∧ p.depth ≤ 100 := by
  refine ⟨h.1, ?_, Nat.le_trans h.2.2.2 he⟩
  have q := PyData.shown_le B hB p h.2.1
  have q2 := Nat.mul_le_mul_left (B + 2) h.2.2.1
  rw [sizeLine_eq]
  omega
end K01
set_option Elab.async false
set_option linter.all false
set_option maxRecDepth 100000
set_option maxHeartbeats 4000000
namespace K07
open PySem PySem.Spec PyProof.Rows L2 DL K01
def Feed4 (xs : Cel) : Prop := ∃ a b c d : Int, xs = .l [.int a, .int b, .int c, .int d]
def Feeds (m : Mu) (a : Addr) : Prop := ∃ xs, m a = some xs ∧ Feed4 xs
def Fd (m m' : Mu) (a : Addr) : Prop := Feeds m' a ∧ ∀ c, c ≠ a → m' c = m c
def Kn (m m' : Mu) : Prop := ∀ c, (m c).isSome = true → m' c = m c
abbrev I (i : Int) : D := .dat (.int i)
abbrev fq (x : Int × Int) : PyData := .tuple [.int x.1, .int x.2]
def ORD : List Str := ["ahead", "meets", "overlaps", "begins", "within", "ends", "same", "ended", "holds", "begun", "lapped", "met", "behind"]
def kd (k : Bool) : Str := if k then "stretch" else "point"
def WS : Bool → Bool → List Str
  | true, true => ORD
  | false, false => ["ahead", "same", "behind"]
  | false, true => ["ahead", "begins", "within", "ends", "behind"]
  | true, false => ["ahead", "ended", "holds", "begun", "behind"]
def sgn (x : Int) : Int := (if 0 < x then 1 else 0) - (if x < 0 then 1 else 0)
def stn (x y : Int × Int) : Int := sgn (x.1 * y.2 - y.1 * x.2)
def row (i j : Int) : Str := if i < 0 then (if j < 0 then "overlaps" else if j = 0 then "ended" else "holds") else if i = 0 then (if j < 0 then "begins" else if j = 0 then "same" else "begun") else (if j < 0 then "within" else if j = 0 then "ends" else "lapped")
def wc (both : Bool) (s1 s2 s3 s4 : Int) : Str := if s1 < 0 then "ahead" else if 0 < s2 then "behind" else if both = true ∧ s1 = 0 then "meets" else if both = true ∧ s2 = 0 then "met" else row s3 s4
def wd (both : Bool) (a0 a1 b0 b1 : Int × Int) : Str := wc both (stn a1 b0) (stn a0 b1) (stn a0 b0) (stn a1 b1)
structure Tm (p : PyData) (k : Bool) (x y : Int × Int) : Prop where
  eq : p = if k then .tuple [fq x, fq y] else fq x
  px : 0 < x.2
  py : 0 < y.2
  st : k = true → x.1 * y.2 < y.1 * x.2
  pt : k = false → y = x
  b1 : Bd 60 x.1
  b2 : Bd 60 x.2
  b3 : Bd 60 y.1
  b4 : Bd 60 y.2
abbrev kds (k l : Bool) : PyData := .tuple [.str (kd k), .str (kd l)]
def WT : List (Str × List Int) := [("ahead", [-1, -1, -1, -1]), ("meets", [-1, -1, 0, -1]), ("overlaps", [-1, -1, 1, -1]), ("begins", [0, -1, 1, -1]), ("within", [1, -1, 1, -1]), ("ends", [1, -1, 1, 0]), ("same", [0, -1, 1, 0]), ("ended", [-1, -1, 1, 0]), ("holds", [-1, -1, 1, 1]), ("begun", [0, -1, 1, 1]), ("lapped", [1, -1, 1, 1]), ("met", [1, 0, 1, 1]), ("behind", [1, 1, 1, 1])]
def w4 (z : Str) : List Int := ((WT.find? fun kv => decide (kv.1 = z)).map (·.2)).getD []
def WB (k l : Bool) (z : Str) : List Int := match k, l with
  | true, true => w4 z
  | false, false => (w4 z).take 1
  | _, _ => [(w4 z).getD 0 0, (w4 z).getD 3 0]
def cnt (k : Bool) : Nat := if k then 2 else 1
def gridT (k : Bool) (ns : List Int) : List (Int × Int) := if k then (ns.map fun a => (ns.filter fun b => decide (a < b)).map fun b => (a, b)).flatten else ns.map fun a => (a, a)
def tmD (k : Bool) (t : Int × Int) : PyData := if k then .tuple [fq (t.1, 1), fq (t.2, 1)] else fq (t.1, 1)
def FOUR : List Int := [3, 6, 9, 12]
def FRT : List Int := [1, 2, 3, 4, 5, 6, 7, 8, 9, 10, 11, 12, 13, 14]
def wT (k l : Bool) (t u : Int × Int) : Str := wd (k && l) (t.1, 1) (t.2, 1) (u.1, 1) (u.2, 1)
abbrev kd3 (k l n : Bool) : PyData := .tuple [.str (kd k), .str (kd l), .str (kd n)]
def oD : Option Int → PyData
  | none => .none
  | some i => .int i
def fwy (a b : Int) : Option Int := if a = 0 then some b else if b = 0 ∨ b = a then some a else none
def fby : List (Int × Int) → Option Int
  | [] => none
  | (a, b) :: r => match fwy a b with
    | some i => some i
    | none => fby r
def FW1 (k l n : Bool) (z w : Str) (x y : Nat) : Option Int := fby ((cutP (WB k l z) (some ((x : Int) * cnt l)) (some (((x : Int) + 1) * cnt l))).zip (pick (WB l n w) (places (WB l n w).length y (cnt n))))
def FW (k l n : Bool) (z w : Str) : List (Option Int) := ((List.range (cnt k)).map fun x => (List.range (cnt n)).map fun y => FW1 k l n z w x y).flatten
def gow : List (Option Int) → List Int → Bool
  | some i :: r, w :: ws => decide (i = w) && gow r ws
  | none :: r, _ :: ws => gow r ws
  | _, _ => true
def BW (k l n : Bool) (z w : Str) : List Str := (WS k n).filter fun u => gow (FW k l n z w) (WB k n u)
def sp_words_of : DC := fun ds m R => ∃ k l, ds = [.dat (kds k l)] ∧ R (.dat (.tuple ((WS k l).map .str))) m
def sp_ways_by : DC := fun ds m R => ∃ k l z, ds = [.dat (kds k l), .dat (.str z)] ∧ z ∈ ORD ∧ R (.dat (.tuple ((WB k l z).map .int))) m
def sp_forced_way : DC := fun ds m R => ∃ a b : Int, ds = [I a, I b] ∧ R (.dat (oD (fwy a b))) m
def sp_forced_by : DC := fun ds m R => ∃ xs ys : List Int, ds = [.dat (.tuple (xs.map .int)), .dat (.tuple (ys.map .int))] ∧ R (.dat (oD (fby (xs.zip ys)))) m
def sp_forced_ways : DC := fun ds m R => ∃ k l n z w, ds = [.dat (kd3 k l n), .dat (.str z), .dat (.str w)] ∧ z ∈ WS k l ∧ w ∈ WS l n ∧ R (.dat (.list ((FW k l n z w).map oD))) m
def sp_go_with : DC := fun ds m R => ∃ (fs : List (Option Int)) (ws : List Int), ds = [.dat (.list (fs.map oD)), .dat (.tuple (ws.map .int))] ∧ fs.length ≤ 4 ∧ ws.length ≤ 4 ∧ R (.dat (.bool (gow fs ws))) m
def sp_behind_words : DC := fun ds m R => ∃ k l n z w, ds = [.dat (kd3 k l n), .dat (.str z), .dat (.str w)] ∧ z ∈ WS k l ∧ w ∈ WS l n ∧ R (.dat (.tuple ((BW k l n z w).map .str))) m
def sp__law_feed : DC := fun ds m R => ∃ (ns : List Int) (k : Int), ds = [.dat (.list (ns.map .int)), I k] ∧ ns.length ≤ 63 ∧ 0 ≤ k ∧ k ≤ 1000 ∧ ∀ a m', Feeds m' a → R (.cel a) m'
def sp__law_draw : DC := fun ds m R => ∃ (a : Addr) (n : Int), ds = [.cel a, I n] ∧ 0 < n ∧ Bd 2000 n ∧ Feeds m a ∧ ∀ (r : Int) m', 0 ≤ r → r < n → Fd m m' a → R (I r) m'
def sp__law_stand : DC := fun ds m R => ∃ x y : Int × Int, ds = [.dat (fq x), .dat (fq y)] ∧ Bd 60 x.1 ∧ Bd 60 x.2 ∧ Bd 60 y.1 ∧ Bd 60 y.2 ∧ R (I (stn x y)) m
def sp__law_word : DC := fun ds m R => ∃ p q k l a0 a1 b0 b1, ds = [.dat p, .dat q] ∧ Tm p k a0 a1 ∧ Tm q l b0 b1 ∧ R (.dat (.str (wd (k && l) a0 a1 b0 b1))) m
def sp__law_words : DC := fun ds m R => ∃ k l, ds = [.dat (kds k l)] ∧ R (.dat (.list ((WS k l).map .str))) m
def sp__law_kinds : DC := fun ds m R => ∃ a, ds = [.cel a, I 3] ∧ Feeds m a ∧ ∀ k l n m', Fd m m' a → R (.dat (kd3 k l n)) m'
def sp__law_grid : DC := fun ds m R => ∃ (k : Bool) (ns : List Int), ds = [.dat (.str (kd k)), .dat (.list (ns.map .int))] ∧ ns.length ≤ 14 ∧ R (.dat (.list ((gridT k ns).map (tmD k)))) m
def BM (k l n : Bool) (zs ws : List Str) : List Str := (WS k n).filter fun u => zs.any fun z => ws.any fun w => decide (u ∈ BW k l n z w)
def GoodN (kvs : List (List PyData × D)) : Prop := ∀ ks x, valG kvs ks = some x → ∃ k l n z w, ks = [kd3 k l n, .str z, .str w] ∧ x = .dat (.tuple ((BW k l n z w).map .str))
structure Bh (m : Mu) (a c1 c2 : Addr) (q : Nat) : Prop where
  ob : m a = some (.o "Behinds" [("by_words", .cel c1), ("by_mays", .cel c2)])
  t1 : ∃ kvs, m c1 = some (.n kvs) ∧ kvs.length ≤ q ∧ GoodN kvs
  n1 : a ≠ c1
def sp_Behinds___init__ : DC := fun ds m R => ∃ a, ds = [.cel a] ∧ m a = some (.o "Behinds" []) ∧ ∀ c1 c2 m', m c1 = none → m c2 = none → (∀ b, b ≠ a → b ≠ c1 → b ≠ c2 → m' b = m b) → Bh m' a c1 c2 0 → R (.dat .none) m'
def sp_Behinds_words : DC := fun ds m R => ∃ a c1 c2 q k l n z w, ds = [.cel a, .dat (kd3 k l n), .dat (.str z), .dat (.str w)] ∧ z ∈ WS k l ∧ w ∈ WS l n ∧ Bh m a c1 c2 q ∧ q ≤ 500 ∧ ∀ m', Bh m' a c1 c2 (q + 1) → (∀ b, b ≠ c1 → m' b = m b) → R (.dat (.tuple ((BW k l n z w).map .str))) m'
def sp_Behinds_gathered : DC := fun ds m R => ∃ a c1 c2 k l n zs ws, ds = [.cel a, .dat (kd3 k l n), .dat (.tuple (zs.map .str)), .dat (.tuple (ws.map .str))] ∧ zs.length ≤ 13 ∧ ws.length ≤ 13 ∧ (∀ z ∈ zs, z ∈ WS k l) ∧ (∀ w ∈ ws, w ∈ WS l n) ∧ Bh m a c1 c2 0 ∧
  ∀ m', (∀ b, b ≠ c1 → (m b).isSome = true → m' b = m b) → R (.dat (.tuple ((BM k l n zs ws).map .str))) m'
def sp_behind_mays : DC := fun ds m R => ∃ k l n zs ws, ds = [.dat (kd3 k l n), .dat (.tuple (zs.map .str)), .dat (.tuple (ws.map .str))] ∧ zs.length ≤ 13 ∧ ws.length ≤ 13 ∧ (∀ z ∈ zs, z ∈ WS k l) ∧ (∀ w ∈ ws, w ∈ WS l n) ∧
  ∀ m', Kn m m' → R (.dat (.tuple ((BM k l n zs ws).map .str))) m'
def sp__law_may : DC := fun ds m R => ∃ a k l, ds = [.cel a, .dat (kds k l)] ∧ Feeds m a ∧ ∀ (zs : List Str) m', zs.length ≤ 13 → (∀ z ∈ zs, z ∈ WS k l) → Fd m m' a → R (.dat (.tuple (zs.map .str))) m'
def sp__law_reached : DC := fun ds m R => ∃ k l n zs ws, ds = [.dat (kd3 k l n), .dat (.tuple (zs.map .str)), .dat (.tuple (ws.map .str))] ∧ zs.length ≤ 13 ∧ ws.length ≤ 13 ∧ (∀ z ∈ zs, z ∈ WS k l) ∧ (∀ w ∈ ws, w ∈ WS l n) ∧
  ∀ m', Kn m m' → R (.dat (.tuple ((BM k l n zs ws).map .str))) m'
def sp_law : DC := fun ds m R => ∃ ns : List Int, ds = [.dat (.list (ns.map .int))] ∧ ns.length ≤ 63 ∧ ∀ m', R (.dat (.bool true)) m'
end K07
set_option Elab.async false
set_option linter.all false
set_option maxRecDepth 100000
set_option maxHeartbeats 4000000
namespace K07
open PySem PySem.Spec PyProof.Rows L2 DL
-- ranks: words_of 1, ways_by 1, forced_way 1, forced_by 2, forced_ways 3, go_with 1, behind_words 4, Behinds___init__ 1, Behinds_words 5, Behinds_gathered 6, behind_mays 7, _law_feed 1, _law_draw 1, _law_stand 1, _law_word 2, _law_words 1, _law_kinds 2, _law_may 2, _law_grid 1, _law_reached 3, law 8
def top (i : Nat) : Stmt := PySem.Challenge.pw_whens_k07_mays_behind_mays.main.body.getD i (.Pass ⟨0, 0, 0, 0⟩)
abbrev tb_WAYS : List (Str × PyData) := [("ahead", .tuple [.int (-1), .int (-1), .int (-1), .int (-1)]), ("meets", .tuple [.int (-1), .int (-1), .int (0), .int (-1)]), ("overlaps", .tuple [.int (-1), .int (-1), .int (1), .int (-1)]), ("begins", .tuple [.int (0), .int (-1), .int (1), .int (-1)]), ("within", .tuple [.int (1), .int (-1), .int (1), .int (-1)]), ("ends", .tuple [.int (1), .int (-1), .int (1), .int (0)]), ("same", .tuple [.int (0), .int (-1), .int (1), .int (0)]), ("ended", .tuple [.int (-1), .int (-1), .int (1), .int (0)]), ("holds", .tuple [.int (-1), .int (-1), .int (1), .int (1)]), ("begun", .tuple [.int (0), .int (-1), .int (1), .int (1)]), ("lapped", .tuple [.int (1), .int (-1), .int (1), .int (1)]), ("met", .tuple [.int (1), .int (0), .int (1), .int (1)]), ("behind", .tuple [.int (1), .int (1), .int (1), .int (1)])]
abbrev tb_END_COUNTS : List (Str × PyData) := [("point", .int (1)), ("stretch", .int (2))]
abbrev tt_POINT_WORDS : List (List Str × PyData) := [(["point", "point"], .tuple (List.map PyData.str ["ahead", "same", "behind"])), (["point", "stretch"], .tuple (List.map PyData.str ["ahead", "begins", "within", "ends", "behind"])), (["stretch", "point"], .tuple (List.map PyData.str ["ahead", "ended", "holds", "begun", "behind"]))]
abbrev s_words_of : Stmt := top 5
abbrev N_words_of : List Str := ["kinds"]
abbrev p_words_of : List Str := ["kinds"]
theorem sc_words_of : FnScope N_words_of p_words_of (defScope s_words_of) := ⟨rfl, rfl, rfl, by decide +kernel, rfl, by decide +kernel, by decide +kernel⟩
def b_words_of : DS := (dSeq (dRet (dTGet2C tt_POINT_WORDS (dVar 0) (dCon (.tuple (List.map PyData.str ["ahead", "meets", "overlaps", "begins", "within", "ends", "same", "ended", "holds", "begun", "lapped", "met", "behind"]))))) dNext)
abbrev s_ways_by : Stmt := top 6
abbrev N_ways_by : List Str := ["kinds", "word", "ways"]
abbrev p_ways_by : List Str := ["kinds", "word"]
theorem sc_ways_by : FnScope N_ways_by p_ways_by (defScope s_ways_by) := ⟨rfl, rfl, rfl, by decide +kernel, rfl, by decide +kernel, by decide +kernel⟩
def b_ways_by_3 : DS := (dSeq (dRet (dTup (dCons (dBin aIx (dVar 2) (dCon (.int 0))) (dCons (dBin aIx (dVar 2) (dCon (.int 3))) dNil)))) dNext)
def b_ways_by_2 : DS := (dSeq (dIf (dTst (dBin aEq (dVar 0) (dTup (dCons (dCon (.str "point")) (dCons (dCon (.str "point")) dNil))))) (dSeq (dRet (dSlX (dVar 2) dNoP (dPart (dCon (.int 1))))) dNext) dNext) b_ways_by_3)
def b_ways_by_1 : DS := (dSeq (dIf (dTst (dBin aEq (dVar 0) (dTup (dCons (dCon (.str "stretch")) (dCons (dCon (.str "stretch")) dNil))))) (dSeq (dRet (dVar 2)) dNext) dNext) b_ways_by_2)
def b_ways_by : DS := (dSeq (dSet 2 (dDGetC tb_WAYS (dVar 1))) b_ways_by_1)
abbrev s_forced_way : Stmt := top 8
abbrev N_forced_way : List Str := ["one", "other"]
abbrev p_forced_way : List Str := ["one", "other"]
theorem sc_forced_way : FnScope N_forced_way p_forced_way (defScope s_forced_way) := ⟨rfl, rfl, rfl, by decide +kernel, rfl, by decide +kernel, by decide +kernel⟩
def b_forced_way_2 : DS := (dSeq (dRet (dCon .none)) dNext)
def b_forced_way_1 : DS := (dSeq (dIf (dOrT (dTst (dBin aEq (dVar 1) (dCon (.int 0)))) (dTst (dBin aEq (dVar 1) (dVar 0)))) (dSeq (dRet (dVar 0)) dNext) dNext) b_forced_way_2)
def b_forced_way : DS := (dSeq (dIf (dTst (dBin aEq (dVar 0) (dCon (.int 0)))) (dSeq (dRet (dVar 1)) dNext) dNext) b_forced_way_1)
abbrev s_forced_by : Stmt := top 9
abbrev N_forced_by : List Str := ["ones", "others", "one", "other", "way"]
abbrev p_forced_by : List Str := ["ones", "others"]
theorem sc_forced_by : FnScope N_forced_by p_forced_by (defScope s_forced_by) := ⟨rfl, rfl, rfl, by decide +kernel, rfl, by decide +kernel, by decide +kernel⟩
def b_forced_by_L0_1 : DS := (dSeq (dIf (dTst (dBin aNotN (dVar 4) (dCon .none))) (dSeq (dRet (dVar 4)) dNext) dNext) dNext)
def b_forced_by_L0 : DS := (dSeq (dSet 4 (dCall 2 sp_forced_way (dCons (dVar 2) (dCons (dVar 3) dNil)))) b_forced_by_L0_1)
def b_forced_by_1 : DS := (dSeq (dRet (dCon .none)) dNext)
def b_forced_by : DS := (dSeq (dFor (dZipI (dVar 0) (dVar 1)) (gT 2 (gNs (gN 2) (gNs (gN 3) gN0))) b_forced_by_L0) b_forced_by_1)
abbrev s_forced_ways : Stmt := top 10
abbrev N_forced_ways : List Str := ["kinds", "one", "other", "first", "second", "third", "many", "step", "left", "right"]
abbrev p_forced_ways : List Str := ["kinds", "one", "other"]
theorem sc_forced_ways : FnScope N_forced_ways p_forced_ways (defScope s_forced_ways) := ⟨rfl, rfl, rfl, by decide +kernel, rfl, by decide +kernel, by decide +kernel⟩
theorem nd_forced_ways_1 : List.Nodup (["x", "z", "many", "step", "left", "right"] : List Str) := by decide +kernel
def b_forced_ways_5 : DS := (dSeq (dRet (dLC2 [none, none, some 6, some 7, some 8, some 9] (dRngI (dDGetC tb_END_COUNTS (dVar 3))) (gN 0) dTrue (dRngI (dVar 3)) (gN 1) dTrue (dCall 2 sp_forced_by (dCons (dSlX (dVar 4) (dPart (dBin aMul (dVar 0) (dVar 2))) (dPart (dBin aMul (dBin aAdd (dVar 0) (dCon (.int 1))) (dVar 2)))) (dCons (dStp (dVar 5) (dVar 1) (dVar 3)) dNil))))) dNext)
def b_forced_ways_4 : DS := (dSeq (dSet 9 (dCall 2 sp_ways_by (dCons (dTup (dCons (dVar 4) (dCons (dVar 5) dNil))) (dCons (dVar 2) dNil)))) b_forced_ways_5)
def b_forced_ways_3 : DS := (dSeq (dSet 8 (dCall 2 sp_ways_by (dCons (dTup (dCons (dVar 3) (dCons (dVar 4) dNil))) (dCons (dVar 1) dNil)))) b_forced_ways_4)
def b_forced_ways_2 : DS := (dSeq (dSet 7 (dDGetC tb_END_COUNTS (dVar 5))) b_forced_ways_3)
def b_forced_ways_1 : DS := (dSeq (dSet 6 (dDGetC tb_END_COUNTS (dVar 4))) b_forced_ways_2)
def b_forced_ways : DS := (dSeq (dAsg (dVar 0) (gT 3 (gNs (gN 3) (gNs (gN 4) (gNs (gN 5) gN0))))) b_forced_ways_1)
abbrev s_go_with : Stmt := top 11
abbrev N_go_with : List Str := ["forced", "ways", "must", "way"]
abbrev p_go_with : List Str := ["forced", "ways"]
theorem sc_go_with : FnScope N_go_with p_go_with (defScope s_go_with) := ⟨rfl, rfl, rfl, by decide +kernel, rfl, by decide +kernel, by decide +kernel⟩
def b_go_with_L0 : DS := (dSeq (dIf (dAndT (dTst (dBin aNotN (dVar 2) (dCon .none))) (dTst (dBin aNe (dVar 2) (dVar 3)))) (dSeq (dRet (dCon (.bool false))) dNext) dNext) dNext)
def b_go_with_1 : DS := (dSeq (dRet (dCon (.bool true))) dNext)
def b_go_with : DS := (dSeq (dFor (dZipL (dVar 0) (dVar 1)) (gT 2 (gNs (gN 2) (gNs (gN 3) gN0))) b_go_with_L0) b_go_with_1)
abbrev s_behind_words : Stmt := top 12
abbrev N_behind_words : List Str := ["kinds", "one", "other", "first", "second", "third", "ends", "forced"]
abbrev p_behind_words : List Str := ["kinds", "one", "other"]
theorem sc_behind_words : FnScope N_behind_words p_behind_words (defScope s_behind_words) := ⟨rfl, rfl, rfl, by decide +kernel, rfl, by decide +kernel, by decide +kernel⟩
theorem nd_behind_words_1 : List.Nodup (["word", "ends", "forced"] : List Str) := by decide +kernel
def b_behind_words_3 : DS := (dSeq (dRet (dCallB bTuple (dCons (dLC [none, some 6, some 7] (dSeqI (dCall 1 sp_words_of (dCons (dVar 6) dNil))) (gN 0) (dTst (dCall 2 sp_go_with (dCons (dVar 2) (dCons (dCall 2 sp_ways_by (dCons (dVar 1) (dCons (dVar 0) dNil))) dNil)))) (dVar 0)) dNil))) dNext)
def b_behind_words_2 : DS := (dSeq (dSet 7 (dCall 3 sp_forced_ways (dCons (dVar 0) (dCons (dVar 1) (dCons (dVar 2) dNil))))) b_behind_words_3)
def b_behind_words_1 : DS := (dSeq (dSet 6 (dTup (dCons (dVar 3) (dCons (dVar 5) dNil)))) b_behind_words_2)
def b_behind_words : DS := (dSeq (dAsg (dVar 0) (gT 3 (gNs (gN 3) (gNs (gN 4) (gNs (gN 5) gN0))))) b_behind_words_1)
abbrev s_Behinds___init__ : Stmt := inClass (top 13) 0
abbrev N_Behinds___init__ : List Str := ["self"]
abbrev p_Behinds___init__ : List Str := ["self"]
theorem sc_Behinds___init__ : FnScope N_Behinds___init__ p_Behinds___init__ (defScope s_Behinds___init__) := ⟨rfl, rfl, rfl, by decide +kernel, rfl, by decide +kernel, by decide +kernel⟩
def b_Behinds___init___1 : DS := (dSeq (dFPut "Behinds" "by_mays" (dVar 0) dNNew) dNext)
def b_Behinds___init__ : DS := (dSeq (dFPut "Behinds" "by_words" (dVar 0) dNNew) b_Behinds___init___1)
abbrev s_Behinds_words : Stmt := inClass (top 13) 1
abbrev N_Behinds_words : List Str := ["self", "kinds", "one", "other", "key"]
abbrev p_Behinds_words : List Str := ["self", "kinds", "one", "other"]
theorem sc_Behinds_words : FnScope N_Behinds_words p_Behinds_words (defScope s_Behinds_words) := ⟨rfl, rfl, rfl, by decide +kernel, rfl, by decide +kernel, by decide +kernel⟩
def b_Behinds_words_2 : DS := (dSeq (dRet (dNGet (dFld "Behinds" "by_words" (dVar 0)) (dVar 4))) dNext)
def b_Behinds_words_1 : DS := (dSeq (dIf (dTst (dBin aNotInN (dVar 4) (dFld "Behinds" "by_words" (dVar 0)))) (dSeq (dNPut (dFld "Behinds" "by_words" (dVar 0)) (dVar 4) (dCall 3 sp_behind_words (dCons (dVar 1) (dCons (dVar 2) (dCons (dVar 3) dNil))))) dNext) dNext) b_Behinds_words_2)
def b_Behinds_words : DS := (dSeq (dSet 4 (dTup (dCons (dVar 1) (dCons (dVar 2) (dCons (dVar 3) dNil))))) b_Behinds_words_1)
abbrev s_Behinds_gathered : Stmt := inClass (top 13) 3
abbrev N_Behinds_gathered : List Str := ["self", "kinds", "one", "other", "words", "found", "word", "next_word", "third"]
abbrev p_Behinds_gathered : List Str := ["self", "kinds", "one", "other"]
theorem sc_Behinds_gathered : FnScope N_Behinds_gathered p_Behinds_gathered (defScope s_Behinds_gathered) := ⟨rfl, rfl, rfl, by decide +kernel, rfl, by decide +kernel, by decide +kernel⟩
theorem nd_Behinds_gathered_1 : List.Nodup (["word", "found"] : List Str) := by decide +kernel
def b_Behinds_gathered_L2 : DS := (dSeq (dDPut (dVar 5) (dVar 8) (dCon (.bool true))) dNext)
def b_Behinds_gathered_L1_1 : DS := (dSeq (dFor (dSeqI (dMeth "Behinds" "words" 4 sp_Behinds_words (dVar 0) (dCons (dVar 1) (dCons (dVar 6) (dCons (dVar 7) dNil))))) (gN 8) b_Behinds_gathered_L2) dNext)
def b_Behinds_gathered_L1 : DS := (dSeq (dIf (dTst (dBin aEq (dCallB bLenD (dCons (dVar 5) dNil)) (dCallB bLen (dCons (dVar 4) dNil)))) (dSeq (dRet (dVar 4)) dNext) dNext) b_Behinds_gathered_L1_1)
def b_Behinds_gathered_L0 : DS := (dSeq (dFor (dSeqI (dVar 3)) (gN 7) b_Behinds_gathered_L1) dNext)
def b_Behinds_gathered_3 : DS := (dSeq (dRet (dCallB bTuple (dCons (dLC [none, some 5] (dSeqI (dVar 4)) (gN 0) (dTst (dBin aInK (dVar 0) (dVar 1))) (dVar 0)) dNil))) dNext)
def b_Behinds_gathered_2 : DS := (dSeq (dFor (dSeqI (dVar 2)) (gN 6) b_Behinds_gathered_L0) b_Behinds_gathered_3)
def b_Behinds_gathered_1 : DS := (dSeq (dSet 5 dDNew) b_Behinds_gathered_2)
def b_Behinds_gathered : DS := (dSeq (dSet 4 (dCall 1 sp_words_of (dCons (dTup (dCons (dBin aIx (dVar 1) (dCon (.int 0))) (dCons (dBin aIx (dVar 1) (dCon (.int 2))) dNil))) dNil))) b_Behinds_gathered_1)
abbrev s_behind_mays : Stmt := top 14
abbrev N_behind_mays : List Str := ["kinds", "one", "other"]
abbrev p_behind_mays : List Str := ["kinds", "one", "other"]
theorem sc_behind_mays : FnScope N_behind_mays p_behind_mays (defScope s_behind_mays) := ⟨rfl, rfl, rfl, by decide +kernel, rfl, by decide +kernel, by decide +kernel⟩
def b_behind_mays : DS := (dSeq (dRet (dMeth "Behinds" "gathered" 4 sp_Behinds_gathered (dMake "Behinds" 1 sp_Behinds___init__ dNil) (dCons (dVar 0) (dCons (dVar 1) (dCons (dVar 2) dNil))))) dNext)
abbrev s__law_feed : Stmt := top 16
abbrev N__law_feed : List Str := ["_law_script", "_law_k", "_law_cell"]
abbrev p__law_feed : List Str := ["_law_script", "_law_k"]
theorem sc__law_feed : FnScope N__law_feed p__law_feed (defScope s__law_feed) := ⟨rfl, rfl, rfl, by decide +kernel, rfl, by decide +kernel, by decide +kernel⟩
def b__law_feed_2 : DS := (dSeq (dRet (dLstC (dCons (dCallB bMax (dCons (dCon (.int 0)) (dCons (dBin aSub (dVar 2) (dBin aPow (dCon (.int 10)) (dCon (.int 18)))) dNil))) (dCons (dVar 2) (dCons (dVar 1) (dCons (dCon (.int 0)) dNil)))))) dNext)
def b__law_feed_1 : DS := (dSeq (dSet 2 (dBin aIx (dVar 0) (dBin aMod (dVar 1) (dCallB bLen (dCons (dVar 0) dNil))))) b__law_feed_2)
def b__law_feed : DS := (dSeq (dIf (dTst (dBin aEq (dCallB bLen (dCons (dVar 0) dNil)) (dCon (.int 0)))) (dSeq (dRet (dLstC (dCons (dCon (.int 0)) (dCons (dCon (.int 0)) (dCons (dVar 1) (dCons (dCon (.int 0)) dNil)))))) dNext) dNext) b__law_feed_1)
abbrev s__law_draw : Stmt := top 17
abbrev N__law_draw : List Str := ["_law_feed_here", "_law_many", "_law_figure", "_law_number"]
abbrev p__law_draw : List Str := ["_law_feed_here", "_law_many"]
theorem sc__law_draw : FnScope N__law_draw p__law_draw (defScope s__law_draw) := ⟨rfl, rfl, rfl, by decide +kernel, rfl, by decide +kernel, by decide +kernel⟩
def b__law_draw_B0_2 : DS := (dSeq (dRet (dVar 2)) dNext)
def b__law_draw_B0_1 : DS := (dSeq (dPut (dVar 0) (dCon (.int 0)) (dBin aDiv (dBin aIx (dVar 0) (dCon (.int 0))) (dVar 1))) b__law_draw_B0_2)
def b__law_draw_B0 : DS := (dSeq (dSet 2 (dBin aMod (dBin aIx (dVar 0) (dCon (.int 0))) (dVar 1))) b__law_draw_B0_1)
def b__law_draw_5 : DS := (dSeq (dRet (dBin aMod (dVar 3) (dVar 1))) dNext)
def b__law_draw_4 : DS := (dSeq (dSet 3 (dBin aMod (dBin aAdd (dBin aAdd (dBin aMul (dVar 3) (dVar 3)) (dBin aMul (dCon (.int 69621)) (dVar 3))) (dBin aIx (dVar 0) (dCon (.int 3)))) (dCon (.int 2147483587)))) b__law_draw_5)
def b__law_draw_3 : DS := (dSeq (dSet 3 (dBin aMod (dBin aAdd (dBin aAdd (dBin aMul (dVar 3) (dVar 3)) (dBin aMul (dCon (.int 48271)) (dVar 3))) (dBin aIx (dVar 0) (dCon (.int 2)))) (dCon (.int 2147483629)))) b__law_draw_4)
def b__law_draw_2 : DS := (dSeq (dSet 3 (dBin aMod (dBin aAdd (dBin aAdd (dBin aIx (dVar 0) (dCon (.int 1))) (dBin aMul (dCon (.int 7919)) (dBin aIx (dVar 0) (dCon (.int 2))))) (dBin aMul (dCon (.int 104729)) (dBin aIx (dVar 0) (dCon (.int 3))))) (dCon (.int 2147483629)))) b__law_draw_3)
def b__law_draw_1 : DS := (dSeq (dIf (dTst (dBin aGt (dBin aIx (dVar 0) (dCon (.int 0))) (dCon (.int 0)))) b__law_draw_B0 dNext) b__law_draw_2)
def b__law_draw : DS := (dSeq (dPut (dVar 0) (dCon (.int 3)) (dBin aAdd (dBin aIx (dVar 0) (dCon (.int 3))) (dCon (.int 1)))) b__law_draw_1)
abbrev s__law_stand : Stmt := top 18
abbrev N__law_stand : List Str := ["_law_one", "_law_other", "_law_apart"]
abbrev p__law_stand : List Str := ["_law_one", "_law_other"]
theorem sc__law_stand : FnScope N__law_stand p__law_stand (defScope s__law_stand) := ⟨rfl, rfl, rfl, by decide +kernel, rfl, by decide +kernel, by decide +kernel⟩
def b__law_stand_1 : DS := (dSeq (dRet (dBin aSub (dCallB bInt (dCons (dBin aGt (dVar 2) (dCon (.int 0))) dNil)) (dCallB bInt (dCons (dBin aLt (dVar 2) (dCon (.int 0))) dNil)))) dNext)
def b__law_stand : DS := (dSeq (dSet 2 (dBin aSub (dBin aMul (dBin aIx (dVar 0) (dCon (.int 0))) (dBin aIx (dVar 1) (dCon (.int 1)))) (dBin aMul (dBin aIx (dVar 1) (dCon (.int 0))) (dBin aIx (dVar 0) (dCon (.int 1)))))) b__law_stand_1)
abbrev s__law_word : Stmt := top 19
abbrev N__law_word : List Str := ["_law_one", "_law_other", "_law_both", "_law_a", "_law_b", "_law_rows"]
abbrev p__law_word : List Str := ["_law_one", "_law_other"]
theorem sc__law_word : FnScope N__law_word p__law_word (defScope s__law_word) := ⟨rfl, rfl, rfl, by decide +kernel, rfl, by decide +kernel, by decide +kernel⟩
def b__law_word_8 : DS := (dSeq (dRet (dBin aIx (dBin aIx (dVar 5) (dBin aAdd (dCon (.int 1)) (dCall 2 sp__law_stand (dCons (dBin aIx (dVar 3) (dCon (.int 0))) (dCons (dBin aIx (dVar 4) (dCon (.int 0))) dNil))))) (dBin aAdd (dCon (.int 1)) (dCall 2 sp__law_stand (dCons (dBin aIx (dVar 3) (dCon (.int 1))) (dCons (dBin aIx (dVar 4) (dCon (.int 1))) dNil)))))) dNext)
def b__law_word_7 : DS := (dSeq (dSet 5 (dTup (dCons (dTup (dCons (dCon (.str "overlaps")) (dCons (dCon (.str "ended")) (dCons (dCon (.str "holds")) dNil)))) (dCons (dTup (dCons (dCon (.str "begins")) (dCons (dCon (.str "same")) (dCons (dCon (.str "begun")) dNil)))) (dCons (dTup (dCons (dCon (.str "within")) (dCons (dCon (.str "ends")) (dCons (dCon (.str "lapped")) dNil)))) dNil))))) b__law_word_8)
def b__law_word_6 : DS := (dSeq (dIf (dAndT (dTst (dVar 2)) (dTst (dBin aEq (dCall 2 sp__law_stand (dCons (dBin aIx (dVar 3) (dCon (.int 0))) (dCons (dBin aIx (dVar 4) (dCon (.int 1))) dNil))) (dCon (.int 0))))) (dSeq (dRet (dCon (.str "met"))) dNext) dNext) b__law_word_7)
def b__law_word_5 : DS := (dSeq (dIf (dAndT (dTst (dVar 2)) (dTst (dBin aEq (dCall 2 sp__law_stand (dCons (dBin aIx (dVar 3) (dCon (.int 1))) (dCons (dBin aIx (dVar 4) (dCon (.int 0))) dNil))) (dCon (.int 0))))) (dSeq (dRet (dCon (.str "meets"))) dNext) dNext) b__law_word_6)
def b__law_word_4 : DS := (dSeq (dIf (dTst (dBin aGt (dCall 2 sp__law_stand (dCons (dBin aIx (dVar 3) (dCon (.int 0))) (dCons (dBin aIx (dVar 4) (dCon (.int 1))) dNil))) (dCon (.int 0)))) (dSeq (dRet (dCon (.str "behind"))) dNext) dNext) b__law_word_5)
def b__law_word_3 : DS := (dSeq (dIf (dTst (dBin aLt (dCall 2 sp__law_stand (dCons (dBin aIx (dVar 3) (dCon (.int 1))) (dCons (dBin aIx (dVar 4) (dCon (.int 0))) dNil))) (dCon (.int 0)))) (dSeq (dRet (dCon (.str "ahead"))) dNext) dNext) b__law_word_4)
def b__law_word_2 : DS := (dSeq (dSet 4 (dIte (dTst (dIsi (dBin aIx (dVar 1) (dCon (.int 0))) "tuple")) (dVar 1) (dTup (dCons (dVar 1) (dCons (dVar 1) dNil))))) b__law_word_3)
def b__law_word_1 : DS := (dSeq (dSet 3 (dIte (dTst (dIsi (dBin aIx (dVar 0) (dCon (.int 0))) "tuple")) (dVar 0) (dTup (dCons (dVar 0) (dCons (dVar 0) dNil))))) b__law_word_2)
def b__law_word : DS := (dSeq (dSet 2 (dAnd (dIsi (dBin aIx (dVar 0) (dCon (.int 0))) "tuple") (dIsi (dBin aIx (dVar 1) (dCon (.int 0))) "tuple"))) b__law_word_1)
abbrev s__law_words : Stmt := top 20
abbrev N__law_words : List Str := ["_law_kinds_here", "_law_first"]
abbrev p__law_words : List Str := ["_law_kinds_here"]
theorem sc__law_words : FnScope N__law_words p__law_words (defScope s__law_words) := ⟨rfl, rfl, rfl, by decide +kernel, rfl, by decide +kernel, by decide +kernel⟩
def b__law_words_B0_1 : DS := (dSeq (dRet (dBin aAdd (dVar 1) (dLst (dCons (dCon (.str "ended")) (dCons (dCon (.str "holds")) (dCons (dCon (.str "begun")) (dCons (dCon (.str "lapped")) (dCons (dCon (.str "met")) (dCons (dCon (.str "behind")) dNil))))))))) dNext)
def b__law_words_B0 : DS := (dSeq (dSet 1 (dLst (dCons (dCon (.str "ahead")) (dCons (dCon (.str "meets")) (dCons (dCon (.str "overlaps")) (dCons (dCon (.str "begins")) (dCons (dCon (.str "within")) (dCons (dCon (.str "ends")) (dCons (dCon (.str "same")) dNil))))))))) b__law_words_B0_1)
def b__law_words_3 : DS := (dSeq (dRet (dLst (dCons (dCon (.str "ahead")) (dCons (dCon (.str "ended")) (dCons (dCon (.str "holds")) (dCons (dCon (.str "begun")) (dCons (dCon (.str "behind")) dNil))))))) dNext)
def b__law_words_2 : DS := (dSeq (dIf (dTst (dBin aEq (dBin aIx (dVar 0) (dCon (.int 0))) (dCon (.str "point")))) (dSeq (dRet (dLst (dCons (dCon (.str "ahead")) (dCons (dCon (.str "begins")) (dCons (dCon (.str "within")) (dCons (dCon (.str "ends")) (dCons (dCon (.str "behind")) dNil))))))) dNext) dNext) b__law_words_3)
def b__law_words_1 : DS := (dSeq (dIf (dTst (dBin aEq (dVar 0) (dTup (dCons (dCon (.str "point")) (dCons (dCon (.str "point")) dNil))))) (dSeq (dRet (dLst (dCons (dCon (.str "ahead")) (dCons (dCon (.str "same")) (dCons (dCon (.str "behind")) dNil))))) dNext) dNext) b__law_words_2)
def b__law_words : DS := (dSeq (dIf (dTst (dBin aEq (dVar 0) (dTup (dCons (dCon (.str "stretch")) (dCons (dCon (.str "stretch")) dNil))))) b__law_words_B0 dNext) b__law_words_1)
abbrev s__law_kinds : Stmt := top 21
abbrev N__law_kinds : List Str := ["_law_feed_here", "_law_many", "_law_some"]
abbrev p__law_kinds : List Str := ["_law_feed_here", "_law_many"]
theorem sc__law_kinds : FnScope N__law_kinds p__law_kinds (defScope s__law_kinds) := ⟨rfl, rfl, rfl, by decide +kernel, rfl, by decide +kernel, by decide +kernel⟩
theorem nd__law_kinds_1 : List.Nodup (["_law_k", "_law_feed_here"] : List Str) := by decide +kernel
theorem nd__law_kinds_2 : List.Nodup (["_law_k"] : List Str) := by decide +kernel
def b__law_kinds_2 : DS := (dSeq (dRet (dCallB bTuple (dCons (dVar 2) dNil))) dNext)
def b__law_kinds_1 : DS := (dSeq (dIf (dTst (dBin aEq (dCall 2 sp__law_draw (dCons (dVar 0) (dCons (dCon (.int 3)) dNil))) (dCon (.int 0)))) (dSeq (dSet 2 (dLC [none] (dRngI (dVar 1)) (gN 0) dTrue (dCon (.str "stretch")))) dNext) dNext) b__law_kinds_2)
def b__law_kinds : DS := (dSeq (dSet 2 (dLC [none, some 0] (dRngI (dVar 1)) (gN 0) dTrue (dBin aIx (dLst (dCons (dCon (.str "point")) (dCons (dCon (.str "stretch")) dNil))) (dCall 2 sp__law_draw (dCons (dVar 1) (dCons (dCon (.int 2)) dNil)))))) b__law_kinds_1)
abbrev s__law_may : Stmt := top 22
abbrev N__law_may : List Str := ["_law_feed_here", "_law_kinds_here", "_law_known", "_law_piece", "_law_found", "_law_way"]
abbrev p__law_may : List Str := ["_law_feed_here", "_law_kinds_here"]
theorem sc__law_may : FnScope N__law_may p__law_may (defScope s__law_may) := ⟨rfl, rfl, rfl, by decide +kernel, rfl, by decide +kernel, by decide +kernel⟩
theorem nd__law_may_1 : List.Nodup (["_law_word_here", "_law_feed_here", "_law_piece"] : List Str) := by decide +kernel
def b__law_may_6 : DS := (dSeq (dRet (dCallB bTuple (dCons (dVar 4) dNil))) dNext)
def b__law_may_5 : DS := (dSeq (dIf (dTst (dBin aEq (dVar 5) (dCon (.int 1)))) (dSeq (dSet 4 (dLst dNil)) dNext) dNext) b__law_may_6)
def b__law_may_4 : DS := (dSeq (dIf (dTst (dBin aEq (dVar 5) (dCon (.int 0)))) (dSeq (dSet 4 (dLst (dCons (dBin aIx (dVar 2) (dCall 2 sp__law_draw (dCons (dVar 0) (dCons (dCallB bLen (dCons (dVar 2) dNil)) dNil)))) dNil))) dNext) dNext) b__law_may_5)
def b__law_may_3 : DS := (dSeq (dSet 5 (dCall 2 sp__law_draw (dCons (dVar 0) (dCons (dCon (.int 8)) dNil)))) b__law_may_4)
def b__law_may_2 : DS := (dSeq (dSet 4 (dLC [none, some 0, some 3] (dSeqI (dVar 2)) (gN 0) (dTst (dBin aEq (dCall 2 sp__law_draw (dCons (dVar 1) (dCons (dVar 2) dNil))) (dCon (.int 0)))) (dVar 0))) b__law_may_3)
def b__law_may_1 : DS := (dSeq (dSet 3 (dBin aAdd (dCon (.int 1)) (dCall 2 sp__law_draw (dCons (dVar 0) (dCons (dCon (.int 5)) dNil))))) b__law_may_2)
def b__law_may : DS := (dSeq (dSet 2 (dCall 1 sp__law_words (dCons (dVar 1) dNil))) b__law_may_1)
abbrev s__law_grid : Stmt := top 23
abbrev N__law_grid : List Str := ["_law_kind", "_law_some", "_law_found", "_law_one"]
abbrev p__law_grid : List Str := ["_law_kind", "_law_some"]
theorem sc__law_grid : FnScope N__law_grid p__law_grid (defScope s__law_grid) := ⟨rfl, rfl, rfl, by decide +kernel, rfl, by decide +kernel, by decide +kernel⟩
theorem nd__law_grid_1 : List.Nodup (["_law_one"] : List Str) := by decide +kernel
theorem nd__law_grid_2 : List.Nodup (["_law_other", "_law_one"] : List Str) := by decide +kernel
def b__law_grid_L0 : DS := (dSeq (dSet 2 (dBin aAdd (dVar 2) (dLC [none, some 3] (dSeqI (dVar 1)) (gN 0) (dTst (dBin aGt (dVar 0) (dVar 1))) (dTup (dCons (dTup (dCons (dVar 1) (dCons (dCon (.int 1)) dNil))) (dCons (dTup (dCons (dVar 0) (dCons (dCon (.int 1)) dNil))) dNil)))))) dNext)
def b__law_grid_3 : DS := (dSeq (dRet (dVar 2)) dNext)
def b__law_grid_2 : DS := (dSeq (dFor (dSeqI (dVar 1)) (gN 3) b__law_grid_L0) b__law_grid_3)
def b__law_grid_1 : DS := (dSeq (dSet 2 (dLst dNil)) b__law_grid_2)
def b__law_grid : DS := (dSeq (dIf (dTst (dBin aEq (dVar 0) (dCon (.str "point")))) (dSeq (dRet (dLC [none] (dSeqI (dVar 1)) (gN 0) dTrue (dTup (dCons (dVar 0) (dCons (dCon (.int 1)) dNil))))) dNext) dNext) b__law_grid_1)
abbrev s__law_reached : Stmt := top 24
abbrev N__law_reached : List Str := ["_law_kinds_here", "_law_one", "_law_other", "_law_met", "_law_begun", "_law_first", "_law_second", "_law_word_here", "_law_third"]
abbrev p__law_reached : List Str := ["_law_kinds_here", "_law_one", "_law_other"]
theorem sc__law_reached : FnScope N__law_reached p__law_reached (defScope s__law_reached) := ⟨rfl, rfl, rfl, by decide +kernel, rfl, by decide +kernel, by decide +kernel⟩
theorem nd__law_reached_1 : List.Nodup (["_law_word_here", "_law_met"] : List Str) := by decide +kernel
def b__law_reached_L2 : DS := (dSeq (dIf (dTst (dBin aIn (dCall 2 sp__law_word (dCons (dVar 6) (dCons (dVar 8) dNil))) (dVar 2))) (dSeq (dDPut (dVar 3) (dCall 2 sp__law_word (dCons (dVar 5) (dCons (dVar 8) dNil))) (dCon (.bool true))) dNext) dNext) dNext)
def b__law_reached_B0_1 : DS := (dSeq (dFor (dSeqI (dCall 2 sp__law_grid (dCons (dBin aIx (dVar 0) (dCon (.int 2))) (dCons (dLstRng2 (dCon (.int 1)) (dCon (.int 15))) dNil)))) (gN 8) b__law_reached_L2) dNext)
def b__law_reached_B0 : DS := (dSeq (dDPut (dVar 4) (dVar 7) (dCon (.bool true))) b__law_reached_B0_1)
def b__law_reached_L1_1 : DS := (dSeq (dIf (dAndT (dTst (dBin aIn (dVar 7) (dVar 1))) (dTst (dBin aNotInK (dVar 7) (dVar 4)))) b__law_reached_B0 dNext) dNext)
def b__law_reached_L1 : DS := (dSeq (dSet 7 (dCall 2 sp__law_word (dCons (dVar 5) (dCons (dVar 6) dNil)))) b__law_reached_L1_1)
def b__law_reached_L0 : DS := (dSeq (dFor (dSeqI (dCall 2 sp__law_grid (dCons (dBin aIx (dVar 0) (dCon (.int 1))) (dCons (dLst (dCons (dCon (.int 3)) (dCons (dCon (.int 6)) (dCons (dCon (.int 9)) (dCons (dCon (.int 12)) dNil))))) dNil)))) (gN 6) b__law_reached_L1) dNext)
def b__law_reached_3 : DS := (dSeq (dRet (dCallB bTuple (dCons (dLC [none, some 3] (dSeqI (dCall 1 sp__law_words (dCons (dTup (dCons (dBin aIx (dVar 0) (dCon (.int 0))) (dCons (dBin aIx (dVar 0) (dCon (.int 2))) dNil))) dNil))) (gN 0) (dTst (dBin aInK (dVar 0) (dVar 1))) (dVar 0)) dNil))) dNext)
def b__law_reached_2 : DS := (dSeq (dFor (dSeqI (dCall 2 sp__law_grid (dCons (dBin aIx (dVar 0) (dCon (.int 0))) (dCons (dLst (dCons (dCon (.int 3)) (dCons (dCon (.int 6)) (dCons (dCon (.int 9)) (dCons (dCon (.int 12)) dNil))))) dNil)))) (gN 5) b__law_reached_L0) b__law_reached_3)
def b__law_reached_1 : DS := (dSeq (dSet 4 dDNew) b__law_reached_2)
def b__law_reached : DS := (dSeq (dSet 3 dDNew) b__law_reached_1)
abbrev s_law : Stmt := top 25
abbrev N_law : List Str := ["_law_script", "_law_k", "_law_feed_here", "_law_kinds_here", "_law_one", "_law_other"]
abbrev p_law : List Str := ["_law_script"]
theorem sc_law : FnScope N_law p_law (defScope s_law) := ⟨rfl, rfl, rfl, by decide +kernel, rfl, by decide +kernel, by decide +kernel⟩
def b_law_L0_5 : DS := (dSeq (dIf (dTst (dBin aNe (dCallB bRepr (dCons (dCall 3 sp_behind_mays (dCons (dVar 3) (dCons (dVar 4) (dCons (dVar 5) dNil)))) dNil)) (dCallB bRepr (dCons (dCall 3 sp__law_reached (dCons (dVar 3) (dCons (dVar 4) (dCons (dVar 5) dNil)))) dNil)))) (dSeq (dRet (dCon (.bool false))) dNext) dNext) dNext)
def b_law_L0_4 : DS := (dSeq (dIf (dOrT (dTst (dBin aGt (dVar 1) (dCon (.int 0)))) (dTst (dBin aGt (dCall 2 sp__law_draw (dCons (dVar 2) (dCons (dCon (.int 4)) dNil))) (dCon (.int 0))))) (dSeq (dSet 5 (dSlX (dSlX (dVar 5) (dPart (dCall 2 sp__law_draw (dCons (dVar 2) (dCons (dBin aAdd (dCallB bLen (dCons (dVar 5) dNil)) (dCon (.int 1))) dNil)))) dNoP) dNoP (dPart (dCon (.int 4))))) dNext) dNext) b_law_L0_5)
def b_law_L0_3 : DS := (dSeq (dSet 5 (dCall 2 sp__law_may (dCons (dVar 2) (dCons (dSlX (dVar 3) (dPart (dCon (.int 1))) dNoP) dNil)))) b_law_L0_4)
def b_law_L0_2 : DS := (dSeq (dSet 4 (dCall 2 sp__law_may (dCons (dVar 2) (dCons (dSlX (dVar 3) dNoP (dPart (dCon (.int 2)))) dNil)))) b_law_L0_3)
def b_law_L0_1 : DS := (dSeq (dSet 3 (dCall 2 sp__law_kinds (dCons (dVar 2) (dCons (dCon (.int 3)) dNil)))) b_law_L0_2)
def b_law_L0 : DS := (dSeq (dSet 2 (dCall 2 sp__law_feed (dCons (dVar 0) (dCons (dVar 1) dNil)))) b_law_L0_1)
def b_law_1 : DS := (dSeq (dRet (dCon (.bool true))) dNext)
def b_law : DS := (dSeq (dFor (dRngI (dCon (.int 2))) (gN 1) b_law_L0) b_law_1)
end K07
namespace K07
open PySem PySem.Spec PyProof.Rows L2 DL
section
variable {P : Program} {w : World} {K : PySem.W.Frag} {mg : Str → Option Value} {base : Heap}
theorem ok_words_of {a_words_of : Addr} {fd_words_of : FuncData} (F_words_of : Fun K "words_of" "words_of" s_words_of a_words_of fd_words_of) {c_POINT_WORDS : Addr} (M_POINT_WORDS : mg "POINT_WORDS" = some (.ref c_POINT_WORDS)) (K_POINT_WORDS : KTD K w c_POINT_WORDS tt_POINT_WORDS) {c_ORDER : Addr} (M_ORDER : mg "ORDER" = some (.ref c_ORDER)) (K_ORDER : KT K c_ORDER ["ahead", "meets", "overlaps", "begins", "within", "ends", "same", "ended", "holds", "begun", "lapped", "met", "behind"])
    (vc : ∀ ds m R, ds.length = p_words_of.length → sp_words_of ds m R → b_words_of { nx := fun _ m => R (.dat .none) m, rt := R } (start2 N_words_of ds) m) : FnOk P w K mg base CX0 1 a_words_of fd_words_of p_words_of (LSp K 1 sp_words_of) :=
  qfn_body (k := 0) F_words_of sc_words_of (body := b_words_of) (fun cdv A outer s H E hr => have nd := (sc_words_of).nd; (qlss_cons (qls_ret (qle_tget2C hr.u100 rfl M_POINT_WORDS K_POINT_WORDS (qle_var 0) (qle_cst rfl M_ORDER K_ORDER))) qlss_nil)) vc
theorem ok_ways_by {a_ways_by : Addr} {fd_ways_by : FuncData} (F_ways_by : Fun K "ways_by" "ways_by" s_ways_by a_ways_by fd_ways_by) {c_WAYS : Addr} (M_WAYS : mg "WAYS" = some (.ref c_WAYS)) (K_WAYS : KD K w c_WAYS tb_WAYS)
    (vc : ∀ ds m R, ds.length = p_ways_by.length → sp_ways_by ds m R → b_ways_by { nx := fun _ m => R (.dat .none) m, rt := R } (start2 N_ways_by ds) m) : FnOk P w K mg base CX0 1 a_ways_by fd_ways_by p_ways_by (LSp K 2 sp_ways_by) :=
  qfn_body (k := 0) F_ways_by sc_ways_by (body := b_ways_by) (fun cdv A outer s H E hr => have nd := (sc_ways_by).nd; (qlss_cons (qls_set 2 nd (qle_dgetC rfl M_WAYS K_WAYS (qle_var 1))) (qlss_cons (qls_if (qlt_cmp (od_eq hr.u100) (qle_var 0) (qle_tup (qla_cons qle_str (qla_cons qle_str qla_nil)))) (qlss_cons (qls_ret (qle_var 2)) qlss_nil) qlss_nil) (qlss_cons (qls_if (qlt_cmp (od_eq hr.u100) (qle_var 0) (qle_tup (qla_cons qle_str (qla_cons qle_str qla_nil)))) (qlss_cons (qls_ret (qle_slX (qle_var 2) qlo_none (qlo_some qle_int))) qlss_nil) qlss_nil) (qlss_cons (qls_ret (qle_tup (qla_cons (qle_ix (qle_var 2) qle_int) (qla_cons (qle_ix (qle_var 2) qle_int) qla_nil)))) qlss_nil))))) vc
theorem ok_forced_way {a_forced_way : Addr} {fd_forced_way : FuncData} (F_forced_way : Fun K "forced_way" "forced_way" s_forced_way a_forced_way fd_forced_way) 
    (vc : ∀ ds m R, ds.length = p_forced_way.length → sp_forced_way ds m R → b_forced_way { nx := fun _ m => R (.dat .none) m, rt := R } (start2 N_forced_way ds) m) : FnOk P w K mg base CX0 1 a_forced_way fd_forced_way p_forced_way (LSp K 2 sp_forced_way) :=
  qfn_body (k := 0) F_forced_way sc_forced_way (body := b_forced_way) (fun cdv A outer s H E hr => have nd := (sc_forced_way).nd; (qlss_cons (qls_if (qlt_cmp (od_eq hr.u100) (qle_var 0) qle_int) (qlss_cons (qls_ret (qle_var 1)) qlss_nil) qlss_nil) (qlss_cons (qls_if (QW.pt (qlw_or (qlt_cmp (od_eq hr.u100) (qle_var 1) qle_int) (qlw_or1 (qlt_cmp (od_eq hr.u100) (qle_var 1) (qle_var 0))))) (qlss_cons (qls_ret (qle_var 0)) qlss_nil) qlss_nil) (qlss_cons (qls_ret qle_non) qlss_nil)))) vc
theorem ok_forced_by {a_forced_by : Addr} {fd_forced_by : FuncData} (F_forced_by : Fun K "forced_by" "forced_by" s_forced_by a_forced_by fd_forced_by) {a_forced_way : Addr} {fd_forced_way : FuncData} (F_forced_way : Fun K "forced_way" "forced_way" s_forced_way a_forced_way fd_forced_way) (B_forced_way : Binds K fd_forced_way p_forced_way []) (M_forced_way : mg "forced_way" = some (.ref a_forced_way)) (C_forced_way : FnOk P w K mg base CX0 1 a_forced_way fd_forced_way p_forced_way (LSp K 2 sp_forced_way)) (m_zip : mg "zip" = none)
    (vc : ∀ ds m R, ds.length = p_forced_by.length → sp_forced_by ds m R → b_forced_by { nx := fun _ m => R (.dat .none) m, rt := R } (start2 N_forced_by ds) m) : FnOk P w K mg base CX0 2 a_forced_by fd_forced_by p_forced_by (LSp K 2 sp_forced_by) :=
  qfn_body (k := 1) F_forced_by sc_forced_by (body := b_forced_by) (fun cdv A outer s H E hr => have nd := (sc_forced_by).nd; (qlss_cons (qls_for PassesOwn.never rfl (qli_zip rfl m_zip (qle_var 0) (qle_var 1)) (qlg_tup rfl (qlgs_cons (qlg_name 2 nd) (qlgs_cons (qlg_name 3 nd) qlgs_nil))) (qlss_cons (qls_set 4 nd (qle_call C_forced_way (hr.mono (by decide)) M_forced_way F_forced_way.kp B_forced_way rfl (qla_cons (qle_var 2) (qla_cons (qle_var 3) qla_nil)))) (qlss_cons (qls_if (qlt_cmp od_notN (qle_var 4) qle_non) (qlss_cons (qls_ret (qle_var 4)) qlss_nil) qlss_nil) qlss_nil))) (qlss_cons (qls_ret qle_non) qlss_nil))) vc
theorem ok_forced_ways {a_forced_ways : Addr} {fd_forced_ways : FuncData} (F_forced_ways : Fun K "forced_ways" "forced_ways" s_forced_ways a_forced_ways fd_forced_ways) {a_ways_by : Addr} {fd_ways_by : FuncData} (F_ways_by : Fun K "ways_by" "ways_by" s_ways_by a_ways_by fd_ways_by) (B_ways_by : Binds K fd_ways_by p_ways_by []) (M_ways_by : mg "ways_by" = some (.ref a_ways_by)) (C_ways_by : FnOk P w K mg base CX0 1 a_ways_by fd_ways_by p_ways_by (LSp K 2 sp_ways_by)) {a_forced_by : Addr} {fd_forced_by : FuncData} (F_forced_by : Fun K "forced_by" "forced_by" s_forced_by a_forced_by fd_forced_by) (B_forced_by : Binds K fd_forced_by p_forced_by []) (M_forced_by : mg "forced_by" = some (.ref a_forced_by)) (C_forced_by : FnOk P w K mg base CX0 2 a_forced_by fd_forced_by p_forced_by (LSp K 2 sp_forced_by)) {c_END_COUNTS : Addr} (M_END_COUNTS : mg "END_COUNTS" = some (.ref c_END_COUNTS)) (K_END_COUNTS : KD K w c_END_COUNTS tb_END_COUNTS) (m_range : mg "range" = none)
    (vc : ∀ ds m R, ds.length = p_forced_ways.length → sp_forced_ways ds m R → b_forced_ways { nx := fun _ m => R (.dat .none) m, rt := R } (start2 N_forced_ways ds) m) : FnOk P w K mg base CX0 3 a_forced_ways fd_forced_ways p_forced_ways (LSp K 3 sp_forced_ways) :=
  qfn_body (k := 2) F_forced_ways sc_forced_ways (body := b_forced_ways) (fun cdv A outer s H E hr => have nd := (sc_forced_ways).nd; (qlss_cons (qls_asg (qle_var 0) (qlg_tup rfl (qlgs_cons (qlg_name 3 nd) (qlgs_cons (qlg_name 4 nd) (qlgs_cons (qlg_name 5 nd) qlgs_nil))))) (qlss_cons (qls_set 6 nd (qle_dgetC rfl M_END_COUNTS K_END_COUNTS (qle_var 4))) (qlss_cons (qls_set 7 nd (qle_dgetC rfl M_END_COUNTS K_END_COUNTS (qle_var 5))) (qlss_cons (qls_set 8 nd (qle_call C_ways_by (hr.mono (by decide)) M_ways_by F_ways_by.kp B_ways_by rfl (qla_cons (qle_tup (qla_cons (qle_var 3) (qla_cons (qle_var 4) qla_nil))) (qla_cons (qle_var 1) qla_nil)))) (qlss_cons (qls_set 9 nd (qle_call C_ways_by (hr.mono (by decide)) M_ways_by F_ways_by.kp B_ways_by rfl (qla_cons (qle_tup (qla_cons (qle_var 4) (qla_cons (qle_var 5) qla_nil))) (qla_cons (qle_var 2) qla_nil)))) (qlss_cons (qls_ret (qle_lc2B ["x", "z", "many", "step", "left", "right"] [none, none, some 6, some 7, some 8, some 9] rfl (qli_range rfl m_range (qle_dgetC rfl M_END_COUNTS K_END_COUNTS (qle_var 3))) (fun cl C s2 H2 pins fp => (qlg_name 0 nd_forced_ways_1)) (fun cl C s2 H2 pins fp => qpf_nil) (fun cl C s2 H2 pins fp => (qli_range rfl m_range (qle_var 3))) (fun cl C s2 H2 pins fp => (qlg_name 1 nd_forced_ways_1)) (fun cl C s2 H2 pins fp => qpf_nil) (fun cl C s2 H2 pins fp => (qle_call C_forced_by (hr.mono (by decide)) M_forced_by F_forced_by.kp B_forced_by rfl (qla_cons (qle_slX (qle_var 4) (qlo_some (qle_bin od_mul (qle_var 0) (qle_var 2))) (qlo_some (qle_bin od_mul (qle_bin od_add (qle_var 0) qle_int) (qle_var 2)))) (qla_cons (qle_stp (qle_var 5) (qle_var 1) (qle_var 3)) qla_nil)))))) qlss_nil))))))) vc
theorem ok_go_with {a_go_with : Addr} {fd_go_with : FuncData} (F_go_with : Fun K "go_with" "go_with" s_go_with a_go_with fd_go_with) (m_zip : mg "zip" = none)
    (vc : ∀ ds m R, ds.length = p_go_with.length → sp_go_with ds m R → b_go_with { nx := fun _ m => R (.dat .none) m, rt := R } (start2 N_go_with ds) m) : FnOk P w K mg base CX0 1 a_go_with fd_go_with p_go_with (LSp K 2 sp_go_with) :=
  qfn_body (k := 0) F_go_with sc_go_with (body := b_go_with) (fun cdv A outer s H E hr => have nd := (sc_go_with).nd; (qlss_cons (qls_for PassesOwn.never rfl (qli_zipL rfl m_zip (qle_var 0) (qle_var 1)) (qlg_tup rfl (qlgs_cons (qlg_name 2 nd) (qlgs_cons (qlg_name 3 nd) qlgs_nil))) (qlss_cons (qls_if (QW.pt (qlw_and (qlt_cmp od_notN (qle_var 2) qle_non) (qlw_and1 (qlt_cmp (od_ne hr.u100) (qle_var 2) (qle_var 3))))) (qlss_cons (qls_ret qle_bl) qlss_nil) qlss_nil) qlss_nil)) (qlss_cons (qls_ret qle_bl) qlss_nil))) vc
theorem ok_behind_words {a_behind_words : Addr} {fd_behind_words : FuncData} (F_behind_words : Fun K "behind_words" "behind_words" s_behind_words a_behind_words fd_behind_words) {a_forced_ways : Addr} {fd_forced_ways : FuncData} (F_forced_ways : Fun K "forced_ways" "forced_ways" s_forced_ways a_forced_ways fd_forced_ways) (B_forced_ways : Binds K fd_forced_ways p_forced_ways []) (M_forced_ways : mg "forced_ways" = some (.ref a_forced_ways)) (C_forced_ways : FnOk P w K mg base CX0 3 a_forced_ways fd_forced_ways p_forced_ways (LSp K 3 sp_forced_ways)) {a_words_of : Addr} {fd_words_of : FuncData} (F_words_of : Fun K "words_of" "words_of" s_words_of a_words_of fd_words_of) (B_words_of : Binds K fd_words_of p_words_of []) (M_words_of : mg "words_of" = some (.ref a_words_of)) (C_words_of : FnOk P w K mg base CX0 1 a_words_of fd_words_of p_words_of (LSp K 1 sp_words_of)) {a_go_with : Addr} {fd_go_with : FuncData} (F_go_with : Fun K "go_with" "go_with" s_go_with a_go_with fd_go_with) (B_go_with : Binds K fd_go_with p_go_with []) (M_go_with : mg "go_with" = some (.ref a_go_with)) (C_go_with : FnOk P w K mg base CX0 1 a_go_with fd_go_with p_go_with (LSp K 2 sp_go_with)) {a_ways_by : Addr} {fd_ways_by : FuncData} (F_ways_by : Fun K "ways_by" "ways_by" s_ways_by a_ways_by fd_ways_by) (B_ways_by : Binds K fd_ways_by p_ways_by []) (M_ways_by : mg "ways_by" = some (.ref a_ways_by)) (C_ways_by : FnOk P w K mg base CX0 1 a_ways_by fd_ways_by p_ways_by (LSp K 2 sp_ways_by)) (m_tuple : mg "tuple" = none)
    (vc : ∀ ds m R, ds.length = p_behind_words.length → sp_behind_words ds m R → b_behind_words { nx := fun _ m => R (.dat .none) m, rt := R } (start2 N_behind_words ds) m) : FnOk P w K mg base CX0 4 a_behind_words fd_behind_words p_behind_words (LSp K 3 sp_behind_words) :=
  qfn_body (k := 3) F_behind_words sc_behind_words (body := b_behind_words) (fun cdv A outer s H E hr => have nd := (sc_behind_words).nd; (qlss_cons (qls_asg (qle_var 0) (qlg_tup rfl (qlgs_cons (qlg_name 3 nd) (qlgs_cons (qlg_name 4 nd) (qlgs_cons (qlg_name 5 nd) qlgs_nil))))) (qlss_cons (qls_set 6 nd (qle_tup (qla_cons (qle_var 3) (qla_cons (qle_var 5) qla_nil)))) (qlss_cons (qls_set 7 nd (qle_call C_forced_ways (hr.mono (by decide)) M_forced_ways F_forced_ways.kp B_forced_ways rfl (qla_cons (qle_var 0) (qla_cons (qle_var 1) (qla_cons (qle_var 2) qla_nil))))) (qlss_cons (qls_ret (qle_callTy cd_tuple rfl m_tuple boot_tuple_ (qla_cons (qle_lcB ["word", "ends", "forced"] [none, some 6, some 7] rfl (qli_seq (qle_call C_words_of (hr.mono (by decide)) M_words_of F_words_of.kp B_words_of rfl (qla_cons (qle_var 6) qla_nil))) (fun cl C s2 H2 pins fp => (qlg_name 0 nd_behind_words_1)) (fun cl C s2 H2 pins fp => (qpf_one (qlt_val (qle_call C_go_with (hr.mono (by decide)) M_go_with F_go_with.kp B_go_with rfl (qla_cons (qle_var 2) (qla_cons (qle_call C_ways_by (hr.mono (by decide)) M_ways_by F_ways_by.kp B_ways_by rfl (qla_cons (qle_var 1) (qla_cons (qle_var 0) qla_nil))) qla_nil)))))) (fun cl C s2 H2 pins fp => (qle_var 0))) qla_nil))) qlss_nil))))) vc
theorem ok_Behinds___init__ {a_Behinds___init__ : Addr} {fd_Behinds___init__ : FuncData} (F_Behinds___init__ : Fun K "__init__" "Behinds.__init__" s_Behinds___init__ a_Behinds___init__ fd_Behinds___init__) {C_Behinds : Addr} (G_Behinds : PySem.W.nsIn K mainGlobals "Behinds" = some (some (.ref C_Behinds))) (T_Behinds : Cls K C_Behinds) (A_Behinds_by_words : NoAttr K C_Behinds "by_words") (A_Behinds_by_mays : NoAttr K C_Behinds "by_mays")
    (vc : ∀ ds m R, ds.length = p_Behinds___init__.length → sp_Behinds___init__ ds m R → b_Behinds___init__ { nx := fun _ m => R (.dat .none) m, rt := R } (start2 N_Behinds___init__ ds) m) : FnOk P w K mg base CX0 1 a_Behinds___init__ fd_Behinds___init__ p_Behinds___init__ (LSp K 1 sp_Behinds___init__) :=
  qfn_body (k := 0) F_Behinds___init__ sc_Behinds___init__ (body := b_Behinds___init__) (fun cdv A outer s H E hr => have nd := (sc_Behinds___init__).nd; (qlss_cons (qls_fput G_Behinds T_Behinds A_Behinds_by_words qle_nnew (qle_var 0)) (qlss_cons (qls_fput G_Behinds T_Behinds A_Behinds_by_mays qle_nnew (qle_var 0)) qlss_nil))) vc
theorem ok_Behinds_words {a_Behinds_words : Addr} {fd_Behinds_words : FuncData} (F_Behinds_words : Fun K "words" "Behinds.words" s_Behinds_words a_Behinds_words fd_Behinds_words) {C_Behinds : Addr} (G_Behinds : PySem.W.nsIn K mainGlobals "Behinds" = some (some (.ref C_Behinds))) (T_Behinds : Cls K C_Behinds) (A_Behinds_by_words : NoAttr K C_Behinds "by_words") {a_behind_words : Addr} {fd_behind_words : FuncData} (F_behind_words : Fun K "behind_words" "behind_words" s_behind_words a_behind_words fd_behind_words) (B_behind_words : Binds K fd_behind_words p_behind_words []) (M_behind_words : mg "behind_words" = some (.ref a_behind_words)) (C_behind_words : FnOk P w K mg base CX0 4 a_behind_words fd_behind_words p_behind_words (LSp K 3 sp_behind_words))
    (vc : ∀ ds m R, ds.length = p_Behinds_words.length → sp_Behinds_words ds m R → b_Behinds_words { nx := fun _ m => R (.dat .none) m, rt := R } (start2 N_Behinds_words ds) m) : FnOk P w K mg base CX0 5 a_Behinds_words fd_Behinds_words p_Behinds_words (LSp K 4 sp_Behinds_words) :=
  qfn_body (k := 4) F_Behinds_words sc_Behinds_words (body := b_Behinds_words) (fun cdv A outer s H E hr => have nd := (sc_Behinds_words).nd; (qlss_cons (qls_set 4 nd (qle_tup (qla_cons (qle_var 1) (qla_cons (qle_var 2) (qla_cons (qle_var 3) qla_nil))))) (qlss_cons (qls_if (qlt_cmp (od_notInN hr.u100) (qle_var 4) (qle_fld G_Behinds T_Behinds A_Behinds_by_words (qle_var 0)) (hm := by with_unfolding_all rfl)) (qlss_cons (qls_nput hr.u100 (qle_call C_behind_words (hr.mono (by decide)) M_behind_words F_behind_words.kp B_behind_words rfl (qla_cons (qle_var 1) (qla_cons (qle_var 2) (qla_cons (qle_var 3) qla_nil)))) (qle_fld G_Behinds T_Behinds A_Behinds_by_words (qle_var 0)) (qle_var 4)) qlss_nil) qlss_nil) (qlss_cons (qls_ret (qle_nget hr.u100 (qle_fld G_Behinds T_Behinds A_Behinds_by_words (qle_var 0)) (qle_var 4))) qlss_nil)))) vc
theorem ok_Behinds_gathered {a_Behinds_gathered : Addr} {fd_Behinds_gathered : FuncData} (F_Behinds_gathered : Fun K "gathered" "Behinds.gathered" s_Behinds_gathered a_Behinds_gathered fd_Behinds_gathered) {C_Behinds : Addr} (G_Behinds : PySem.W.nsIn K mainGlobals "Behinds" = some (some (.ref C_Behinds))) (T_Behinds : Cls K C_Behinds) {a_words_of : Addr} {fd_words_of : FuncData} (F_words_of : Fun K "words_of" "words_of" s_words_of a_words_of fd_words_of) (B_words_of : Binds K fd_words_of p_words_of []) (M_words_of : mg "words_of" = some (.ref a_words_of)) (C_words_of : FnOk P w K mg base CX0 1 a_words_of fd_words_of p_words_of (LSp K 1 sp_words_of)) {a_Behinds_words : Addr} {fd_Behinds_words : FuncData} (F_Behinds_words : Fun K "words" "Behinds.words" s_Behinds_words a_Behinds_words fd_Behinds_words) (B_Behinds_words : Binds K fd_Behinds_words p_Behinds_words []) (H_Behinds_words : Meth K C_Behinds "words" a_Behinds_words) (C_Behinds_words : FnOk P w K mg base CX0 5 a_Behinds_words fd_Behinds_words p_Behinds_words (LSp K 4 sp_Behinds_words)) (m_len : mg "len" = none) (m_tuple : mg "tuple" = none)
    (vc : ∀ ds m R, ds.length = p_Behinds_gathered.length → sp_Behinds_gathered ds m R → b_Behinds_gathered { nx := fun _ m => R (.dat .none) m, rt := R } (start2 N_Behinds_gathered ds) m) : FnOk P w K mg base CX0 6 a_Behinds_gathered fd_Behinds_gathered p_Behinds_gathered (LSp K 4 sp_Behinds_gathered) :=
  qfn_body (k := 5) F_Behinds_gathered sc_Behinds_gathered (body := b_Behinds_gathered) (fun cdv A outer s H E hr => have nd := (sc_Behinds_gathered).nd; (qlss_cons (qls_set 4 nd (qle_call C_words_of (hr.mono (by decide)) M_words_of F_words_of.kp B_words_of rfl (qla_cons (qle_tup (qla_cons (qle_ix (qle_var 1) qle_int) (qla_cons (qle_ix (qle_var 1) qle_int) qla_nil))) qla_nil))) (qlss_cons (qls_set 5 nd qle_dnew) (qlss_cons (qls_for PassesOwn.never rfl (qli_seq (qle_var 2)) (qlg_name 6 nd) (qlss_cons (qls_for PassesOwn.never rfl (qli_seq (qle_var 3)) (qlg_name 7 nd) (qlss_cons (qls_if (qlt_cmp (od_eq hr.u100) (qle_callB cd_lenD rfl m_len boot_len_ (qla_cons (qle_var 5) qla_nil)) (qle_callB cd_len rfl m_len boot_len_ (qla_cons (qle_var 4) qla_nil))) (qlss_cons (qls_ret (qle_var 4)) qlss_nil) qlss_nil) (qlss_cons (qls_for PassesOwn.never rfl (qli_seq (qle_meth G_Behinds T_Behinds H_Behinds_words C_Behinds_words (hr.mono (by decide)) B_Behinds_words rfl (qle_var 0) (qla_cons (qle_var 1) (qla_cons (qle_var 6) (qla_cons (qle_var 7) qla_nil))))) (qlg_name 8 nd) (qlss_cons (qls_dput hr.u100 qle_bl (qle_var 5) (qle_var 8)) qlss_nil)) qlss_nil))) qlss_nil)) (qlss_cons (qls_ret (qle_callTy cd_tuple rfl m_tuple boot_tuple_ (qla_cons (qle_lcB ["word", "found"] [none, some 5] rfl (qli_seq (qle_var 4)) (fun cl C s2 H2 pins fp => (qlg_name 0 nd_Behinds_gathered_1)) (fun cl C s2 H2 pins fp => (qpf_one (qlt_cmp (od_inK hr.u100) (qle_var 0) (qle_var 1) (hm := by with_unfolding_all rfl)))) (fun cl C s2 H2 pins fp => (qle_var 0))) qla_nil))) qlss_nil))))) vc
theorem ok_behind_mays {a_behind_mays : Addr} {fd_behind_mays : FuncData} (F_behind_mays : Fun K "behind_mays" "behind_mays" s_behind_mays a_behind_mays fd_behind_mays) {C_Behinds : Addr} (G_Behinds : PySem.W.nsIn K mainGlobals "Behinds" = some (some (.ref C_Behinds))) (T_Behinds : Cls K C_Behinds) {a_Behinds_gathered : Addr} {fd_Behinds_gathered : FuncData} (F_Behinds_gathered : Fun K "gathered" "Behinds.gathered" s_Behinds_gathered a_Behinds_gathered fd_Behinds_gathered) (B_Behinds_gathered : Binds K fd_Behinds_gathered p_Behinds_gathered []) (H_Behinds_gathered : Meth K C_Behinds "gathered" a_Behinds_gathered) (C_Behinds_gathered : FnOk P w K mg base CX0 6 a_Behinds_gathered fd_Behinds_gathered p_Behinds_gathered (LSp K 4 sp_Behinds_gathered)) {a_Behinds___init__ : Addr} {fd_Behinds___init__ : FuncData} (F_Behinds___init__ : Fun K "__init__" "Behinds.__init__" s_Behinds___init__ a_Behinds___init__ fd_Behinds___init__) (B_Behinds___init__ : Binds K fd_Behinds___init__ p_Behinds___init__ [])  (C_Behinds___init__ : FnOk P w K mg base CX0 1 a_Behinds___init__ fd_Behinds___init__ p_Behinds___init__ (LSp K 1 sp_Behinds___init__)) (M_Behinds : mg "Behinds" = some (.ref C_Behinds)) (K_Behinds : Mk K C_Behinds a_Behinds___init__)
    (vc : ∀ ds m R, ds.length = p_behind_mays.length → sp_behind_mays ds m R → b_behind_mays { nx := fun _ m => R (.dat .none) m, rt := R } (start2 N_behind_mays ds) m) : FnOk P w K mg base CX0 7 a_behind_mays fd_behind_mays p_behind_mays (LSp K 3 sp_behind_mays) :=
  qfn_body (k := 6) F_behind_mays sc_behind_mays (body := b_behind_mays) (fun cdv A outer s H E hr => have nd := (sc_behind_mays).nd; (qlss_cons (qls_ret (qle_meth G_Behinds T_Behinds H_Behinds_gathered C_Behinds_gathered (hr.mono (by decide)) B_Behinds_gathered rfl (qle_make0 G_Behinds K_Behinds M_Behinds C_Behinds___init__ (hr.mono (by decide)) B_Behinds___init__) (qla_cons (qle_var 0) (qla_cons (qle_var 1) (qla_cons (qle_var 2) qla_nil))))) qlss_nil)) vc
theorem ok__law_feed {a__law_feed : Addr} {fd__law_feed : FuncData} (F__law_feed : Fun K "_law_feed" "_law_feed" s__law_feed a__law_feed fd__law_feed) (m_len : mg "len" = none) (m_max : mg "max" = none)
    (vc : ∀ ds m R, ds.length = p__law_feed.length → sp__law_feed ds m R → b__law_feed { nx := fun _ m => R (.dat .none) m, rt := R } (start2 N__law_feed ds) m) : FnOk P w K mg base CX0 1 a__law_feed fd__law_feed p__law_feed (LSp K 2 sp__law_feed) :=
  qfn_body (k := 0) F__law_feed sc__law_feed (body := b__law_feed) (fun cdv A outer s H E hr => have nd := (sc__law_feed).nd; (qlss_cons (qls_if (qlt_cmp (od_eq hr.u100) (qle_callB cd_len rfl m_len boot_len_ (qla_cons (qle_var 0) qla_nil)) qle_int) (qlss_cons (qls_ret (qle_lstC (qla_cons qle_int (qla_cons qle_int (qla_cons (qle_var 1) (qla_cons qle_int qla_nil)))))) qlss_nil) qlss_nil) (qlss_cons (qls_set 2 nd (qle_ix (qle_var 0) (qle_bin od_mod (qle_var 1) (qle_callB cd_len rfl m_len boot_len_ (qla_cons (qle_var 0) qla_nil))))) (qlss_cons (qls_ret (qle_lstC (qla_cons (qle_callB (cd_max rfl) rfl m_max boot_max_ (qla_cons qle_int (qla_cons (qle_bin od_sub (qle_var 2) (qle_bin od_pow qle_int qle_int)) qla_nil))) (qla_cons (qle_var 2) (qla_cons (qle_var 1) (qla_cons qle_int qla_nil)))))) qlss_nil)))) vc
theorem ok__law_draw {a__law_draw : Addr} {fd__law_draw : FuncData} (F__law_draw : Fun K "_law_draw" "_law_draw" s__law_draw a__law_draw fd__law_draw) 
    (vc : ∀ ds m R, ds.length = p__law_draw.length → sp__law_draw ds m R → b__law_draw { nx := fun _ m => R (.dat .none) m, rt := R } (start2 N__law_draw ds) m) : FnOk P w K mg base CX0 1 a__law_draw fd__law_draw p__law_draw (LSp K 2 sp__law_draw) :=
  qfn_body (k := 0) F__law_draw sc__law_draw (body := b__law_draw) (fun cdv A outer s H E hr => have nd := (sc__law_draw).nd; (qlss_cons (qls_put (qle_bin od_add (qle_ix (qle_var 0) qle_int) qle_int) (qle_var 0) qle_int) (qlss_cons (qls_if (qlt_cmp od_gt (qle_ix (qle_var 0) qle_int) qle_int) (qlss_cons (qls_set 2 nd (qle_bin od_mod (qle_ix (qle_var 0) qle_int) (qle_var 1))) (qlss_cons (qls_put (qle_bin od_div (qle_ix (qle_var 0) qle_int) (qle_var 1)) (qle_var 0) qle_int) (qlss_cons (qls_ret (qle_var 2)) qlss_nil))) qlss_nil) (qlss_cons (qls_set 3 nd (qle_bin od_mod (qle_bin od_add (qle_bin od_add (qle_ix (qle_var 0) qle_int) (qle_bin od_mul qle_int (qle_ix (qle_var 0) qle_int))) (qle_bin od_mul qle_int (qle_ix (qle_var 0) qle_int))) qle_int)) (qlss_cons (qls_set 3 nd (qle_bin od_mod (qle_bin od_add (qle_bin od_add (qle_bin od_mul (qle_var 3) (qle_var 3)) (qle_bin od_mul qle_int (qle_var 3))) (qle_ix (qle_var 0) qle_int)) qle_int)) (qlss_cons (qls_set 3 nd (qle_bin od_mod (qle_bin od_add (qle_bin od_add (qle_bin od_mul (qle_var 3) (qle_var 3)) (qle_bin od_mul qle_int (qle_var 3))) (qle_ix (qle_var 0) qle_int)) qle_int)) (qlss_cons (qls_ret (qle_bin od_mod (qle_var 3) (qle_var 1))) qlss_nil))))))) vc
theorem ok__law_stand {a__law_stand : Addr} {fd__law_stand : FuncData} (F__law_stand : Fun K "_law_stand" "_law_stand" s__law_stand a__law_stand fd__law_stand) (m_int : mg "int" = none)
    (vc : ∀ ds m R, ds.length = p__law_stand.length → sp__law_stand ds m R → b__law_stand { nx := fun _ m => R (.dat .none) m, rt := R } (start2 N__law_stand ds) m) : FnOk P w K mg base CX0 1 a__law_stand fd__law_stand p__law_stand (LSp K 2 sp__law_stand) :=
  qfn_body (k := 0) F__law_stand sc__law_stand (body := b__law_stand) (fun cdv A outer s H E hr => have nd := (sc__law_stand).nd; (qlss_cons (qls_set 2 nd (qle_bin od_sub (qle_bin od_mul (qle_ix (qle_var 0) qle_int) (qle_ix (qle_var 1) qle_int)) (qle_bin od_mul (qle_ix (qle_var 1) qle_int) (qle_ix (qle_var 0) qle_int)))) (qlss_cons (qls_ret (qle_bin od_sub (qle_callTy cd_int rfl m_int boot_int_ (qla_cons (qle_cmp od_gt (qle_var 2) qle_int) qla_nil)) (qle_callTy cd_int rfl m_int boot_int_ (qla_cons (qle_cmp od_lt (qle_var 2) qle_int) qla_nil)))) qlss_nil))) vc
theorem ok__law_word {a__law_word : Addr} {fd__law_word : FuncData} (F__law_word : Fun K "_law_word" "_law_word" s__law_word a__law_word fd__law_word) {a__law_stand : Addr} {fd__law_stand : FuncData} (F__law_stand : Fun K "_law_stand" "_law_stand" s__law_stand a__law_stand fd__law_stand) (B__law_stand : Binds K fd__law_stand p__law_stand []) (M__law_stand : mg "_law_stand" = some (.ref a__law_stand)) (C__law_stand : FnOk P w K mg base CX0 1 a__law_stand fd__law_stand p__law_stand (LSp K 2 sp__law_stand)) (m_isinstance : mg "isinstance" = none) (m_tuple : mg "tuple" = none)
    (vc : ∀ ds m R, ds.length = p__law_word.length → sp__law_word ds m R → b__law_word { nx := fun _ m => R (.dat .none) m, rt := R } (start2 N__law_word ds) m) : FnOk P w K mg base CX0 2 a__law_word fd__law_word p__law_word (LSp K 2 sp__law_word) :=
  qfn_body (k := 1) F__law_word sc__law_word (body := b__law_word) (fun cdv A outer s H E hr => have nd := (sc__law_word).nd; (qlss_cons (qls_set 2 nd (qle_and (qle_isi rfl m_isinstance rfl m_tuple boot_tuple_ (Or.inr (Or.inr (Or.inr (Or.inl rfl)))) (qle_ix (qle_var 0) qle_int)) (qle_one (qle_isi rfl m_isinstance rfl m_tuple boot_tuple_ (Or.inr (Or.inr (Or.inr (Or.inl rfl)))) (qle_ix (qle_var 1) qle_int))))) (qlss_cons (qls_set 3 nd (qle_ite (qlt_val (qle_isi rfl m_isinstance rfl m_tuple boot_tuple_ (Or.inr (Or.inr (Or.inr (Or.inl rfl)))) (qle_ix (qle_var 0) qle_int))) (qle_var 0) (qle_tup (qla_cons (qle_var 0) (qla_cons (qle_var 0) qla_nil))))) (qlss_cons (qls_set 4 nd (qle_ite (qlt_val (qle_isi rfl m_isinstance rfl m_tuple boot_tuple_ (Or.inr (Or.inr (Or.inr (Or.inl rfl)))) (qle_ix (qle_var 1) qle_int))) (qle_var 1) (qle_tup (qla_cons (qle_var 1) (qla_cons (qle_var 1) qla_nil))))) (qlss_cons (qls_if (qlt_cmp od_lt (qle_call C__law_stand (hr.mono (by decide)) M__law_stand F__law_stand.kp B__law_stand rfl (qla_cons (qle_ix (qle_var 3) qle_int) (qla_cons (qle_ix (qle_var 4) qle_int) qla_nil))) qle_int) (qlss_cons (qls_ret qle_str) qlss_nil) qlss_nil) (qlss_cons (qls_if (qlt_cmp od_gt (qle_call C__law_stand (hr.mono (by decide)) M__law_stand F__law_stand.kp B__law_stand rfl (qla_cons (qle_ix (qle_var 3) qle_int) (qla_cons (qle_ix (qle_var 4) qle_int) qla_nil))) qle_int) (qlss_cons (qls_ret qle_str) qlss_nil) qlss_nil) (qlss_cons (qls_if (QW.pt (qlw_and (qlt_val (qle_var 2)) (qlw_and1 (qlt_cmp (od_eq hr.u100) (qle_call C__law_stand (hr.mono (by decide)) M__law_stand F__law_stand.kp B__law_stand rfl (qla_cons (qle_ix (qle_var 3) qle_int) (qla_cons (qle_ix (qle_var 4) qle_int) qla_nil))) qle_int)))) (qlss_cons (qls_ret qle_str) qlss_nil) qlss_nil) (qlss_cons (qls_if (QW.pt (qlw_and (qlt_val (qle_var 2)) (qlw_and1 (qlt_cmp (od_eq hr.u100) (qle_call C__law_stand (hr.mono (by decide)) M__law_stand F__law_stand.kp B__law_stand rfl (qla_cons (qle_ix (qle_var 3) qle_int) (qla_cons (qle_ix (qle_var 4) qle_int) qla_nil))) qle_int)))) (qlss_cons (qls_ret qle_str) qlss_nil) qlss_nil) (qlss_cons (qls_set 5 nd (qle_tup (qla_cons (qle_tup (qla_cons qle_str (qla_cons qle_str (qla_cons qle_str qla_nil)))) (qla_cons (qle_tup (qla_cons qle_str (qla_cons qle_str (qla_cons qle_str qla_nil)))) (qla_cons (qle_tup (qla_cons qle_str (qla_cons qle_str (qla_cons qle_str qla_nil)))) qla_nil))))) (qlss_cons (qls_ret (qle_ix (qle_ix (qle_var 5) (qle_bin od_add qle_int (qle_call C__law_stand (hr.mono (by decide)) M__law_stand F__law_stand.kp B__law_stand rfl (qla_cons (qle_ix (qle_var 3) qle_int) (qla_cons (qle_ix (qle_var 4) qle_int) qla_nil))))) (qle_bin od_add qle_int (qle_call C__law_stand (hr.mono (by decide)) M__law_stand F__law_stand.kp B__law_stand rfl (qla_cons (qle_ix (qle_var 3) qle_int) (qla_cons (qle_ix (qle_var 4) qle_int) qla_nil)))))) qlss_nil)))))))))) vc
theorem ok__law_words {a__law_words : Addr} {fd__law_words : FuncData} (F__law_words : Fun K "_law_words" "_law_words" s__law_words a__law_words fd__law_words) 
    (vc : ∀ ds m R, ds.length = p__law_words.length → sp__law_words ds m R → b__law_words { nx := fun _ m => R (.dat .none) m, rt := R } (start2 N__law_words ds) m) : FnOk P w K mg base CX0 1 a__law_words fd__law_words p__law_words (LSp K 1 sp__law_words) :=
  qfn_body (k := 0) F__law_words sc__law_words (body := b__law_words) (fun cdv A outer s H E hr => have nd := (sc__law_words).nd; (qlss_cons (qls_if (qlt_cmp (od_eq hr.u100) (qle_var 0) (qle_tup (qla_cons qle_str (qla_cons qle_str qla_nil)))) (qlss_cons (qls_set 1 nd (qle_lst (qla_cons qle_str (qla_cons qle_str (qla_cons qle_str (qla_cons qle_str (qla_cons qle_str (qla_cons qle_str (qla_cons qle_str qla_nil))))))))) (qlss_cons (qls_ret (qle_bin od_add (qle_var 1) (qle_lst (qla_cons qle_str (qla_cons qle_str (qla_cons qle_str (qla_cons qle_str (qla_cons qle_str (qla_cons qle_str qla_nil))))))))) qlss_nil)) qlss_nil) (qlss_cons (qls_if (qlt_cmp (od_eq hr.u100) (qle_var 0) (qle_tup (qla_cons qle_str (qla_cons qle_str qla_nil)))) (qlss_cons (qls_ret (qle_lst (qla_cons qle_str (qla_cons qle_str (qla_cons qle_str qla_nil))))) qlss_nil) qlss_nil) (qlss_cons (qls_if (qlt_cmp (od_eq hr.u100) (qle_ix (qle_var 0) qle_int) qle_str) (qlss_cons (qls_ret (qle_lst (qla_cons qle_str (qla_cons qle_str (qla_cons qle_str (qla_cons qle_str (qla_cons qle_str qla_nil))))))) qlss_nil) qlss_nil) (qlss_cons (qls_ret (qle_lst (qla_cons qle_str (qla_cons qle_str (qla_cons qle_str (qla_cons qle_str (qla_cons qle_str qla_nil))))))) qlss_nil))))) vc
theorem ok__law_kinds {a__law_kinds : Addr} {fd__law_kinds : FuncData} (F__law_kinds : Fun K "_law_kinds" "_law_kinds" s__law_kinds a__law_kinds fd__law_kinds) {a__law_draw : Addr} {fd__law_draw : FuncData} (F__law_draw : Fun K "_law_draw" "_law_draw" s__law_draw a__law_draw fd__law_draw) (B__law_draw : Binds K fd__law_draw p__law_draw []) (M__law_draw : mg "_law_draw" = some (.ref a__law_draw)) (C__law_draw : FnOk P w K mg base CX0 1 a__law_draw fd__law_draw p__law_draw (LSp K 2 sp__law_draw)) (m_range : mg "range" = none) (m_tuple : mg "tuple" = none)
    (vc : ∀ ds m R, ds.length = p__law_kinds.length → sp__law_kinds ds m R → b__law_kinds { nx := fun _ m => R (.dat .none) m, rt := R } (start2 N__law_kinds ds) m) : FnOk P w K mg base CX0 2 a__law_kinds fd__law_kinds p__law_kinds (LSp K 2 sp__law_kinds) :=
  qfn_body (k := 1) F__law_kinds sc__law_kinds (body := b__law_kinds) (fun cdv A outer s H E hr => have nd := (sc__law_kinds).nd; (qlss_cons (qls_lcB 2 ["_law_k", "_law_feed_here"] [none, some 0] rfl nd (qli_range rfl m_range (qle_var 1)) (fun cl C s2 H2 pins fp => (qlg_name 0 nd__law_kinds_1)) (fun cl C s2 H2 pins fp => qpf_nil) (fun cl C s2 H2 pins fp => (qle_ix (qle_lst (qla_cons qle_str (qla_cons qle_str qla_nil))) (qle_call C__law_draw (hr.mono (by decide)) M__law_draw F__law_draw.kp B__law_draw rfl (qla_cons (qle_var 1) (qla_cons qle_int qla_nil)))))) (qlss_cons (qls_if (qlt_cmp (od_eq hr.u100) (qle_call C__law_draw (hr.mono (by decide)) M__law_draw F__law_draw.kp B__law_draw rfl (qla_cons (qle_var 0) (qla_cons qle_int qla_nil))) qle_int) (qlss_cons (qls_lcB 2 ["_law_k"] [none] rfl nd (qli_range rfl m_range (qle_var 1)) (fun cl C s2 H2 pins fp => (qlg_name 0 nd__law_kinds_2)) (fun cl C s2 H2 pins fp => qpf_nil) (fun cl C s2 H2 pins fp => qle_str)) qlss_nil) qlss_nil) (qlss_cons (qls_ret (qle_callTy cd_tuple rfl m_tuple boot_tuple_ (qla_cons (qle_var 2) qla_nil))) qlss_nil)))) vc
theorem ok__law_may {a__law_may : Addr} {fd__law_may : FuncData} (F__law_may : Fun K "_law_may" "_law_may" s__law_may a__law_may fd__law_may) {a__law_words : Addr} {fd__law_words : FuncData} (F__law_words : Fun K "_law_words" "_law_words" s__law_words a__law_words fd__law_words) (B__law_words : Binds K fd__law_words p__law_words []) (M__law_words : mg "_law_words" = some (.ref a__law_words)) (C__law_words : FnOk P w K mg base CX0 1 a__law_words fd__law_words p__law_words (LSp K 1 sp__law_words)) {a__law_draw : Addr} {fd__law_draw : FuncData} (F__law_draw : Fun K "_law_draw" "_law_draw" s__law_draw a__law_draw fd__law_draw) (B__law_draw : Binds K fd__law_draw p__law_draw []) (M__law_draw : mg "_law_draw" = some (.ref a__law_draw)) (C__law_draw : FnOk P w K mg base CX0 1 a__law_draw fd__law_draw p__law_draw (LSp K 2 sp__law_draw)) (m_len : mg "len" = none) (m_tuple : mg "tuple" = none)
    (vc : ∀ ds m R, ds.length = p__law_may.length → sp__law_may ds m R → b__law_may { nx := fun _ m => R (.dat .none) m, rt := R } (start2 N__law_may ds) m) : FnOk P w K mg base CX0 2 a__law_may fd__law_may p__law_may (LSp K 2 sp__law_may) :=
  qfn_body (k := 1) F__law_may sc__law_may (body := b__law_may) (fun cdv A outer s H E hr => have nd := (sc__law_may).nd; (qlss_cons (qls_set 2 nd (qle_call C__law_words (hr.mono (by decide)) M__law_words F__law_words.kp B__law_words rfl (qla_cons (qle_var 1) qla_nil))) (qlss_cons (qls_set 3 nd (qle_bin od_add qle_int (qle_call C__law_draw (hr.mono (by decide)) M__law_draw F__law_draw.kp B__law_draw rfl (qla_cons (qle_var 0) (qla_cons qle_int qla_nil))))) (qlss_cons (qls_lcB 4 ["_law_word_here", "_law_feed_here", "_law_piece"] [none, some 0, some 3] rfl nd (qli_seq (qle_var 2)) (fun cl C s2 H2 pins fp => (qlg_name 0 nd__law_may_1)) (fun cl C s2 H2 pins fp => (qpf_one (qlt_cmp (od_eq hr.u100) (qle_call C__law_draw (hr.mono (by decide)) M__law_draw F__law_draw.kp B__law_draw rfl (qla_cons (qle_var 1) (qla_cons (qle_var 2) qla_nil))) qle_int))) (fun cl C s2 H2 pins fp => (qle_var 0))) (qlss_cons (qls_set 5 nd (qle_call C__law_draw (hr.mono (by decide)) M__law_draw F__law_draw.kp B__law_draw rfl (qla_cons (qle_var 0) (qla_cons qle_int qla_nil)))) (qlss_cons (qls_if (qlt_cmp (od_eq hr.u100) (qle_var 5) qle_int) (qlss_cons (qls_set 4 nd (qle_lst (qla_cons (qle_ix (qle_var 2) (qle_call C__law_draw (hr.mono (by decide)) M__law_draw F__law_draw.kp B__law_draw rfl (qla_cons (qle_var 0) (qla_cons (qle_callB cd_len rfl m_len boot_len_ (qla_cons (qle_var 2) qla_nil)) qla_nil)))) qla_nil))) qlss_nil) qlss_nil) (qlss_cons (qls_if (qlt_cmp (od_eq hr.u100) (qle_var 5) qle_int) (qlss_cons (qls_set 4 nd (qle_lst qla_nil)) qlss_nil) qlss_nil) (qlss_cons (qls_ret (qle_callTy cd_tuple rfl m_tuple boot_tuple_ (qla_cons (qle_var 4) qla_nil))) qlss_nil)))))))) vc
theorem ok__law_grid {a__law_grid : Addr} {fd__law_grid : FuncData} (F__law_grid : Fun K "_law_grid" "_law_grid" s__law_grid a__law_grid fd__law_grid) 
    (vc : ∀ ds m R, ds.length = p__law_grid.length → sp__law_grid ds m R → b__law_grid { nx := fun _ m => R (.dat .none) m, rt := R } (start2 N__law_grid ds) m) : FnOk P w K mg base CX0 1 a__law_grid fd__law_grid p__law_grid (LSp K 2 sp__law_grid) :=
  qfn_body (k := 0) F__law_grid sc__law_grid (body := b__law_grid) (fun cdv A outer s H E hr => have nd := (sc__law_grid).nd; (qlss_cons (qls_if (qlt_cmp (od_eq hr.u100) (qle_var 0) qle_str) (qlss_cons (qls_ret (qle_lcB ["_law_one"] [none] rfl (qli_seq (qle_var 1)) (fun cl C s2 H2 pins fp => (qlg_name 0 nd__law_grid_1)) (fun cl C s2 H2 pins fp => qpf_nil) (fun cl C s2 H2 pins fp => (qle_tup (qla_cons (qle_var 0) (qla_cons qle_int qla_nil)))))) qlss_nil) qlss_nil) (qlss_cons (qls_set 2 nd (qle_lst qla_nil)) (qlss_cons (qls_for PassesOwn.never rfl (qli_seq (qle_var 1)) (qlg_name 3 nd) (qlss_cons (qls_set 2 nd (qle_bin od_add (qle_var 2) (qle_lcB ["_law_other", "_law_one"] [none, some 3] rfl (qli_seq (qle_var 1)) (fun cl C s2 H2 pins fp => (qlg_name 0 nd__law_grid_2)) (fun cl C s2 H2 pins fp => (qpf_one (qlt_cmp od_gt (qle_var 0) (qle_var 1)))) (fun cl C s2 H2 pins fp => (qle_tup (qla_cons (qle_tup (qla_cons (qle_var 1) (qla_cons qle_int qla_nil))) (qla_cons (qle_tup (qla_cons (qle_var 0) (qla_cons qle_int qla_nil))) qla_nil))))))) qlss_nil)) (qlss_cons (qls_ret (qle_var 2)) qlss_nil))))) vc
theorem ok__law_reached {a__law_reached : Addr} {fd__law_reached : FuncData} (F__law_reached : Fun K "_law_reached" "_law_reached" s__law_reached a__law_reached fd__law_reached) {a__law_word : Addr} {fd__law_word : FuncData} (F__law_word : Fun K "_law_word" "_law_word" s__law_word a__law_word fd__law_word) (B__law_word : Binds K fd__law_word p__law_word []) (M__law_word : mg "_law_word" = some (.ref a__law_word)) (C__law_word : FnOk P w K mg base CX0 2 a__law_word fd__law_word p__law_word (LSp K 2 sp__law_word)) {a__law_grid : Addr} {fd__law_grid : FuncData} (F__law_grid : Fun K "_law_grid" "_law_grid" s__law_grid a__law_grid fd__law_grid) (B__law_grid : Binds K fd__law_grid p__law_grid []) (M__law_grid : mg "_law_grid" = some (.ref a__law_grid)) (C__law_grid : FnOk P w K mg base CX0 1 a__law_grid fd__law_grid p__law_grid (LSp K 2 sp__law_grid)) {a__law_words : Addr} {fd__law_words : FuncData} (F__law_words : Fun K "_law_words" "_law_words" s__law_words a__law_words fd__law_words) (B__law_words : Binds K fd__law_words p__law_words []) (M__law_words : mg "_law_words" = some (.ref a__law_words)) (C__law_words : FnOk P w K mg base CX0 1 a__law_words fd__law_words p__law_words (LSp K 1 sp__law_words)) (m_list : mg "list" = none) (m_range : mg "range" = none) (m_tuple : mg "tuple" = none)
    (vc : ∀ ds m R, ds.length = p__law_reached.length → sp__law_reached ds m R → b__law_reached { nx := fun _ m => R (.dat .none) m, rt := R } (start2 N__law_reached ds) m) : FnOk P w K mg base CX0 3 a__law_reached fd__law_reached p__law_reached (LSp K 3 sp__law_reached) :=
  qfn_body (k := 2) F__law_reached sc__law_reached (body := b__law_reached) (fun cdv A outer s H E hr => have nd := (sc__law_reached).nd; (qlss_cons (qls_set 3 nd qle_dnew) (qlss_cons (qls_set 4 nd qle_dnew) (qlss_cons (qls_for PassesOwn.never rfl (qli_seq (qle_call C__law_grid (hr.mono (by decide)) M__law_grid F__law_grid.kp B__law_grid rfl (qla_cons (qle_ix (qle_var 0) qle_int) (qla_cons (qle_lst (qla_cons qle_int (qla_cons qle_int (qla_cons qle_int (qla_cons qle_int qla_nil))))) qla_nil)))) (qlg_name 5 nd) (qlss_cons (qls_for PassesOwn.never rfl (qli_seq (qle_call C__law_grid (hr.mono (by decide)) M__law_grid F__law_grid.kp B__law_grid rfl (qla_cons (qle_ix (qle_var 0) qle_int) (qla_cons (qle_lst (qla_cons qle_int (qla_cons qle_int (qla_cons qle_int (qla_cons qle_int qla_nil))))) qla_nil)))) (qlg_name 6 nd) (qlss_cons (qls_set 7 nd (qle_call C__law_word (hr.mono (by decide)) M__law_word F__law_word.kp B__law_word rfl (qla_cons (qle_var 5) (qla_cons (qle_var 6) qla_nil)))) (qlss_cons (qls_if (QW.pt (qlw_and (qlt_cmp od_in (qle_var 7) (qle_var 1) (hm := by with_unfolding_all rfl)) (qlw_and1 (qlt_cmp (od_notInK hr.u100) (qle_var 7) (qle_var 4) (hm := by with_unfolding_all rfl))))) (qlss_cons (qls_dput hr.u100 qle_bl (qle_var 4) (qle_var 7)) (qlss_cons (qls_for PassesOwn.never rfl (qli_seq (qle_call C__law_grid (hr.mono (by decide)) M__law_grid F__law_grid.kp B__law_grid rfl (qla_cons (qle_ix (qle_var 0) qle_int) (qla_cons (qle_lstRng2 rfl rfl m_list rfl m_range qle_int qle_int) qla_nil)))) (qlg_name 8 nd) (qlss_cons (qls_if (qlt_cmp od_in (qle_call C__law_word (hr.mono (by decide)) M__law_word F__law_word.kp B__law_word rfl (qla_cons (qle_var 6) (qla_cons (qle_var 8) qla_nil))) (qle_var 2) (hm := by with_unfolding_all rfl)) (qlss_cons (qls_dput hr.u100 qle_bl (qle_var 3) (qle_call C__law_word (hr.mono (by decide)) M__law_word F__law_word.kp B__law_word rfl (qla_cons (qle_var 5) (qla_cons (qle_var 8) qla_nil)))) qlss_nil) qlss_nil) qlss_nil)) qlss_nil)) qlss_nil) qlss_nil))) qlss_nil)) (qlss_cons (qls_ret (qle_callTy cd_tuple rfl m_tuple boot_tuple_ (qla_cons (qle_lcB ["_law_word_here", "_law_met"] [none, some 3] rfl (qli_seq (qle_call C__law_words (hr.mono (by decide)) M__law_words F__law_words.kp B__law_words rfl (qla_cons (qle_tup (qla_cons (qle_ix (qle_var 0) qle_int) (qla_cons (qle_ix (qle_var 0) qle_int) qla_nil))) qla_nil))) (fun cl C s2 H2 pins fp => (qlg_name 0 nd__law_reached_1)) (fun cl C s2 H2 pins fp => (qpf_one (qlt_cmp (od_inK hr.u100) (qle_var 0) (qle_var 1) (hm := by with_unfolding_all rfl)))) (fun cl C s2 H2 pins fp => (qle_var 0))) qla_nil))) qlss_nil))))) vc
theorem ok_law {a_law : Addr} {fd_law : FuncData} (F_law : Fun K "law" "law" s_law a_law fd_law) {a__law_feed : Addr} {fd__law_feed : FuncData} (F__law_feed : Fun K "_law_feed" "_law_feed" s__law_feed a__law_feed fd__law_feed) (B__law_feed : Binds K fd__law_feed p__law_feed []) (M__law_feed : mg "_law_feed" = some (.ref a__law_feed)) (C__law_feed : FnOk P w K mg base CX0 1 a__law_feed fd__law_feed p__law_feed (LSp K 2 sp__law_feed)) {a__law_kinds : Addr} {fd__law_kinds : FuncData} (F__law_kinds : Fun K "_law_kinds" "_law_kinds" s__law_kinds a__law_kinds fd__law_kinds) (B__law_kinds : Binds K fd__law_kinds p__law_kinds []) (M__law_kinds : mg "_law_kinds" = some (.ref a__law_kinds)) (C__law_kinds : FnOk P w K mg base CX0 2 a__law_kinds fd__law_kinds p__law_kinds (LSp K 2 sp__law_kinds)) {a__law_may : Addr} {fd__law_may : FuncData} (F__law_may : Fun K "_law_may" "_law_may" s__law_may a__law_may fd__law_may) (B__law_may : Binds K fd__law_may p__law_may []) (M__law_may : mg "_law_may" = some (.ref a__law_may)) (C__law_may : FnOk P w K mg base CX0 2 a__law_may fd__law_may p__law_may (LSp K 2 sp__law_may)) {a__law_draw : Addr} {fd__law_draw : FuncData} (F__law_draw : Fun K "_law_draw" "_law_draw" s__law_draw a__law_draw fd__law_draw) (B__law_draw : Binds K fd__law_draw p__law_draw []) (M__law_draw : mg "_law_draw" = some (.ref a__law_draw)) (C__law_draw : FnOk P w K mg base CX0 1 a__law_draw fd__law_draw p__law_draw (LSp K 2 sp__law_draw)) {a_behind_mays : Addr} {fd_behind_mays : FuncData} (F_behind_mays : Fun K "behind_mays" "behind_mays" s_behind_mays a_behind_mays fd_behind_mays) (B_behind_mays : Binds K fd_behind_mays p_behind_mays []) (M_behind_mays : mg "behind_mays" = some (.ref a_behind_mays)) (C_behind_mays : FnOk P w K mg base CX0 7 a_behind_mays fd_behind_mays p_behind_mays (LSp K 3 sp_behind_mays)) {a__law_reached : Addr} {fd__law_reached : FuncData} (F__law_reached : Fun K "_law_reached" "_law_reached" s__law_reached a__law_reached fd__law_reached) (B__law_reached : Binds K fd__law_reached p__law_reached []) (M__law_reached : mg "_law_reached" = some (.ref a__law_reached)) (C__law_reached : FnOk P w K mg base CX0 3 a__law_reached fd__law_reached p__law_reached (LSp K 3 sp__law_reached)) (m_len : mg "len" = none) (m_repr : mg "repr" = none) (m_range : mg "range" = none)
    (vc : ∀ ds m R, ds.length = p_law.length → sp_law ds m R → b_law { nx := fun _ m => R (.dat .none) m, rt := R } (start2 N_law ds) m) : FnOk P w K mg base CX0 8 a_law fd_law p_law (LSp K 1 sp_law) :=
  qfn_body (k := 7) F_law sc_law (body := b_law) (fun cdv A outer s H E hr => have nd := (sc_law).nd; (qlss_cons (qls_for PassesOwn.never rfl (qli_range rfl m_range qle_int) (qlg_name 1 nd) (qlss_cons (qls_set 2 nd (qle_call C__law_feed (hr.mono (by decide)) M__law_feed F__law_feed.kp B__law_feed rfl (qla_cons (qle_var 0) (qla_cons (qle_var 1) qla_nil)))) (qlss_cons (qls_set 3 nd (qle_call C__law_kinds (hr.mono (by decide)) M__law_kinds F__law_kinds.kp B__law_kinds rfl (qla_cons (qle_var 2) (qla_cons qle_int qla_nil)))) (qlss_cons (qls_set 4 nd (qle_call C__law_may (hr.mono (by decide)) M__law_may F__law_may.kp B__law_may rfl (qla_cons (qle_var 2) (qla_cons (qle_slX (qle_var 3) qlo_none (qlo_some qle_int)) qla_nil)))) (qlss_cons (qls_set 5 nd (qle_call C__law_may (hr.mono (by decide)) M__law_may F__law_may.kp B__law_may rfl (qla_cons (qle_var 2) (qla_cons (qle_slX (qle_var 3) (qlo_some qle_int) qlo_none) qla_nil)))) (qlss_cons (qls_if (QW.pt (qlw_or (qlt_cmp od_gt (qle_var 1) qle_int) (qlw_or1 (qlt_cmp od_gt (qle_call C__law_draw (hr.mono (by decide)) M__law_draw F__law_draw.kp B__law_draw rfl (qla_cons (qle_var 2) (qla_cons qle_int qla_nil))) qle_int)))) (qlss_cons (qls_set 5 nd (qle_slX (qle_slX (qle_var 5) (qlo_some (qle_call C__law_draw (hr.mono (by decide)) M__law_draw F__law_draw.kp B__law_draw rfl (qla_cons (qle_var 2) (qla_cons (qle_bin od_add (qle_callB cd_len rfl m_len boot_len_ (qla_cons (qle_var 5) qla_nil)) qle_int) qla_nil)))) qlo_none) qlo_none (qlo_some qle_int))) qlss_nil) qlss_nil) (qlss_cons (qls_if (qlt_cmp (od_ne hr.u100) (qle_callB (cd_repr hr.u200 hr.gd) rfl m_repr boot_repr_ (qla_cons (qle_call C_behind_mays (hr.mono (by decide)) M_behind_mays F_behind_mays.kp B_behind_mays rfl (qla_cons (qle_var 3) (qla_cons (qle_var 4) (qla_cons (qle_var 5) qla_nil)))) qla_nil)) (qle_callB (cd_repr hr.u200 hr.gd) rfl m_repr boot_repr_ (qla_cons (qle_call C__law_reached (hr.mono (by decide)) M__law_reached F__law_reached.kp B__law_reached rfl (qla_cons (qle_var 3) (qla_cons (qle_var 4) (qla_cons (qle_var 5) qla_nil)))) qla_nil))) (qlss_cons (qls_ret qle_bl) qlss_nil) qlss_nil) qlss_nil))))))) (qlss_cons (qls_ret qle_bl) qlss_nil))) vc
end
end K07
set_option Elab.async false
set_option linter.all false
set_option maxRecDepth 100000
set_option maxHeartbeats 4000000
namespace K07
open PySem PySem.Spec PyProof.Rows L2 DL K01
@[simp] theorem ok_pt : PyData.strOk (Str.ofString "point") = true := by decide +kernel
@[simp] theorem ok_st : PyData.strOk (Str.ofString "stretch") = true := by decide +kernel
@[simp] theorem at0 (x : PyData) (xs : List PyData) : atI (x :: xs) 0 = some x := by simp [atI, ixN]
@[simp] theorem at1 (x y : PyData) (xs : List PyData) : atI (x :: y :: xs) 1 = some y := by
  have : (1 : Int) < xs.length + 1 + 1 := by omega
  simp [atI, ixN, this]
abbrev EN (R : DK) : Ends2 := { nx := fun _ m => R (.dat .none) m, rt := R }
theorem sz {n : Nat} (h : n ≤ 1000) : n ≤ sizeLine := Nat.le_trans h (by rw [sizeLine_eq]; decide)
theorem feeds_upd {m : Mu} {a : Addr} {x y z w : Int} : Feeds (updM m a (.l [.int x, .int y, .int z, .int w])) a := ⟨_, updM_same, x, y, z, w, rfl⟩
theorem at_ints {ns : List Int} {i : Int} (h0 : 0 ≤ i) (h : i < (ns.length : Int)) : ∃ v : Int, atI (ns.map PyData.int) i = some (.int v) := by
  obtain ⟨k, rfl⟩ : ∃ k : Nat, i = k := ⟨i.toNat, by omega⟩
  have hk : k < ns.length := by omega
  exact ⟨ns[k], atI_nat (by rw [List.getElem?_map, List.getElem?_eq_getElem hk] <;> rfl)⟩
theorem vc__law_feed : ∀ ds m R, ds.length = p__law_feed.length → sp__law_feed ds m R → b__law_feed { nx := fun _ m => R (.dat .none) m, rt := R } (start2 N__law_feed ds) m := by
  rintro ds m R hl ⟨ns, k, rfl, hn, h0, h1, h⟩
  by_cases hz : ns.length = 0
  · have e : ns = [] := List.length_eq_zero_iff.mp hz
    subst e
    simp [b__law_feed_2, b__law_feed_1, b__law_feed, PyData.eqv, PyData.canLay0, PyData.depth]
    exact ⟨sz (by decide), fun a _ => h a _ feeds_upd⟩
  · have hz' : ¬ ((ns.length : Int) = 0) := by omega
    have hp : (0 : Int) < ns.length := by omega
    obtain ⟨v, hv⟩ := at_ints (ns := ns) (i := k.fmod ns.length) (Int.fmod_nonneg_of_pos _ hp) (Int.fmod_lt_of_pos _ hp)
    simp [b__law_feed_2, b__law_feed_1, b__law_feed, PyData.eqv, PyData.canLay0, PyData.depth, hz', hz]
    refine ⟨_, hv, ?_⟩
    simp
    exact ⟨sz (by decide), fun a _ => h a _ feeds_upd⟩
theorem mulL {i j : Int} (h : Bd 64 i) : IntMulOk i j := IntMulOk.of_left (intBits_le_iff.mpr h)
theorem bd_mod {x p : Int} (h : 0 < p) (hp : p ≤ 2147483629) : Bd 31 (x.fmod p) := by
  have h1 := Int.fmod_lt_of_pos x h
  have h2 := Int.fmod_nonneg_of_pos x h
  unfold Bd
  have e : (2 : Nat) ^ 31 = 2147483648 := by decide
  omega
set_option exponentiation.threshold 3000 in
theorem bd_lit {i : Int} {n : Nat} (h : i.natAbs < 2 ^ n := by decide) : Bd n i := h
theorem vc__law_draw : ∀ ds m R, ds.length = p__law_draw.length → sp__law_draw ds m R → b__law_draw { nx := fun _ m => R (.dat .none) m, rt := R } (start2 N__law_draw ds) m := by
  rintro ds m R hl ⟨a, n, rfl, h0, hb, ⟨xs, hm, f0, f1, f2, f3, rfl⟩, h⟩
  simp [b__law_draw_B0, b__law_draw_B0_1, b__law_draw_B0_2, b__law_draw_5, b__law_draw_4, b__law_draw_3, b__law_draw_2, b__law_draw_1, b__law_draw, atI, ixN, hm, updM_same, and_assoc]
  by_cases hf : f0 ≤ 0
  · left
    refine ⟨hf, mulL bd_lit, mulL bd_lit, (bd_mod (by decide) (by decide)).mulOk (bd_mod (by decide) (by decide)) (by decide), mulL bd_lit, (bd_mod (by decide) (by decide)).mulOk (bd_mod (by decide) (by decide)) (by decide), mulL bd_lit, by omega, ?_⟩
    exact h _ _ (Int.fmod_nonneg_of_pos _ h0) (Int.fmod_lt_of_pos _ h0) ⟨feeds_upd, fun c hc => by simp only [updM_ne hc]⟩
  · right
    refine ⟨by omega, by omega, Nat.lt_of_lt_of_le (hb.log (by decide)) (by decide), ?_⟩
    exact h _ _ (Int.fmod_nonneg_of_pos _ h0) (Int.fmod_lt_of_pos _ h0) ⟨feeds_upd, fun c hc => by simp only [updM_ne hc]⟩
theorem loopC_by {g : DG} {t : DT} {f : DE} {Q : List PyData → Mu → Prop} (J : List D → List PyData → St2 → Mu → Prop) (fin : ∀ acc d m, J [] acc d m → Q acc m)
    (step : ∀ x xs acc d m (k : List PyData → St2 → Mu → Prop), J (x :: xs) acc d m → (∀ acc' d' m', J xs acc' d' m' → k acc' d' m') → g x d m fun d1 m1 => t d1 m1 fun b m2 => if b = true then f d1 m2 fun y m3 => ∃ p, y = .dat p ∧ acc.length < sizeLine ∧ k (acc ++ [p]) d1 m3 else k acc d1 m2) :
    ∀ xs acc d m, J xs acc d m → loopC g t f xs acc d m Q
  | [], acc, d, m, h => fin acc d m h
  | x :: xs, acc, d, m, h => step x xs acc d m (fun acc' d' m' => loopC g t f xs acc' d' m' Q) h (loopC_by J fin step xs)
theorem vc__law_stand : ∀ ds m R, ds.length = p__law_stand.length → sp__law_stand ds m R → b__law_stand (EN R) (start2 N__law_stand ds) m := by
  rintro ds m R hl ⟨⟨a, b⟩, ⟨c, d⟩, rfl, b1, b2, b3, b4, h⟩
  simp [b__law_stand, b__law_stand_1, atI, ixN, and_assoc]
  refine ⟨b1.mulOk b4 (by decide), b3.mulOk b2 (by decide), ?_⟩
  simpa [stn, sgn] using h
theorem rows_at (i j : Int) (hi : i = -1 ∨ i = 0 ∨ i = 1) (hj : j = -1 ∨ j = 0 ∨ j = 1) : ∃ xs, atI [PyData.tuple [.str "overlaps", .str "ended", .str "holds"], .tuple [.str "begins", .str "same", .str "begun"], .tuple [.str "within", .str "ends", .str "lapped"]] (1 + i) = some (.tuple xs) ∧ atI xs (1 + j) = some (.str (row i j)) := by
  rcases hi with rfl | rfl | rfl <;> rcases hj with rfl | rfl | rfl <;> exact ⟨_, rfl, rfl⟩
theorem sgn_is (x : Int) : sgn x = -1 ∨ sgn x = 0 ∨ sgn x = 1 := by
  unfold sgn
  split <;> split <;> simp <;> omega
theorem stand_use {x y : Int × Int} {m : Mu} {R : DK} (h1 : Bd 60 x.1 ∧ Bd 60 x.2) (h2 : Bd 60 y.1 ∧ Bd 60 y.2) (h : R (I (stn x y)) m) : sp__law_stand [.dat (fq x), .dat (fq y)] m R := ⟨x, y, rfl, h1.1, h1.2, h2.1, h2.2, h⟩
theorem word3 {m : Mu} {R : DK} {x0 x1 z : Option D} {both : Bool} {a0 a1 b0 b1 : Int × Int} (h1 : Bd 60 a0.1 ∧ Bd 60 a0.2) (h2 : Bd 60 a1.1 ∧ Bd 60 a1.2) (h3 : Bd 60 b0.1 ∧ Bd 60 b0.2) (h4 : Bd 60 b1.1 ∧ Bd 60 b1.2)
    (h : R (.dat (.str (wd both a0 a1 b0 b1))) m) : b__law_word_3 (EN R) [x0, x1, some (.dat (.bool both)), some (.dat (.tuple [fq a0, fq a1])), some (.dat (.tuple [fq b0, fq b1])), z] m := by
  obtain ⟨xs, r1, r2⟩ := rows_at (stn a0 b0) (stn a1 b1) (sgn_is _) (sgn_is _)
  unfold wd wc at h
  simp [b__law_word_3]
  refine stand_use h2 h3 ?_
  by_cases c1 : stn a1 b0 < 0
  · rw [if_pos c1] at h
    simp [c1]
    exact h
  rw [if_neg c1] at h
  simp [c1, b__law_word_4]
  refine stand_use h1 h4 ?_
  by_cases c2 : 0 < stn a0 b1
  · rw [if_pos c2] at h
    simp [c2]
    exact h
  rw [if_neg c2] at h
  simp [c2, b__law_word_5]
  have last : R (.dat (.str (row (stn a0 b0) (stn a1 b1)))) m → b__law_word_7 (EN R) [x0, x1, some (.dat (.bool both)), some (.dat (.tuple [fq a0, fq a1])), some (.dat (.tuple [fq b0, fq b1])), z] m := fun h => by
    simp [b__law_word_7, b__law_word_8, sz]
    refine stand_use h1 h3 ⟨_, r1, ?_⟩
    exact stand_use h2 h4 ⟨_, r2, h⟩
  cases both with
  | false =>
    simp [b__law_word_6]
    exact last (by simpa using h)
  | true =>
    simp
    refine stand_use h2 h3 ?_
    by_cases c3 : stn a1 b0 = 0
    · rw [if_pos ⟨rfl, c3⟩] at h
      simp [c3, PyData.eqv, PyData.canLay0, PyData.depth]
      exact h
    rw [if_neg (fun q => c3 q.2)] at h
    simp [c3, b__law_word_6, PyData.eqv, PyData.canLay0, PyData.depth]
    refine stand_use h1 h4 ?_
    by_cases c4 : stn a0 b1 = 0
    · rw [if_pos ⟨rfl, c4⟩] at h
      simp [c4, PyData.eqv, PyData.canLay0, PyData.depth]
      exact h
    rw [if_neg (fun q => c4 q.2)] at h
    simp [c4, PyData.eqv, PyData.canLay0, PyData.depth]
    exact last h
theorem vc__law_word : ∀ ds m R, ds.length = p__law_word.length → sp__law_word ds m R → b__law_word (EN R) (start2 N__law_word ds) m := by
  rintro ds m R hl ⟨p, q, k, l, a0, a1, b0, b1, rfl, ha, hb, h⟩
  have e1 := ha.eq
  have e2 := hb.eq
  subst e1 e2
  have W := fun x0 x1 z => word3 (x0 := x0) (x1 := x1) (z := z) (R := R) (m := m) (both := k && l) ⟨ha.b1, ha.b2⟩ ⟨ha.b3, ha.b4⟩ ⟨hb.b1, hb.b2⟩ ⟨hb.b3, hb.b4⟩ h
  cases k with
  | true =>
    cases l with
    | true =>
      simp [b__law_word, b__law_word_1, b__law_word_2, sz]
      exact W _ _ _
    | false =>
      cases hb.pt rfl
      simp [b__law_word, b__law_word_1, b__law_word_2, sz]
      exact W _ _ _
  | false =>
    cases ha.pt rfl
    cases l with
    | true =>
      simp [b__law_word, b__law_word_1, b__law_word_2, sz]
      exact W _ _ _
    | false =>
      cases hb.pt rfl
      simp [b__law_word, b__law_word_1, b__law_word_2, sz]
      exact W _ _ _
theorem vc__law_words : ∀ ds m R, ds.length = p__law_words.length → sp__law_words ds m R → b__law_words (EN R) (start2 N__law_words ds) m := by
  rintro ds m R hl ⟨k, l, rfl, h⟩
  cases k <;> cases l <;> simp (decide := true) [b__law_words, b__law_words_1, b__law_words_2, b__law_words_3, b__law_words_B0, b__law_words_B0_1, kd, PyData.eqv, PyData.eqvAll, PyData.canLay0, PyData.canLayAll0, PyData.depth, PyData.depthAll, atI, ixN, and_assoc, sz] <;> exact h
theorem w4_of : ∀ z ∈ ORD, valP tb_WAYS z = some (.tuple ((w4 z).map .int)) ∧ ∃ a b c d, w4 z = [a, b, c, d] := by
  intro z hz
  unfold ORD at hz
  simp only [List.mem_cons, List.not_mem_nil, or_false] at hz
  rcases hz with rfl | rfl | rfl | rfl | rfl | rfl | rfl | rfl | rfl | rfl | rfl | rfl | rfl <;> exact ⟨rfl, _, _, _, _, rfl⟩
theorem vc_ways_by : ∀ ds m R, ds.length = p_ways_by.length → sp_ways_by ds m R → b_ways_by (EN R) (start2 N_ways_by ds) m := by
  rintro ds m R hl ⟨k, l, z, rfl, hz, h⟩
  obtain ⟨v, a, b, c, d, e⟩ := w4_of z hz
  unfold b_ways_by
  simp only [dSeq, dSet, dDGetC, dVar, start2]
  refine ⟨_, rfl, z, _, rfl, v, ?_⟩
  unfold WB at h
  rw [e] at h ⊢
  cases k <;> cases l <;> simp (decide := true) [b_ways_by_1, b_ways_by_2, b_ways_by_3, kd, PyData.eqv, PyData.eqvAll, PyData.canLay0, PyData.canLayAll0, PyData.depth, PyData.depthAll, atI, ixN, and_assoc, sz] at h ⊢
  all_goals exact h
theorem ws_ord (k l : Bool) : ∀ z ∈ WS k l, z ∈ ORD := by cases k <;> cases l <;> decide +kernel
theorem bds {i : Int} (h0 : -100000000 ≤ i) (h1 : i ≤ 100000000) : Bd 64 i := by
  unfold Bd
  have e : (2 : Nat) ^ 64 = 18446744073709551616 := by decide
  omega
theorem ints_drop {n i : Nat} (h : i < n) : (intsD 0 n).drop i = I (i : Int) :: (intsD 0 n).drop (i + 1) := by
  have hl : i < (intsD 0 n).length := by unfold intsD; simpa using h
  rw [List.drop_eq_getElem_cons hl]
  congr 1
  unfold intsD
  simp
theorem ints_end {n : Nat} : (intsD 0 n).drop n = [] := by
  rw [List.drop_eq_nil_iff]
  unfold intsD
  simp
theorem loopC_rng {g : DG} {t : DT} {f : DE} {Q : List PyData → Mu → Prop} {n : Nat} (J : Nat → List PyData → St2 → Mu → Prop) (fin : ∀ acc d m, J n acc d m → Q acc m)
    (step : ∀ i acc d m (k : List PyData → St2 → Mu → Prop), i < n → J i acc d m → (∀ acc' d' m', J (i + 1) acc' d' m' → k acc' d' m') → g (I (i : Int)) d m fun d1 m1 => t d1 m1 fun b m2 => if b = true then f d1 m2 fun y m3 => ∃ p, y = .dat p ∧ acc.length < sizeLine ∧ k (acc ++ [p]) d1 m3 else k acc d1 m2) :
    ∀ acc d m, J 0 acc d m → loopC g t f (intsD 0 n) acc d m Q := by
  intro acc d m h
  refine loopC_by (fun rest acc d m => ∃ i, i ≤ n ∧ rest = (intsD 0 n).drop i ∧ J i acc d m) ?_ ?_ _ _ _ _ ⟨0, Nat.zero_le _, rfl, h⟩
  · rintro acc d m ⟨i, hi, e, hj⟩
    have : i = n := by
      have := congrArg List.length e
      unfold intsD at this
      simp at this
      omega
    subst this
    exact fin _ _ _ hj
  · rintro x xs acc d m k ⟨i, hi, e, hj⟩ hk
    have hlt : i < n := by
      have := congrArg List.length e
      unfold intsD at this
      simp at this
      omega
    rw [ints_drop hlt] at e
    obtain ⟨rfl, rfl⟩ := List.cons.inj e
    exact step i acc d m k hlt hj fun acc' d' m' h' => hk _ _ _ ⟨i + 1, hlt, rfl, h'⟩
theorem loopL_rng {g : DG} {b : DS} {E : Ends2} {n : Nat} (J : Nat → St2 → Mu → Prop) (hd : ∀ d m, J n d m → E.nx d m)
    (step : ∀ i, i < n → ∀ (k : St2 → Mu → Prop), (∀ d m, J (i + 1) d m → k d m) → ∀ d m, J i d m → g (I (i : Int)) d m fun d' m' => b { E with nx := k, ct := k, bk := E.nx } d' m') : ∀ d m, J 0 d m → loopL g b E (intsD 0 n) d m := by
  have key : ∀ (r i : Nat), r + i = n → ∀ d m, J i d m → loopL g b E ((intsD 0 n).drop i) d m := by
    intro r
    induction r with
    | zero =>
      intro i hi d m hj
      have : i = n := by omega
      subst this
      rw [ints_end]
      exact hd d m hj
    | succ r ih =>
      intro i hi d m hj
      rw [ints_drop (by omega)]
      exact step i (by omega) _ (ih (i + 1) (by omega)) d m hj
  intro d m h
  have := key n 0 (by omega) d m h
  simpa using this
theorem Fd.trans {m m1 m2 : Mu} {a : Addr} (h : Fd m m1 a) (g : Fd m1 m2 a) : Fd m m2 a := ⟨g.1, fun c hc => (g.2 c hc).trans (h.2 c hc)⟩
theorem Kn.refl {m : Mu} : Kn m m := fun _ _ => rfl
theorem Kn.trans {m m1 m2 : Mu} (h : Kn m m1) (g : Kn m1 m2) : Kn m m2 := fun c hc => by
  have e := h c hc
  rw [g c (by rw [e]; exact hc), e]
theorem Kn.new {m m1 : Mu} {c : Addr} {x : Cel} (h : Kn m m1) (hc : m c = none) : Kn m (updM m1 c x) := fun y hy => by
  have ne : y ≠ c := by rintro rfl; rw [hc] at hy; cases hy
  rw [updM_ne ne]
  exact h y hy
theorem draw_use {a : Addr} {n : Int} {m : Mu} {R : DK} (h0 : 0 < n) (hb : n < 1000000) (hf : Feeds m a) (h : ∀ (r : Int) m', 0 ≤ r → r < n → Fd m m' a → R (I r) m') : sp__law_draw [.cel a, I n] m R := by
  refine ⟨a, n, rfl, h0, ?_, hf, h⟩
  refine Bd.mono (m := 20) ?_ (by decide)
  unfold Bd
  have e : (2 : Nat) ^ 20 = 1048576 := by decide
  omega
theorem ws_len (k l : Bool) : 1 ≤ (WS k l).length ∧ (WS k l).length ≤ 13 := by cases k <;> cases l <;> decide
theorem words_use {g : DE} {pr : Str → Bool} {ws : List Str} {d1 : St2} {m : Mu} {o : Option D} {op : D2} {f : DE} {Q : List PyData → Mu → Prop} (hn : ws.length ≤ 13) (ht : ∀ (z : Str) (Q' : Bool → Mu → Prop), z ∈ ws → Q' (pr z) m → dTst (dBin op f g) (some (.dat (.str z)) :: d1) m Q') (h : Q ((ws.filter pr).map .str) m) :
    loopC (gN 0) (dTst (dBin op f g)) (dVar 0) (ws.map (D.dat ∘ PyData.str)) [] (o :: d1) m Q := by
  refine loopC_by (fun rest acc d m' => m' = m ∧ (∃ o, d = o :: d1) ∧ ∃ done todo, ws = done ++ todo ∧ rest = todo.map (D.dat ∘ PyData.str) ∧ acc = (done.filter pr).map .str) ?_ ?_ _ _ _ _ ⟨rfl, ⟨o, rfl⟩, [], ws, rfl, rfl, rfl⟩
  · rintro acc d m' ⟨rfl, _, done, todo, e1, e2, rfl⟩
    have e3 : todo = [] := by simpa using e2.symm
    subst e3
    rw [List.append_nil] at e1
    rw [← e1]
    exact h
  · rintro x xs acc d m' k ⟨rfl, ⟨o, rfl⟩, done, todo, e1, e2, rfl⟩ hk
    cases todo with
    | nil => simp at e2
    | cons z todo =>
      obtain ⟨rfl, rfl⟩ := List.cons.inj e2
      have hln : (done.filter pr).length < 14 := by
        have := congrArg List.length e1
        have q := List.length_filter_le pr done
        simp at this
        omega
      have e3 : ws = (done ++ [z]) ++ todo := by rw [e1]; simp
      show dTst (dBin op f g) (some (.dat (.str z)) :: d1) m' _
      refine ht z _ (by rw [e1]; simp) ?_
      cases c : pr z with
      | true =>
        simp
        exact ⟨Nat.lt_of_lt_of_le hln (sz (by decide)), hk _ _ _ ⟨rfl, ⟨_, rfl⟩, done ++ [z], todo, e3, rfl, by simp [c]⟩⟩
      | false =>
        simp
        exact hk _ _ _ ⟨rfl, ⟨_, rfl⟩, done ++ [z], todo, e3, rfl, by simp [c]⟩
theorem pts_use {ns : List Int} {m : Mu} {o : Option D} {Q : List PyData → Mu → Prop} (hn : ns.length ≤ 14) (h : Q (ns.map fun a => fq (a, 1)) m) :
    loopC (gN 0) dTrue (dTup (dCons (dVar 0) (dCons (dCon (.int 1)) dNil))) (ns.map (D.dat ∘ PyData.int)) [] [o] m Q := by
  refine loopC_by (fun rest acc d m' => m' = m ∧ (∃ o, d = [o]) ∧ ∃ done todo, ns = done ++ todo ∧ rest = todo.map (D.dat ∘ PyData.int) ∧ acc = done.map fun a => fq (a, 1)) ?_ ?_ _ _ _ _ ⟨rfl, ⟨o, rfl⟩, [], ns, rfl, rfl, rfl⟩
  · rintro acc d m' ⟨rfl, _, done, todo, e1, e2, rfl⟩
    have e3 : todo = [] := by simpa using e2.symm
    subst e3
    rw [List.append_nil] at e1
    rw [← e1]
    exact h
  · rintro x xs acc d m' k ⟨rfl, ⟨o, rfl⟩, done, todo, e1, e2, rfl⟩ hk
    cases todo with
    | nil => simp at e2
    | cons z todo =>
      obtain ⟨rfl, rfl⟩ := List.cons.inj e2
      have hln : done.length < 15 := by
        have := congrArg List.length e1
        simp at this
        omega
      have e3 : ns = (done ++ [z]) ++ todo := by rw [e1]; simp
      simp [sz]
      exact ⟨Nat.lt_of_lt_of_le hln (sz (by decide)), hk _ _ _ ⟨rfl, ⟨_, rfl⟩, done ++ [z], todo, e3, rfl, by simp⟩⟩
theorem row_use {ns : List Int} {a : Int} {m : Mu} {o : Option D} {Q : List PyData → Mu → Prop} (hn : ns.length ≤ 14) (h : Q (((ns.filter fun b => decide (a < b)).map fun b => (a, b)).map (tmD true)) m) :
    loopC (gN 0) (dTst (dBin aGt (dVar 0) (dVar 1))) (dTup (dCons (dTup (dCons (dVar 1) (dCons (dCon (.int 1)) dNil))) (dCons (dTup (dCons (dVar 0) (dCons (dCon (.int 1)) dNil))) dNil))) (ns.map (D.dat ∘ PyData.int)) [] [o, some (I a)] m Q := by
  refine loopC_by (fun rest acc d m' => m' = m ∧ (∃ o, d = [o, some (I a)]) ∧ ∃ done todo, ns = done ++ todo ∧ rest = todo.map (D.dat ∘ PyData.int) ∧ acc = ((done.filter fun b => decide (a < b)).map fun b => (a, b)).map (tmD true)) ?_ ?_ _ _ _ _ ⟨rfl, ⟨o, rfl⟩, [], ns, rfl, rfl, rfl⟩
  · rintro acc d m' ⟨rfl, _, done, todo, e1, e2, rfl⟩
    have e3 : todo = [] := by simpa using e2.symm
    subst e3
    rw [List.append_nil] at e1
    rw [← e1]
    exact h
  · rintro x xs acc d m' k ⟨rfl, ⟨o, rfl⟩, done, todo, e1, e2, rfl⟩ hk
    cases todo with
    | nil => simp at e2
    | cons z todo =>
      obtain ⟨rfl, rfl⟩ := List.cons.inj e2
      have hln : (done.filter fun b => decide (a < b)).length < 15 := by
        have := congrArg List.length e1
        have q := List.length_filter_le (fun b => decide (a < b)) done
        simp at this
        omega
      have e3 : ns = (done ++ [z]) ++ todo := by rw [e1]; simp
      by_cases c : a < z
      · have step := hk (((done.filter fun b => decide (a < b)).map fun b => (a, b)).map (tmD true) ++ [tmD true (a, z)]) [some (I z), some (I a)] m' ⟨rfl, ⟨_, rfl⟩, done ++ [z], todo, e3, rfl, by simp [c]⟩
        simp [sz, c]
        exact ⟨Nat.lt_of_lt_of_le hln (sz (by decide)), by simp only [List.map_map] at step; exact step⟩
      · have step := hk (((done.filter fun b => decide (a < b)).map fun b => (a, b)).map (tmD true)) [some (I z), some (I a)] m' ⟨rfl, ⟨_, rfl⟩, done ++ [z], todo, e3, rfl, by simp [c]⟩
        simp [sz, c]
        simpa using step
theorem flat_len {ns : List Int} : ∀ done : List Int, ((done.map fun a => (ns.filter fun b => decide (a < b)).map fun b => (a, b)).flatten).length ≤ ns.length * done.length
  | [] => by simp
  | a :: r => by
    have ih := flat_len (ns := ns) r
    have q := List.length_filter_le (fun b => decide (a < b)) ns
    simp only [List.map_cons, List.flatten_cons, List.length_append, List.length_map, List.length_cons]
    rw [Nat.mul_add, Nat.mul_one]
    omega
theorem vc__law_grid : ∀ ds m R, ds.length = p__law_grid.length → sp__law_grid ds m R → b__law_grid (EN R) (start2 N__law_grid ds) m := by
  rintro ds m R hl ⟨k, ns, rfl, hn, h⟩
  cases k with
  | false =>
    simp [b__law_grid, kd, srcOf]
    refine pts_use hn ?_
    have e : (gridT false ns).map (tmD false) = ns.map fun a => fq (a, 1) := by
      simp [gridT, tmD]
    rw [e] at h
    exact h
  | true =>
    simp [b__law_grid, kd]
    refine .inl ⟨by decide +kernel, ?_⟩
    simp [b__law_grid_1, b__law_grid_2, sz]
    have key : ∀ (todo done : List Int) (o3 : Option D), ns = done ++ todo → loopL (gN 3) b__law_grid_L0 { nx := b__law_grid_3 (EN R), rt := R } (todo.map (D.dat ∘ PyData.int)) [some (.dat (.str "stretch")), some (.dat (.list (ns.map .int))), some (.dat (.list (((done.map fun a => (ns.filter fun b => decide (a < b)).map fun b => (a, b)).flatten).map (tmD true)))), o3] m := by
      intro todo
      induction todo with
      | nil =>
        intro done o3 e
        rw [List.append_nil] at e
        subst e
        simp only [List.map_nil, loopL, b__law_grid_3, dSeq, dRet, dVar]
        exact ⟨_, rfl, h⟩
      | cons a todo ih =>
        intro done o3 e
        have ih := ih (done ++ [a]) (some (I a)) (by rw [e]; simp)
        have dl : done.length < 14 := by
          have := congrArg List.length e
          simp at this
          omega
        have fl := flat_len (ns := ns) done
        have f2 : ns.length * done.length ≤ 14 * 14 := Nat.mul_le_mul hn (by omega)
        have f3 := List.length_filter_le (fun b => decide (a < b)) ns
        simp only [List.map_cons, loopL]
        generalize hG : loopL _ b__law_grid_L0 _ (todo.map _) = G at ih ⊢
        simp [b__law_grid_L0, srcOf]
        refine row_use hn ?_
        simp
        refine ⟨sz ?_, ?_⟩
        · have e6 : (List.map (List.length ∘ List.map (tmD true) ∘ fun a => List.map (fun b => (a, b)) (List.filter (fun b => decide (a < b)) ns)) done).sum = (List.map (List.length ∘ fun a => List.map (fun b => (a, b)) (List.filter (fun b => decide (a < b)) ns)) done).sum := by
            congr 1
            refine List.map_congr_left fun a _ => ?_
            simp
          have e5 : ((done.map fun a => (ns.filter fun b => decide (a < b)).map fun b => (a, b)).flatten).length = (List.map (List.length ∘ fun a => (ns.filter fun b => decide (a < b)).map fun b => (a, b)) done).sum := by rw [List.length_flatten, List.map_map]
          simp at e5 fl
          simp
          rw [e6]
          omega
        · simpa using ih
    exact key ns [] none rfl
theorem vc_words_of : ∀ ds m R, ds.length = p_words_of.length → sp_words_of ds m R → b_words_of (EN R) (start2 N_words_of ds) m := by
  rintro ds m R hl ⟨k, l, rfl, h⟩
  unfold b_words_of
  simp only [dSeq, dRet, dTGet2C, dVar, dCon, start2]
  refine ⟨_, rfl, [kd k, kd l], rfl, ?_⟩
  cases k <;> cases l <;> exact h
end K07
set_option Elab.async false
set_option linter.all false
set_option maxRecDepth 100000
set_option maxHeartbeats 4000000
namespace K07
open PySem PySem.Spec PyProof.Rows L2 DL K01
theorem vc_forced_way : ∀ ds m R, ds.length = p_forced_way.length → sp_forced_way ds m R → b_forced_way (EN R) (start2 N_forced_way ds) m := by
  rintro ds m R hl ⟨a, b, rfl, h⟩
  unfold fwy at h
  simp [b_forced_way, PyData.eqv, PyData.canLay0, PyData.depth]
  by_cases c1 : a = 0
  · rw [if_pos c1] at h
    exact .inr ⟨c1, h⟩
  · rw [if_neg c1] at h
    refine .inl ⟨c1, ?_⟩
    simp [b_forced_way_1, PyData.eqv, PyData.canLay0, PyData.depth]
    by_cases c2 : b = 0 ∨ b = a
    · rw [if_pos c2] at h
      by_cases c3 : b = 0
      · exact .inr ⟨c3, h⟩
      · refine .inl ⟨c3, .inr ⟨by rcases c2 with q | q; exact absurd q c3; exact q, h⟩⟩
    · rw [if_neg c2] at h
      refine .inl ⟨fun q => c2 (.inl q), .inl ⟨fun q => c2 (.inr q), ?_⟩⟩
      simp [b_forced_way_2]
      exact h
theorem vc_forced_by : ∀ ds m R, ds.length = p_forced_by.length → sp_forced_by ds m R → b_forced_by (EN R) (start2 N_forced_by ds) m := by
  rintro ds m R hl ⟨xs, ys, rfl, h⟩
  simp only [b_forced_by, dSeq, dFor, dZipI, dVar]
  refine ⟨_, rfl, _, rfl, _, _, rfl, rfl, ?_⟩
  have e : ((xs.map PyData.int).zip (ys.map PyData.int)) = (xs.zip ys).map fun z => (PyData.int z.1, PyData.int z.2) := by
    rw [List.zip_map]
    rfl
  rw [e, List.map_map]
  generalize hps : xs.zip ys = ps at h
  have key : ∀ (ps : List (Int × Int)) (o2 o3 o4 : Option D), R (.dat (oD (fby ps))) m → loopL (gT 2 (gNs (gN 2) (gNs (gN 3) gN0))) b_forced_by_L0 { nx := b_forced_by_1 (EN R), rt := R } (ps.map ((fun z => D.dat (PyData.tuple [z.1, z.2])) ∘ fun z => (PyData.int z.1, PyData.int z.2))) [some (.dat (.tuple (xs.map .int))), some (.dat (.tuple (ys.map .int))), o2, o3, o4] m := by
    intro ps
    induction ps with
    | nil =>
      intro o2 o3 o4 h
      simp [loopL, b_forced_by_1]
      exact h
    | cons p ps ih =>
      intro o2 o3 o4 h
      simp only [List.map_cons, loopL]
      generalize hG : loopL _ b_forced_by_L0 _ (ps.map _) = G at ih ⊢
      simp [b_forced_by_L0]
      refine ⟨p.1, p.2, rfl, ?_⟩
      simp only [fby] at h
      cases c : fwy p.1 p.2 with
      | none =>
        simp [b_forced_by_L0_1, oD]
        exact ih _ _ _ (by simpa [c] using h)
      | some i =>
        simp [b_forced_by_L0_1, oD]
        simpa [c, oD] using h
  exact key ps _ _ _ h
theorem gow_nil (fs : List (Option Int)) : gow fs [] = true := by
  cases fs with
  | nil => rfl
  | cons f r => cases f <;> rfl
theorem vc_go_with : ∀ ds m R, ds.length = p_go_with.length → sp_go_with ds m R → b_go_with (EN R) (start2 N_go_with ds) m := by
  rintro ds m R hl ⟨fs, ws, rfl, f4, w4', h⟩
  simp only [b_go_with, dSeq, dFor, dZipL, dVar]
  refine ⟨_, rfl, _, rfl, _, _, rfl, rfl, ?_⟩
  have key : ∀ (fs : List (Option Int)) (ws : List Int) (x0 x1 o2 o3 : Option D), R (.dat (.bool (gow fs ws))) m → loopL (gT 2 (gNs (gN 2) (gNs (gN 3) gN0))) b_go_with_L0 { nx := b_go_with_1 (EN R), rt := R } (((fs.map oD).zip (ws.map PyData.int)).map fun z => .dat (.tuple [z.1, z.2])) [x0, x1, o2, o3] m := by
    intro fs
    induction fs with
    | nil =>
      intro ws x0 x1 o2 o3 h
      simp [loopL, b_go_with_1]
      exact h
    | cons f fs ih =>
      intro ws x0 x1 o2 o3 h
      cases ws with
      | nil =>
        rw [gow_nil] at h
        simp [loopL, b_go_with_1]
        exact h
      | cons w ws =>
        have ih := ih ws x0 x1
        simp only [List.map_cons, List.zip_cons_cons, loopL]
        generalize hG : loopL _ b_go_with_L0 _ (((fs.map oD).zip (ws.map PyData.int)).map _) = G at ih ⊢
        cases f with
        | none =>
          simp [b_go_with_L0, oD]
          exact ih _ _ h
        | some i =>
          simp only [gow] at h
          simp [b_go_with_L0, oD, PyData.eqv, PyData.canLay0, PyData.depth]
          by_cases c : i = w
          · refine .inl ⟨c, ih _ _ ?_⟩
            simpa [c] using h
          · refine .inr ⟨c, ?_⟩
            simpa [c] using h
  exact key fs ws _ _ _ _ h
theorem cnt_le (k : Bool) : 1 ≤ cnt k ∧ cnt k ≤ 2 := by cases k <;> decide
theorem loopA_rng {st : StepA} {Q : List PyData → St2 → Mu → Prop} {n : Nat} (J : Nat → List PyData → St2 → Mu → Prop) (fin : ∀ acc d m, J n acc d m → Q acc d m)
    (step : ∀ i acc d m (K : List PyData → St2 → Mu → Prop), i < n → J i acc d m → (∀ acc' d' m', J (i + 1) acc' d' m' → K acc' d' m') → st (I (i : Int)) acc d m K) : ∀ acc d m, J 0 acc d m → loopA st (intsD 0 n) acc d m Q := by
  have key : ∀ (r i : Nat), r + i = n → ∀ acc d m, J i acc d m → loopA st ((intsD 0 n).drop i) acc d m Q := by
    intro r
    induction r with
    | zero =>
      intro i hi acc d m hj
      have : i = n := by omega
      subst this
      rw [ints_end]
      exact fin acc d m hj
    | succ r ih =>
      intro i hi acc d m hj
      rw [ints_drop (by omega)]
      exact step i acc d m _ (by omega) hj fun acc' d' m' h' => ih (i + 1) (by omega) acc' d' m' h'
  intro acc d m h
  have := key n 0 (by omega) acc d m h
  simpa using this
theorem fl2 {α : Type} (f : Nat → Nat → α) {c : Nat} (hc : c ≤ 2) : ∀ x : Nat, (((List.range x).map fun i => (List.range c).map (f i)).flatten).length ≤ 2 * x
  | 0 => by simp
  | x + 1 => by
    have ih := fl2 f hc x
    rw [List.range_succ, List.map_append, List.flatten_append, List.length_append]
    have e : (([x].map fun i => (List.range c).map (f i)).flatten).length = c := by simp
    rw [e]
    omega
theorem cutP_map {α β : Type} (f : α → β) (xs : List α) (lo hi : Option Int) : cutP (xs.map f) lo hi = (cutP xs lo hi).map f := by
  unfold cutP
  rw [List.length_map, List.map_take, List.map_drop]
theorem pick_map {α β : Type} (f : α → β) (xs : List α) : ∀ is : List Nat, pick (xs.map f) is = (pick xs is).map f
  | [] => rfl
  | i :: is => by
    have ih := pick_map f xs is
    unfold pick at ih ⊢
    rw [List.filterMap_cons, List.filterMap_cons, List.getElem?_map, ih]
    cases xs[i]? <;> rfl
theorem cnt_of (l : Bool) : valP tb_END_COUNTS (kd l) = some (.int (cnt l)) := by cases l <;> rfl
theorem wb_len (k l : Bool) : ∀ z ∈ WS k l, (WB k l z).length = cnt k * cnt l := by cases k <;> cases l <;> decide +kernel
theorem vc_forced_ways : ∀ ds m R, ds.length = p_forced_ways.length → sp_forced_ways ds m R → b_forced_ways (EN R) (start2 N_forced_ways ds) m := by
  rintro ds m R hl ⟨k, l, n, z, w, rfl, hz, hw, h⟩
  have lz := wb_len k l z hz
  have lw := wb_len l n w hw
  simp [b_forced_ways]
  simp [b_forced_ways_1, cnt_of]
  simp [b_forced_ways_2, cnt_of]
  simp [b_forced_ways_3, sz]
  refine ⟨k, l, z, rfl, ws_ord k l z hz, ?_⟩
  simp [b_forced_ways_4, sz]
  refine ⟨l, n, w, rfl, ws_ord l n w hw, ?_⟩
  simp [b_forced_ways_5, srcOf, cnt_of]
  have ck := cnt_le k
  have cl := cnt_le l
  have cn := cnt_le n
  refine ⟨by omega, ?_⟩
  have one : ∀ (x y : Nat) (Q : DK), x < cnt k → y < cnt n → Q (.dat (oD (FW1 k l n z w x y))) m → dCall 2 sp_forced_by (dCons (dSlX (dVar 4) (dPart (dBin aMul (dVar 0) (dVar 2))) (dPart (dBin aMul (dBin aAdd (dVar 0) (dCon (PyData.int 1))) (dVar 2)))) (dCons (dStp (dVar 5) (dVar 1) (dVar 3)) dNil))
      [some (I x), some (I y), some (I (cnt l)), some (I (cnt n)), some (.dat (.tuple ((WB k l z).map .int))), some (.dat (.tuple ((WB l n w).map .int)))] m Q := fun x y Q hx hy hq => by
    simp
    refine ⟨mulL (bds (by omega) (by omega)), mulL (bds (by omega) (by omega)), ?_⟩
    have m1 : y ≤ (WB l n w).length := by
      rw [lw]
      have := Nat.mul_le_mul_right (cnt n) cl.1
      omega
    refine ⟨y, rfl, cnt n, rfl, m1, cn.1, ?_⟩
    rw [cutP_map, pick_map]
    exact ⟨_, _, rfl, hq⟩
  refine loopA_rng (n := cnt k) (fun i acc d m' => m' = m ∧ acc = (((List.range i).map fun x => (List.range (cnt n)).map fun y => FW1 k l n z w x y).flatten).map oD ∧ ∃ o0 o1, d = [o0, o1, some (I (cnt l)), some (I (cnt n)), some (.dat (.tuple ((WB k l z).map .int))), some (.dat (.tuple ((WB l n w).map .int)))]) ?_ ?_ _ _ _ ⟨rfl, rfl, _, _, rfl⟩
  · rintro acc d m' ⟨rfl, rfl, _⟩
    exact h
  · rintro x acc d m' K hx ⟨rfl, rfl, o0, o1, rfl⟩ hK
    simp [stepO]
    refine ⟨by omega, ?_⟩
    refine loopA_rng (n := cnt n) (fun j acc d m'' => m'' = m' ∧ acc = ((((List.range x).map fun x => (List.range (cnt n)).map fun y => FW1 k l n z w x y).flatten) ++ (List.range j).map fun y => FW1 k l n z w x y).map oD ∧ ∃ o1, d = [some (I x), o1, some (I (cnt l)), some (I (cnt n)), some (.dat (.tuple ((WB k l z).map .int))), some (.dat (.tuple ((WB l n w).map .int)))]) ?_ ?_ _ _ _ ⟨rfl, by simp, _, rfl⟩
    · rintro acc d m'' ⟨rfl, rfl, o1, rfl⟩
      refine hK _ _ _ ⟨rfl, ?_, _, _, rfl⟩
      rw [List.range_succ]
      simp
    · rintro y acc d m'' K2 hy ⟨rfl, rfl, o1, rfl⟩ hK2
      have al : ((((List.range x).map fun x => (List.range (cnt n)).map fun y => FW1 k l n z w x y).flatten) ++ (List.range y).map fun y => FW1 k l n z w x y).length ≤ 10 := by
        have q := fl2 (FW1 k l n z w) cn.2 x
        rw [List.length_append, List.length_map, List.length_range]
        exact Nat.le_trans (Nat.add_le_add (show _ ≤ 2 * x from q) (Nat.le_of_lt hy)) (by omega)
      simp only [DL.stepI, gN, dTrue]
      refine one x y _ hx hy ⟨_, rfl, ?_, hK2 _ _ _ ⟨rfl, ?_, _, rfl⟩⟩
      · rw [List.length_map]
        exact Nat.lt_of_lt_of_le (Nat.lt_succ_of_le al) (sz (by decide))
      · rw [List.range_succ, List.map_append (f := fun y => FW1 k l n z w x y), ← List.append_assoc, List.map_append (f := oD) (l₂ := [y].map _)]
        rfl
theorem fw_len (k l n : Bool) (z w : Str) : (FW k l n z w).length ≤ 4 := by
  have q := fl2 (FW1 k l n z w) (cnt_le n).2 (cnt k)
  have := cnt_le k
  exact Nat.le_trans (show (FW k l n z w).length ≤ 2 * cnt k from q) (by omega)
theorem wb_le (k l : Bool) : ∀ z ∈ WS k l, (WB k l z).length ≤ 4 := fun z hz => by
  rw [wb_len k l z hz]
  exact Nat.mul_le_mul (cnt_le k).2 (cnt_le l).2
theorem vc_behind_words : ∀ ds m R, ds.length = p_behind_words.length → sp_behind_words ds m R → b_behind_words (EN R) (start2 N_behind_words ds) m := by
  rintro ds m R hl ⟨k, l, n, z, w, rfl, hz, hw, h⟩
  simp [b_behind_words]
  simp [b_behind_words_1, sz]
  simp [b_behind_words_2]
  refine ⟨k, l, n, z, w, rfl, hz, hw, ?_⟩
  simp [b_behind_words_3, srcOf]
  refine ⟨k, n, rfl, ?_⟩
  simp
  have lp : ∀ (todo done : List Str) (o0 : Option D), WS k n = done ++ todo → loopC (gN 0) (dTst (dCall 2 sp_go_with (dCons (dVar 2) (dCons (dCall 2 sp_ways_by (dCons (dVar 1) (dCons (dVar 0) dNil))) dNil)))) (dVar 0) (todo.map (D.dat ∘ PyData.str)) ((done.filter fun u => gow (FW k l n z w) (WB k n u)).map .str) [o0, some (.dat (kds k n)), some (.dat (.list ((FW k l n z w).map oD)))] m (fun ps m2 => R (.dat (.tuple ps)) m2) := by
    intro todo
    induction todo with
    | nil =>
      intro done o0 e
      rw [List.append_nil] at e
      simp only [List.map_nil, loopC]
      unfold BW at h
      rw [e] at h
      exact h
    | cons u todo ih =>
      intro done o0 e
      have ih := ih (done ++ [u]) (some (.dat (.str u))) (by rw [e]; simp)
      have hu : u ∈ WS k n := by rw [e]; simp
      have dl : (done.filter fun u => gow (FW k l n z w) (WB k n u)).length < 14 := by
        have q1 := congrArg List.length e
        have q2 := (ws_len k n).2
        have q3 := List.length_filter_le (fun u => gow (FW k l n z w) (WB k n u)) done
        simp at q1
        omega
      simp only [List.map_cons, loopC]
      generalize hG : loopC _ _ _ (todo.map _) = G at ih ⊢
      simp
      refine ⟨k, n, u, rfl, ws_ord k n u hu, ?_⟩
      refine ⟨FW k l n z w, WB k n u, rfl, fw_len k l n z w, wb_le k n u hu, ?_⟩
      cases c : gow (FW k l n z w) (WB k n u) with
      | true =>
        simp [c] at ih ⊢
        exact ⟨Nat.lt_of_lt_of_le dl (sz (by decide)), ih⟩
      | false =>
        simp [c] at ih ⊢
        exact ih
  exact lp (WS k n) [] none rfl
end K07
set_option Elab.async false
set_option linter.all false
set_option maxRecDepth 100000
set_option maxHeartbeats 4000000
namespace K07
open PySem PySem.Spec PyProof.Rows L2 DL K01
theorem kd_at2 {i : Int} (h0 : 0 ≤ i) (h1 : i < 2) : ∃ b, atI [PyData.str "point", .str "stretch"] i = some (.str (kd b)) := by
  obtain rfl | rfl : i = 0 ∨ i = 1 := by omega
  · exact ⟨false, rfl⟩
  · exact ⟨true, rfl⟩
theorem three {α : Type} {xs : List α} (h : xs.length = 3) : ∃ a b c, xs = [a, b, c] := by
  match xs, h with
  | [a, b, c], _ => exact ⟨a, b, c, rfl⟩
theorem vc__law_kinds : ∀ ds m R, ds.length = p__law_kinds.length → sp__law_kinds ds m R → b__law_kinds (EN R) (start2 N__law_kinds ds) m := by
  rintro ds m R hl ⟨a, rfl, hf, h⟩
  simp [b__law_kinds, srcOf]
  refine loopC_rng (n := 3) (fun i acc d m' => ∃ ks : List Bool, ks.length = i ∧ acc = ks.map (fun k => .str (kd k)) ∧ Feeds m' a ∧ (∀ c, c ≠ a → m' c = m c) ∧ ∃ o, d = [o, some (.cel a)]) ?_ ?_ _ _ _ ⟨[], rfl, rfl, hf, fun _ _ => rfl, _, rfl⟩
  · rintro acc d m1 ⟨ks, kl, rfl, hf1, fr1, _⟩
    simp [b__law_kinds_1]
    refine draw_use (by decide) (by decide) hf1 fun r m2 r0 r1 hf2 => ?_
    have fd : Fd m m2 a := ⟨hf2.1, fun c hc => (hf2.2 c hc).trans (fr1 c hc)⟩
    obtain ⟨k, l, n, rfl⟩ := three kl
    simp [PyData.eqv, PyData.canLay0, PyData.depth, srcOf]
    by_cases c : r = 0
    · refine .inr ⟨c, ?_⟩
      simp [intsD, List.range_succ, loopC]
      refine ⟨by rw [sizeLine_eq]; decide, by rw [sizeLine_eq]; decide, by rw [sizeLine_eq]; decide, ?_⟩
      simp [b__law_kinds_2]
      exact h true true true m2 fd
    · refine .inl ⟨c, ?_⟩
      simp [b__law_kinds_2]
      exact h k l n m2 fd
  · rintro i acc d m1 K hi ⟨ks, kl, rfl, hf1, fr1, o, rfl⟩ hK
    simp [sz]
    refine draw_use (by decide) (by decide) hf1 fun r m2 r0 r1 hf2 => ?_
    obtain ⟨b, eb⟩ := kd_at2 r0 r1
    refine ⟨_, eb, _, rfl, ?_, hK _ _ _ ⟨ks ++ [b], by simp [kl], by simp, hf2.1, fun c hc => (hf2.2 c hc).trans (fr1 c hc), _, rfl⟩⟩
    exact Nat.lt_of_lt_of_le (show ks.length < 10 by omega) (sz (by decide))
end K07
set_option Elab.async false
set_option linter.all false
set_option maxRecDepth 100000
set_option maxHeartbeats 4000000
namespace K07
open PySem PySem.Spec PyProof.Rows L2 DL K01
def cont (k l n : Bool) (t1 t2 : Int × Int) (done : List (Int × Int)) (u : Str) : List Str := (done.filter fun t => decide (wT l n t2 t = u)).map fun t => wT k n t1 t
def DueOk (k l n : Bool) : Prop := ∀ t1 ∈ gridT k FOUR, ∀ t2 ∈ gridT l FOUR, ∀ u ∈ WS l n, cont k l n t1 t2 (gridT n FRT) u ≠ [] ∧ (WS k n).filter (fun v => decide (v ∈ cont k l n t1 t2 (gridT n FRT) u)) = BW k l n (wT k l t1 t2) u
instance (k l n : Bool) : Decidable (DueOk k l n) := by unfold DueOk; infer_instance
theorem due_ok (k l n : Bool) : DueOk k l n := by cases k <;> cases l <;> cases n <;> decide +kernel
theorem wt_ok (k l : Bool) : ∀ t1 ∈ gridT k FOUR, ∀ t2 ∈ gridT l FOUR, wT k l t1 t2 ∈ WS k l := by cases k <;> cases l <;> decide +kernel
theorem wt_ok3 (k l : Bool) : ∀ t1 ∈ gridT k FOUR, ∀ t2 ∈ gridT l FRT, wT k l t1 t2 ∈ WS k l := by cases k <;> cases l <;> decide +kernel
theorem tm4 (k : Bool) : ∀ t ∈ gridT k FOUR, (k = true → t.1 < t.2) ∧ (k = false → t.2 = t.1) ∧ 0 ≤ t.1 ∧ t.1 ≤ 14 ∧ 0 ≤ t.2 ∧ t.2 ≤ 14 := by cases k <;> decide +kernel
theorem tm14 (k : Bool) : ∀ t ∈ gridT k FRT, (k = true → t.1 < t.2) ∧ (k = false → t.2 = t.1) ∧ 0 ≤ t.1 ∧ t.1 ≤ 14 ∧ 0 ≤ t.2 ∧ t.2 ≤ 14 := by cases k <;> decide +kernel
theorem tmD_tm {k : Bool} {t : Int × Int} (h1 : k = true → t.1 < t.2) (h2 : k = false → t.2 = t.1) (h3 : 0 ≤ t.1) (h4 : t.1 ≤ 14) (h5 : 0 ≤ t.2) (h6 : t.2 ≤ 14) : Tm (tmD k t) k (t.1, 1) (t.2, 1) := by
  have b : ∀ i : Int, 0 ≤ i → i ≤ 14 → Bd 60 i := fun i h0 h1 => by
    unfold Bd
    have e : (2 : Nat) ^ 60 = 1152921504606846976 := by decide
    omega
  refine ⟨?_, Int.one_pos, Int.one_pos, fun q => by simpa using h1 q, fun q => by rw [h2 q], b _ h3 h4, b 1 (by decide) (by decide), b _ h5 h6, b 1 (by decide) (by decide)⟩
  cases k <;> rfl
theorem tm_4 {k : Bool} {t : Int × Int} (h : t ∈ gridT k FOUR) : Tm (tmD k t) k (t.1, 1) (t.2, 1) := let ⟨a, b, c, d, e, f⟩ := tm4 k t h; tmD_tm a b c d e f
theorem tm_14 {k : Bool} {t : Int × Int} (h : t ∈ gridT k FRT) : Tm (tmD k t) k (t.1, 1) (t.2, 1) := let ⟨a, b, c, d, e, f⟩ := tm14 k t h; tmD_tm a b c d e f
end K07
set_option Elab.async false
set_option linter.all false
set_option maxRecDepth 100000
set_option maxHeartbeats 4000000
namespace K07
open PySem PySem.Spec PyProof.Rows L2 DL K01
theorem vc__law_may : ∀ ds m R, ds.length = p__law_may.length → sp__law_may ds m R → b__law_may (EN R) (start2 N__law_may ds) m := by
  rintro ds m R hl ⟨a, k, l, rfl, hf, h⟩
  obtain ⟨w1, w2⟩ := ws_len k l
  have h : ∀ sel m', List.Sublist sel (WS k l) → Fd m m' a → R (.dat (.tuple (sel.map .str))) m' := fun sel m' hs fd => h sel m' (Nat.le_trans hs.length_le w2) (fun z hz => hs.subset hz) fd
  simp [b__law_may]
  refine ⟨k, l, rfl, ?_⟩
  simp [b__law_may_1]
  refine draw_use (by decide) (by decide) hf fun r m1 r0 r1 hf1 => ?_
  simp [b__law_may_2, srcOf]
  refine loopC_by (fun rest acc d m' => Fd m m' a ∧ (∃ o, d = [o, some (.cel a), some (I (1 + r))]) ∧ ∃ done todo sel, WS k l = done ++ todo ∧ rest = todo.map (fun z => .dat (.str z)) ∧ acc = sel.map .str ∧ List.Sublist sel done) ?_ ?_ _ _ _ _ ⟨hf1, ⟨none, rfl⟩, [], WS k l, [], rfl, by simp, rfl, List.Sublist.refl _⟩
  · rintro acc d m2 ⟨hf2, _, done, todo, sel, e1, e2, rfl, hs⟩
    have e3 : todo = [] := by simpa using e2.symm
    subst e3
    rw [List.append_nil] at e1
    subst e1
    simp [b__law_may_3]
    refine draw_use (by decide) (by decide) hf2.1 fun way m3 _ _ hf3 => ?_
    have hf3 := hf2.trans hf3
    have fin : ∀ sel m', Fd m m' a → List.Sublist sel (WS k l) → b__law_may_6 (EN R) [some (.cel a), some (.dat (kds k l)), some (.dat (.list ((WS k l).map .str))), some (I (1 + r)), some (.dat (.list (sel.map .str))), some (I way)] m' := fun sel m' hf' hs' => by
      simp [b__law_may_6]
      exact h sel m' hs' hf'
    simp [b__law_may_4, b__law_may_5, PyData.eqv, PyData.canLay0, PyData.depth]
    by_cases c0 : way = 0
    · right
      refine ⟨c0, draw_use (by omega) (by omega) hf3.1 fun q m4 q0 q1 hf4 => ?_⟩
      obtain ⟨j, rfl⟩ : ∃ j : Nat, q = j := ⟨q.toNat, by omega⟩
      have hj : j < (WS k l).length := by omega
      refine ⟨.str (WS k l)[j], atI_nat (by rw [List.getElem?_map, List.getElem?_eq_getElem hj]; rfl), _, rfl, sz (by show 1 ≤ 1000; decide), .inl ⟨by omega, fin [(WS k l)[j]] m4 (hf3.trans hf4) (List.singleton_sublist.mpr (List.getElem_mem hj))⟩⟩
    · left
      refine ⟨c0, ?_⟩
      by_cases c1 : way = 1
      · exact .inr ⟨c1, fin [] m3 hf3 (List.nil_sublist _)⟩
      · exact .inl ⟨c1, fin sel m3 hf3 hs⟩
  · rintro x xs acc d m2 k2 ⟨hf2, ⟨o, rfl⟩, done, todo, sel, e1, e2, rfl, hs⟩ hk
    cases todo with
    | nil => simp at e2
    | cons z todo =>
      obtain ⟨rfl, rfl⟩ := List.cons.inj e2
      have e3 : WS k l = (done ++ [z]) ++ todo := by rw [e1]; simp
      have hsl : sel.length < 14 := by
        have q1 := hs.length_le
        have q2 := congrArg List.length e1
        simp at q2
        omega
      simp
      refine draw_use (by omega) (by omega) hf2.1 fun q m3 _ _ hf3 => ?_
      simp [PyData.eqv, PyData.canLay0, PyData.depth]
      by_cases c : q = 0
      · right
        refine ⟨c, Nat.lt_of_lt_of_le hsl (sz (by decide)), hk _ _ _ ⟨hf2.trans hf3, ⟨_, rfl⟩, done ++ [z], todo, sel ++ [z], e3, rfl, by simp, hs.append (List.Sublist.refl _)⟩⟩
      · left
        exact ⟨c, hk _ _ _ ⟨hf2.trans hf3, ⟨_, rfl⟩, done ++ [z], todo, sel, e3, rfl, rfl, hs.trans (List.sublist_append_left _ _)⟩⟩
end K07
set_option Elab.async false
set_option linter.all false
set_option maxRecDepth 100000
set_option maxHeartbeats 4000000
namespace K07
open PySem PySem.Spec PyProof.Rows L2 DL K01
theorem vc_Behinds___init__ : ∀ ds m R, ds.length = p_Behinds___init__.length → sp_Behinds___init__ ds m R → b_Behinds___init__ (EN R) (start2 N_Behinds___init__ ds) m := by
  rintro ds m R hl ⟨a, rfl, ha, h⟩
  simp [b_Behinds___init__]
  intro c1 h1
  have ac1 : a ≠ c1 := by rintro rfl; rw [ha] at h1; cases h1
  refine ⟨_, by rw [updM_ne ac1]; exact ha, by decide, ?_⟩
  simp [b_Behinds___init___1, putO]
  intro c2 h2
  have ac2 : a ≠ c2 := by rintro rfl; rw [updM_same] at h2; cases h2
  have c12 : c1 ≠ c2 := by rintro rfl; rw [updM_ne ac1.symm, updM_same] at h2; cases h2
  rw [updM_ne ac2.symm, updM_ne c12.symm] at h2
  refine ⟨_, by rw [updM_ne ac2, updM_same], by simp, ?_⟩
  simp [putO, show ¬ (("by_words" : Str) = "by_mays") by decide]
  refine h c1 c2 _ h1 h2 (fun b n1 n2 n3 => by rw [updM_ne n1, updM_ne n3, updM_ne n1, updM_ne n2]) ⟨updM_same, ⟨[], by rw [updM_ne ac1.symm, updM_ne c12, updM_ne ac1.symm, updM_same], Nat.le_refl _, fun ks x e => by cases e⟩, ac1⟩
theorem kd_ok (k : Bool) : PyData.strOk (kd k) = true := by cases k <;> decide +kernel
theorem ord_ok : ∀ z ∈ ORD, PyData.strOk z = true := by decide +kernel
theorem kd_inj {k l : Bool} (h : kd k = kd l) : k = l := by
  cases k <;> cases l <;> first | rfl | exact absurd h (by decide)
theorem key3 {k l n : Bool} {z w : Str} (hz : z ∈ ORD) (hw : w ∈ ORD) : keyN (.dat (.tuple [kd3 k l n, .str z, .str w])) = some [kd3 k l n, .str z, .str w] := by
  simp [keyN, L2.isKs, L2.isK, kd_ok, ord_ok z hz, ord_ok w hw, PyData.depthAll, PyData.depth]
theorem key3_inj {k l n k' l' n' : Bool} {z w z' w' : Str} (h : ([kd3 k l n, .str z, .str w] : List PyData) = [kd3 k' l' n', .str z', .str w']) : k = k' ∧ l = l' ∧ n = n' ∧ z = z' ∧ w = w' := by
  simp at h
  obtain ⟨⟨h1, h2, h3⟩, h4, h5⟩ := h
  exact ⟨kd_inj h1, kd_inj h2, kd_inj h3, h4, h5⟩
theorem vc_Behinds_words : ∀ ds m R, ds.length = p_Behinds_words.length → sp_Behinds_words ds m R → b_Behinds_words (EN R) (start2 N_Behinds_words ds) m := by
  rintro ds m R hl ⟨a, c1, c2, q, k, l, n, z, w, rfl, hz, hw, B, hq, h⟩
  obtain ⟨ob, ⟨kvs, t1, tl, tg⟩, n1⟩ := B
  have hkey := key3 (k := k) (l := l) (n := n) (ws_ord k l z hz) (ws_ord l n w hw)
  have last : ∀ m' kvs', m' a = some (.o "Behinds" [("by_words", .cel c1), ("by_mays", .cel c2)]) → m' c1 = some (.n kvs') → kvs'.length ≤ q + 1 → GoodN kvs' → (∀ b, b ≠ c1 → m' b = m b) → (valG kvs' [kd3 k l n, .str z, .str w]).isSome = true →
      b_Behinds_words_2 (EN R) [some (.cel a), some (.dat (kd3 k l n)), some (.dat (.str z)), some (.dat (.str w)), some (.dat (.tuple [kd3 k l n, .str z, .str w]))] m' := fun m' kvs' ob' t1' tl' tg' fr hv => by
    obtain ⟨x, hx⟩ := Option.isSome_iff_exists.mp hv
    obtain ⟨k', l', n', z', w', e, rfl⟩ := tg' _ _ hx
    obtain ⟨rfl, rfl, rfl, rfl, rfl⟩ := key3_inj e
    simp only [b_Behinds_words_2, dSeq, dRet, dNGet, dFld, dVar]
    refine ⟨_, rfl, a, _, _, rfl, ob', rfl, fun b e => by cases e; rw [t1']; rfl, _, rfl, c1, _, _, _, rfl, hkey, t1', hx, fun b e => (nomatch e), ?_⟩
    exact h m' ⟨ob', ⟨kvs', t1', tl', tg'⟩, n1⟩ fr
  simp [b_Behinds_words]
  refine ⟨sz (by decide), ?_⟩
  simp only [b_Behinds_words_1, dSeq, dIf, dTst, dBin, dVar, dFld]
  refine ⟨_, rfl, _, rfl, a, _, _, rfl, ob, rfl, fun b e => by cases e; rw [t1]; rfl, ?_⟩
  refine ⟨_, _, hkey, t1, _, rfl, ?_⟩
  cases e : valG kvs [kd3 k l n, .str z, .str w] with
  | some x =>
    simp
    exact last m kvs ob t1 (by omega) tg (fun _ _ => rfl) (by rw [e]; rfl)
  | none =>
    simp only [Option.isSome_none, Bool.not_false, if_true]
    simp only [dSeq, dNPut, dCall, dCons, dNil, dVar, dFld, dNext]
    refine ⟨_, rfl, _, rfl, _, rfl, rfl, k, l, n, z, w, rfl, hz, hw, ?_⟩
    refine ⟨_, rfl, a, _, _, rfl, ob, rfl, fun b e => by cases e; rw [t1]; rfl, _, rfl, c1, _, _, rfl, hkey, t1, Nat.lt_of_le_of_lt tl (Nat.lt_of_lt_of_le (show q < 1000 by omega) (sz (Nat.le_refl _))), ?_⟩
    refine last _ (putG kvs [kd3 k l n, .str z, .str w] (.dat (.tuple ((BW k l n z w).map .str)))) (by rw [updM_ne n1]; exact ob) updM_same ?_ ?_ (fun b hb => updM_ne hb) ?_
    · have := length_putG kvs [kd3 k l n, .str z, .str w] (.dat (.tuple ((BW k l n z w).map .str)))
      omega
    · intro ks x hx
      rw [valG_put] at hx
      split at hx
      · rename_i e
        cases hx
        exact ⟨k, l, n, z, w, e, rfl⟩
      · exact tg ks x hx
    · rw [valG_put, if_pos rfl]
      rfl
end K07
set_option Elab.async false
set_option linter.all false
set_option maxRecDepth 100000
set_option maxHeartbeats 4000000
namespace K07
open PySem PySem.Spec PyProof.Rows L2 DL K01
def tr (u : Str) : Key × PyData := (.inr u, .bool true)
def addU (us : List Str) (u : Str) : List Str := if u ∈ us then us else us ++ [u]
theorem val_tr (v : Str) : ∀ us : List Str, valP (us.map tr) (.inr v) = if v ∈ us then some (.bool true) else none
  | [] => rfl
  | u :: us => by
    have ih := val_tr v us
    unfold valP at ih ⊢
    rw [List.map_cons, List.find?_cons]
    by_cases e : u = v
    · subst e
      simp [tr]
    · have d : decide ((tr u).1 = (Sum.inr v : Key)) = false := by simp [tr, e]
      rw [d]
      simp only [ih, List.mem_cons, Ne.symm e, false_or]
theorem any_tr (v : Str) (us : List Str) : ((us.map tr).any fun kv => decide (kv.1 = (.inr v : Key))) = decide (v ∈ us) := by
  induction us with
  | nil => rfl
  | cons u us ih =>
    rw [List.map_cons, List.any_cons, ih]
    by_cases e : u = v
    · simp [tr, e]
    · simp [tr, e, Ne.symm e]
theorem put_tr (us : List Str) (u : Str) : putP (us.map tr) (.inr u) (.bool true) = (addU us u).map tr := by
  unfold putP addU
  rw [any_tr]
  by_cases e : u ∈ us
  · rw [if_pos (decide_eq_true e), if_pos e, List.map_map]
    refine List.map_congr_left fun x _ => ?_
    show (if (tr x).1 = _ then ((tr x).1, PyData.bool true) else tr x) = tr x
    split <;> rfl
  · rw [if_neg (by simpa using e), if_neg e, List.map_append]
    rfl
theorem mem_addU {us : List Str} {u v : Str} : v ∈ addU us u ↔ v ∈ us ∨ v = u := by
  unfold addU
  split
  · rename_i h
    exact ⟨.inl, fun q => q.elim id fun e => e ▸ h⟩
  · simp
theorem nd_addU {us : List Str} {u : Str} (h : us.Nodup) : (addU us u).Nodup := by
  unfold addU
  split
  · exact h
  · rename_i q
    rw [List.nodup_append]
    exact ⟨h, by simp, fun a ha b hb e => q (by simp at hb; rw [← hb, ← e]; exact ha)⟩
theorem pig : ∀ {us ws : List Str}, us.Nodup → (∀ u ∈ us, u ∈ ws) → us.length ≤ ws.length
  | [], _, _, _ => Nat.zero_le _
  | u :: us, ws, nd, h => by
    have hu := h u List.mem_cons_self
    rw [List.nodup_cons] at nd
    have := pig (us := us) (ws := ws.erase u) nd.2 fun v hv => by
      refine (List.mem_erase_of_ne ?_).mpr (h v (List.mem_cons_of_mem _ hv))
      rintro rfl
      exact nd.1 hv
    rw [List.length_erase_of_mem hu] at this
    have := List.length_pos_of_mem hu
    rw [List.length_cons]
    omega
theorem full {us ws : List Str} (nd : us.Nodup) (h : ∀ u ∈ us, u ∈ ws) (hl : us.length = ws.length) : ∀ w ∈ ws, w ∈ us := fun w hw => by
  by_cases c : w ∈ us
  · exact c
  · have := pig (us := w :: us) (ws := ws) (List.nodup_cons.mpr ⟨c, nd⟩) fun v hv => by
      rcases List.mem_cons.mp hv with e | e
      · rw [e]; exact hw
      · exact h v e
    rw [List.length_cons] at this
    omega
theorem loopL_go {g : DG} {b : DS} {E : Ends2} (J : List D → St2 → Mu → Prop) (fin : ∀ d m, J [] d m → E.nx d m)
    (step : ∀ x rest (k : St2 → Mu → Prop) d m, J (x :: rest) d m → (∀ d' m', J rest d' m' → k d' m') → g x d m fun d' m' => b { E with nx := k, ct := k, bk := E.nx } d' m') : ∀ xs d m, J xs d m → loopL g b E xs d m
  | [], d, m, h => fin d m h
  | x :: xs, d, m, h => step x xs _ d m h (loopL_go J fin step xs)
theorem bw_sub {k l n : Bool} {z w : Str} : ∀ u ∈ BW k l n z w, u ∈ WS k n := fun u hu => (List.mem_filter.mp hu).1
structure Ga (m0 m : Mu) (a c1 c2 f : Addr) (k l n : Bool) (done : List (Str × Str)) : Prop where
  b : Bh m a c1 c2 done.length
  us : ∃ us : List Str, m f = some (.d (us.map tr)) ∧ us.Nodup ∧ (∀ u ∈ us, u ∈ WS k n) ∧ ∀ u, u ∈ us ↔ ∃ p ∈ done, u ∈ BW k l n p.1 p.2
  fr : ∀ b, b ≠ c1 → b ≠ f → m b = m0 b
theorem bm_iff {k l n : Bool} {zs ws : List Str} {u : Str} : (zs.any fun z => ws.any fun w => decide (u ∈ BW k l n z w)) = true ↔ ∃ z ∈ zs, ∃ w ∈ ws, u ∈ BW k l n z w := by
  simp [List.any_eq_true]
theorem at0' (x : PyData) (xs : List PyData) : atI (x :: xs) 0 = some x := by
  have : (0 : Int) < xs.length + 1 := by omega
  simp [atI, ixN, this]
theorem at2' (x y z : PyData) (xs : List PyData) : atI (x :: y :: z :: xs) 2 = some z := by
  have : (2 : Int) < xs.length + 1 + 1 + 1 := by omega
  simp [atI, ixN, this]
theorem vc_Behinds_gathered : ∀ ds m R, ds.length = p_Behinds_gathered.length → sp_Behinds_gathered ds m R → b_Behinds_gathered (EN R) (start2 N_Behinds_gathered ds) m := by
  rintro ds m R hl ⟨a, c1, c2, k, l, n, zs, ws, rfl, lz, lw, hz, hw, B, h⟩
  have h : ∀ m' zs', (∀ b, b ≠ c1 → (m b).isSome = true → m' b = m b) → zs' = BM k l n zs ws → R (.dat (.tuple (zs'.map .str))) m' := fun m' zs' q e => by rw [e]; exact h m' q
  simp only [b_Behinds_gathered, dSeq, dSet, dCall, dCons, dNil, dTup, dBin, dVar, dCon, aIx]
  refine ⟨_, rfl, _, at0' _ _, _, rfl, _, at2' _ _ _ _, _, rfl, sz (by simp), rfl, k, n, rfl, ?_⟩
  simp [b_Behinds_gathered_1]
  intro f hf
  have fa : f ≠ a := by rintro rfl; rw [B.ob] at hf; cases hf
  have fc : f ≠ c1 := by rintro rfl; obtain ⟨kvs, q, _⟩ := B.t1; rw [q] at hf; cases hf
  have g0 : Ga (updM m f (.d [])) (updM m f (.d [])) a c1 c2 f k l n [] := by
    obtain ⟨ob, ⟨kvs, t1, t2, t3⟩, n1⟩ := B
    exact ⟨⟨by rw [updM_ne fa.symm]; exact ob, ⟨kvs, by rw [updM_ne fc.symm]; exact t1, t2, t3⟩, n1⟩, ⟨[], updM_same, List.nodup_nil, by simp, by simp⟩, fun _ _ _ => rfl⟩
  have keep : ∀ {m'} {done}, Ga (updM m f (.d [])) m' a c1 c2 f k l n done → ∀ b, b ≠ c1 → (m b).isSome = true → m' b = m b := fun {m' done} G b hb hs => by
    have bf : b ≠ f := by rintro rfl; rw [hf] at hs; cases hs
    rw [G.fr b hb bf, updM_ne bf]
  simp only [b_Behinds_gathered_2, dSeq, dFor, dSeqI, dVar]
  refine ⟨_, rfl, .inr ⟨_, rfl, ?_⟩⟩
  refine loopL_go (fun rest d m' => ∃ zd zt, zs = zd ++ zt ∧ rest = (zt.map PyData.str).map .dat ∧ (∃ o6 o7 o8, d = [some (.cel a), some (.dat (kd3 k l n)), some (.dat (.tuple (zs.map .str))), some (.dat (.tuple (ws.map .str))), some (.dat (.tuple ((WS k n).map .str))), some (.cel f), o6, o7, o8]) ∧
      ∃ done, Ga (updM m f (.d [])) m' a c1 c2 f k l n done ∧ done.length ≤ 13 * zd.length ∧ (∀ p, p ∈ done ↔ p.1 ∈ zd ∧ p.2 ∈ ws)) ?_ ?_ _ _ _ ⟨[], zs, rfl, rfl, ⟨_, _, _, rfl⟩, [], g0, Nat.le_refl _, by simp⟩
  · rintro d m' ⟨zd, zt, e1, e2, ⟨o6, o7, o8, rfl⟩, done, G, _, hd⟩
    have : zt = [] := by simpa using e2.symm
    subst this
    rw [List.append_nil] at e1
    subst e1
    obtain ⟨us, mf, nd, sub, iff⟩ := G.us
    simp only [b_Behinds_gathered_3, dSeq, dRet, dCallB, dCons, dNil, dLC, dSeqI, dVar, srcOf]
    refine ⟨_, rfl, .inr ⟨_, rfl, ?_⟩⟩
    rw [List.map_map]
    refine words_use (pr := fun u => decide (u ∈ us)) (ws_len k n).2 (fun v Q' hv hq => ?_) ?_
    · simp [mf, val_tr]
      by_cases c : v ∈ us <;> simp [c] at hq ⊢ <;> exact hq
    · simp
      refine h _ _ (keep G) ?_
      unfold BM
      refine List.filter_congr fun u hu => ?_
      rw [Bool.eq_iff_iff, bm_iff, decide_eq_true_iff, iff]
      constructor
      · rintro ⟨p, hp, q⟩
        exact ⟨p.1, ((hd p).mp hp).1, p.2, ((hd p).mp hp).2, q⟩
      · rintro ⟨z, h1, w, h2, q⟩
        exact ⟨(z, w), (hd (z, w)).mpr ⟨h1, h2⟩, q⟩
  · rintro x rest K d m' ⟨zd, zt, e1, e2, ⟨o6, o7, o8, rfl⟩, done, G, dl, hd⟩ hK
    cases zt with
    | nil => simp at e2
    | cons z zt =>
      obtain ⟨rfl, rfl⟩ := List.cons.inj e2
      have hzz : z ∈ WS k l := hz z (by rw [e1]; simp)
      have zdl : zd.length ≤ 12 := by have := congrArg List.length e1; simp at this; omega
      simp only [gN, b_Behinds_gathered_L0, dSeq, dFor, dSeqI, dVar]
      refine ⟨_, rfl, .inr ⟨_, rfl, ?_⟩⟩
      refine loopL_go (fun rest d m' => ∃ wd wt, ws = wd ++ wt ∧ rest = (wt.map PyData.str).map .dat ∧ (∃ o7 o8, d = [some (.cel a), some (.dat (kd3 k l n)), some (.dat (.tuple (zs.map .str))), some (.dat (.tuple (ws.map .str))), some (.dat (.tuple ((WS k n).map .str))), some (.cel f), some (.dat (.str z)), o7, o8]) ∧
          ∃ done, Ga (updM m f (.d [])) m' a c1 c2 f k l n done ∧ done.length ≤ 13 * zd.length + wd.length ∧ (∀ p, p ∈ done ↔ (p.1 ∈ zd ∧ p.2 ∈ ws) ∨ (p.1 = z ∧ p.2 ∈ wd))) ?_ ?_ _ _ _ ⟨[], ws, rfl, rfl, ⟨_, _, rfl⟩, done, G, by simpa using dl, by simpa using hd⟩
      · rintro d m' ⟨wd, wt, f1, f2, ⟨o7, o8, rfl⟩, done, G, dl, hd⟩
        have : wt = [] := by simpa using f2.symm
        subst this
        rw [List.append_nil] at f1
        subst f1
        refine hK _ _ ⟨zd ++ [z], zt, by rw [e1]; simp, rfl, ⟨_, _, _, rfl⟩, done, G, by simp; omega, fun p => ?_⟩
        rw [hd p]
        simp
        constructor
        · rintro (⟨q1, q2⟩ | ⟨q1, q2⟩)
          · exact ⟨.inl q1, q2⟩
          · exact ⟨.inr q1, q2⟩
        · rintro ⟨q1 | q1, q2⟩
          · exact .inl ⟨q1, q2⟩
          · exact .inr ⟨q1, q2⟩
      · rintro x rest K2 d m' ⟨wd, wt, f1, f2, ⟨o7, o8, rfl⟩, done, G, dl, hd⟩ hK2
        cases wt with
        | nil => simp at f2
        | cons w wt =>
          obtain ⟨rfl, rfl⟩ := List.cons.inj f2
          have hww : w ∈ WS l n := hw w (by rw [f1]; simp)
          have wdl : wd.length ≤ 12 := by have := congrArg List.length f1; simp at this; omega
          obtain ⟨us, mf, nd, sub, iff⟩ := G.us
          simp only [gN, List.set_cons_succ, List.set_cons_zero]
          simp [b_Behinds_gathered_L1, mf, PyData.eqv, PyData.canLay0, PyData.depth]
          by_cases c : us.length = (WS k n).length
          · refine .inr ⟨by omega, ?_⟩
            refine h _ _ (keep G) ?_
            have fl := full nd sub c
            unfold BM
            rw [List.filter_eq_self.mpr fun u hu => ?_]
            rw [bm_iff]
            obtain ⟨p, hp, q⟩ := (iff u).mp (fl u hu)
            rcases (hd p).mp hp with ⟨q1, q2⟩ | ⟨q1, q2⟩
            · exact ⟨p.1, by rw [e1]; simp [q1], p.2, q2, q⟩
            · exact ⟨p.1, by rw [e1, q1]; simp, p.2, by rw [f1]; simp [q2], q⟩
          · refine .inl ⟨by omega, ?_⟩
            simp only [b_Behinds_gathered_L1_1, dSeq, dFor, dSeqI, dMeth, dCons, dNil, dVar]
            refine ⟨_, rfl, a, _, rfl, G.b.ob, rfl, _, rfl, _, rfl, _, rfl, rfl, ?_⟩
            refine ⟨a, c1, c2, done.length, k, l, n, z, w, rfl, hzz, hww, G.b, by omega, fun m2 B2 fr2 => .inr ⟨_, rfl, ?_⟩⟩
            have mf2 : m2 f = some (.d (us.map tr)) := by rw [fr2 f fc]; exact mf
            refine loopL_go (fun rest d m' => ∃ ud ut, BW k l n z w = ud ++ ut ∧ rest = (ut.map PyData.str).map .dat ∧ (∃ o8, d = [some (.cel a), some (.dat (kd3 k l n)), some (.dat (.tuple (zs.map .str))), some (.dat (.tuple (ws.map .str))), some (.dat (.tuple ((WS k n).map .str))), some (.cel f), some (.dat (.str z)), some (.dat (.str w)), o8]) ∧
                (∃ us', m' f = some (.d (us'.map tr)) ∧ us'.Nodup ∧ (∀ u ∈ us', u ∈ WS k n) ∧ ∀ u, u ∈ us' ↔ u ∈ us ∨ u ∈ ud) ∧ ∀ b, b ≠ f → m' b = m2 b) ?_ ?_ _ _ _ ⟨[], _, rfl, rfl, ⟨_, rfl⟩, ⟨us, mf2, nd, sub, by simp⟩, fun _ _ => rfl⟩
            · rintro d m' ⟨ud, ut, g1, g2, ⟨o8, rfl⟩, ⟨us', mf', nd', sub', iff'⟩, fr'⟩
              have : ut = [] := by simpa using g2.symm
              subst this
              rw [List.append_nil] at g1
              have B3 : Bh m' a c1 c2 (done.length + 1) := by
                obtain ⟨ob, ⟨kvs, t1, t2, t3⟩, n1⟩ := B2
                exact ⟨by rw [fr' a fa.symm]; exact ob, ⟨kvs, by rw [fr' c1 fc.symm]; exact t1, t2, t3⟩, n1⟩
              refine hK2 _ _ ⟨wd ++ [w], wt, by rw [f1]; simp, rfl, ⟨_, _, rfl⟩, done ++ [(z, w)], ⟨by simpa using B3, ⟨us', mf', nd', sub', fun u => ?_⟩, fun b q1 q2 => ?_⟩, by simp; omega, fun p => ?_⟩
              · rw [iff' u, iff u, ← g1]
                constructor
                · rintro (⟨p, hp, q⟩ | q)
                  · exact ⟨p, by simp [hp], q⟩
                  · exact ⟨(z, w), by simp, q⟩
                · rintro ⟨p, hp, q⟩
                  rcases List.mem_append.mp hp with hp | hp
                  · exact .inl ⟨p, hp, q⟩
                  · simp at hp
                    subst hp
                    exact .inr q
              · rw [fr' b q2, fr2 b q1]
                exact G.fr b q1 q2
              · rw [List.mem_append, hd p]
                simp
                constructor
                · rintro ((q | q) | q)
                  · exact .inl q
                  · exact .inr ⟨q.1, .inl q.2⟩
                  · subst q; exact .inr ⟨rfl, .inr rfl⟩
                · rintro (q | ⟨q1, q2 | q2⟩)
                  · exact .inl (.inl q)
                  · exact .inl (.inr ⟨q1, q2⟩)
                  · exact .inr (Prod.ext q1 q2)
            · rintro x rest K3 d m' ⟨ud, ut, g1, g2, ⟨o8, rfl⟩, ⟨us', mf', nd', sub', iff'⟩, fr'⟩ hK3
              cases ut with
              | nil => simp at g2
              | cons u ut =>
                obtain ⟨rfl, rfl⟩ := List.cons.inj g2
                have hu : u ∈ BW k l n z w := by rw [g1]; simp
                have ul : us'.length ≤ 13 := Nat.le_trans (pig nd' sub') (ws_len k n).2
                simp only [gN, List.set_cons_succ, List.set_cons_zero]
                simp [b_Behinds_gathered_L2, mf', put_tr]
                refine ⟨Nat.lt_of_le_of_lt ul (Nat.lt_of_lt_of_le (show 13 < 1000 by decide) (sz (Nat.le_refl _))), ?_⟩
                refine hK3 _ _ ⟨ud ++ [u], ut, by rw [g1]; simp, rfl, ⟨_, rfl⟩, ⟨addU us' u, updM_same, nd_addU nd', fun v hv => ?_, fun v => ?_⟩, fun b hb => by rw [updM_ne hb]; exact fr' b hb⟩
                · rcases mem_addU.mp hv with q | q
                  · exact sub' v q
                  · rw [q]; exact bw_sub u hu
                · rw [mem_addU, iff' v]
                  simp [or_assoc]
theorem vc_behind_mays : ∀ ds m R, ds.length = p_behind_mays.length → sp_behind_mays ds m R → b_behind_mays (EN R) (start2 N_behind_mays ds) m := by
  rintro ds m R hl ⟨k, l, n, zs, ws, rfl, lz, lw, hz, hw, h⟩
  simp only [b_behind_mays, dSeq, dRet, dMeth, dMake, dCons, dNil, dVar]
  refine ⟨rfl, fun a ha => ?_⟩
  refine ⟨a, rfl, updM_same, fun c1 c2 m1 h1 h2 fr B => ⟨rfl, ?_⟩⟩
  refine ⟨a, _, rfl, B.ob, rfl, _, rfl, _, rfl, _, rfl, rfl, ?_⟩
  refine ⟨a, c1, c2, k, l, n, zs, ws, rfl, lz, lw, hz, hw, B, fun m2 fr2 => ?_⟩
  refine h m2 fun c hc => ?_
  have ca : c ≠ a := by rintro rfl; rw [ha] at hc; cases hc
  have nn : ∀ b, updM m a (.o "Behinds" []) b = none → c ≠ b := fun b hb e => by
    subst e
    rw [updM_ne ca] at hb
    rw [hb] at hc
    cases hc
  have e1 : m1 c = m c := by rw [fr c ca (nn c1 h1) (nn c2 h2), updM_ne ca]
  rw [fr2 c (nn c1 h1) (by rw [e1]; exact hc), e1]
end K07
set_option Elab.async false
set_option linter.all false
set_option maxRecDepth 100000
set_option maxHeartbeats 4000000
namespace K07
open PySem PySem.Spec PyProof.Rows L2 DL K01
theorem wt_all (k l : Bool) : ∀ z ∈ WS k l, ∃ t1 ∈ gridT k FOUR, ∃ t2 ∈ gridT l FOUR, wT k l t1 t2 = z := by cases k <;> cases l <;> decide +kernel
theorem at1' (x y : PyData) (xs : List PyData) : atI (x :: y :: xs) 1 = some y := by
  have : (1 : Int) < xs.length + 1 + 1 := by omega
  simp [atI, ixN, this]
structure Rc (m0 m : Mu) (c e : Addr) (us bs : List Str) (k l n : Bool) : Prop where
  mc : m c = some (.d (us.map tr))
  me : m e = some (.d (bs.map tr))
  nu : us.Nodup
  nb : bs.Nodup
  su : ∀ u ∈ us, u ∈ WS k n
  sb : ∀ u ∈ bs, u ∈ WS k l
  fr : ∀ b, b ≠ c → b ≠ e → m b = m0 b
theorem third_iff {k l n : Bool} {t1 t2 : Int × Int} (h1 : t1 ∈ gridT k FOUR) (h2 : t2 ∈ gridT l FOUR) {ws : List Str} (hw : ∀ w ∈ ws, w ∈ WS l n) (u : Str) :
    (∃ t ∈ gridT n FRT, wT l n t2 t ∈ ws ∧ u = wT k n t1 t) ↔ ∃ w ∈ ws, u ∈ BW k l n (wT k l t1 t2) w := by
  have key : ∀ w ∈ ws, (u ∈ BW k l n (wT k l t1 t2) w ↔ u ∈ WS k n ∧ u ∈ cont k l n t1 t2 (gridT n FRT) w) := fun w hww => by
    rw [← (due_ok k l n t1 h1 t2 h2 w (hw w hww)).2, List.mem_filter, decide_eq_true_iff]
  constructor
  · rintro ⟨t, ht, q1, rfl⟩
    refine ⟨_, q1, (key _ q1).mpr ⟨wt_ok3 k n t1 h1 t ht, ?_⟩⟩
    exact List.mem_map.mpr ⟨t, List.mem_filter.mpr ⟨ht, by simp⟩, rfl⟩
  · rintro ⟨w, hww, q⟩
    obtain ⟨_, q⟩ := (key w hww).mp q
    obtain ⟨t, ht, rfl⟩ := List.mem_map.mp q
    obtain ⟨ht, e⟩ := List.mem_filter.mp ht
    exact ⟨t, ht, by rw [of_decide_eq_true e]; exact hww, rfl⟩
theorem vc__law_reached : ∀ ds m R, ds.length = p__law_reached.length → sp__law_reached ds m R → b__law_reached (EN R) (start2 N__law_reached ds) m := by
  rintro ds m R hl ⟨k, l, n, zs, ws, rfl, lz, lw, hz, hw, h⟩
  have h : ∀ m' zs', Kn m m' → zs' = BM k l n zs ws → R (.dat (.tuple (zs'.map .str))) m' := fun m' zs' q e => by rw [e]; exact h m' q
  simp [b__law_reached]
  intro c hc
  simp [b__law_reached_1]
  intro e he
  have ec : e ≠ c := by rintro rfl; rw [updM_same] at he; cases he
  rw [updM_ne ec] at he
  have keep : ∀ {m' us bs}, Rc m m' c e us bs k l n → Kn m m' := fun {m' us bs} G b hs => by
    refine G.fr b ?_ ?_
    · rintro rfl; rw [hc] at hs; cases hs
    · rintro rfl; rw [he] at hs; cases hs
  have g0 : Rc m (updM (updM m c (.d [])) e (.d [])) c e [] [] k l n := ⟨by rw [updM_ne ec.symm, updM_same]; rfl, by rw [updM_same]; rfl, List.nodup_nil, List.nodup_nil, by simp, by simp, fun b q1 q2 => by rw [updM_ne q2, updM_ne q1]⟩
  simp only [b__law_reached_2, dSeq, dFor, dSeqI, dCall, dCons, dNil, dVar, dBin, aIx, dCon, dLst]
  refine ⟨_, rfl, _, at0' _ _, _, rfl, sz (by simp), rfl, k, FOUR, by rfl, by decide, .inl ⟨_, rfl, ?_⟩⟩
  refine loopL_go (fun rest d m' => ∃ fd ft, gridT k FOUR = fd ++ ft ∧ rest = (ft.map (tmD k)).map .dat ∧ (∃ o5 o6 o7 o8, d = [some (.dat (kd3 k l n)), some (.dat (.tuple (zs.map .str))), some (.dat (.tuple (ws.map .str))), some (.cel c), some (.cel e), o5, o6, o7, o8]) ∧
      ∃ us bs, Rc m m' c e us bs k l n ∧ (∀ u, u ∈ us ↔ ∃ z ∈ bs, ∃ w ∈ ws, u ∈ BW k l n z w) ∧ (∀ z, z ∈ bs ↔ z ∈ zs ∧ ∃ t1 ∈ fd, ∃ t2 ∈ gridT l FOUR, wT k l t1 t2 = z)) ?_ ?_ _ _ _ ⟨[], _, rfl, rfl, ⟨_, _, _, _, rfl⟩, [], [], g0, by simp, by simp⟩
  · rintro d m' ⟨fd, ft, e1, e2, ⟨o5, o6, o7, o8, rfl⟩, us, bs, G, hu, hb⟩
    have : ft = [] := by simpa using e2.symm
    subst this
    rw [List.append_nil] at e1
    subst e1
    simp only [b__law_reached_3, dSeq, dRet, dCallB, dCons, dNil, dLC, dSeqI, dCall, dTup, dBin, dVar, dCon, aIx, srcOf]
    refine ⟨_, rfl, _, at0' _ _, _, rfl, _, at2' _ _ _ _, _, rfl, sz (by simp), rfl, k, n, rfl, .inl ⟨_, rfl, ?_⟩⟩
    rw [List.map_map]
    have mf := G.mc
    refine words_use (pr := fun u => decide (u ∈ us)) (ws_len k n).2 (fun v Q' hv hq => ?_) ?_
    · simp [mf, val_tr]
      by_cases c : v ∈ us <;> simp [c] at hq ⊢ <;> exact hq
    · simp
      refine h _ _ (keep G) ?_
      unfold BM
      refine List.filter_congr fun u _ => ?_
      rw [Bool.eq_iff_iff, bm_iff, decide_eq_true_iff, hu]
      constructor
      · rintro ⟨z, q1, q2⟩
        exact ⟨z, ((hb z).mp q1).1, q2⟩
      · rintro ⟨z, q1, q2⟩
        exact ⟨z, (hb z).mpr ⟨q1, wt_all k l z (hz z q1)⟩, q2⟩
  · rintro x rest K d m' ⟨fd, ft, e1, e2, ⟨o5, o6, o7, o8, rfl⟩, us, bs, G, hu, hb⟩ hK
    cases ft with
    | nil => simp at e2
    | cons t1 ft =>
      obtain ⟨rfl, rfl⟩ := List.cons.inj e2
      have h1 : t1 ∈ gridT k FOUR := by rw [e1]; simp
      simp only [gN, List.set_cons_succ, List.set_cons_zero]
      simp only [b__law_reached_L0, dSeq, dFor, dSeqI, dCall, dCons, dNil, dVar, dBin, aIx, dCon, dLst]
      refine ⟨_, rfl, _, at1' _ _ _, _, rfl, sz (by simp), rfl, l, FOUR, by rfl, by decide, .inl ⟨_, rfl, ?_⟩⟩
      refine loopL_go (fun rest d m' => ∃ sd st, gridT l FOUR = sd ++ st ∧ rest = (st.map (tmD l)).map .dat ∧ (∃ o6 o7 o8, d = [some (.dat (kd3 k l n)), some (.dat (.tuple (zs.map .str))), some (.dat (.tuple (ws.map .str))), some (.cel c), some (.cel e), some (.dat (tmD k t1)), o6, o7, o8]) ∧
          ∃ us bs, Rc m m' c e us bs k l n ∧ (∀ u, u ∈ us ↔ ∃ z ∈ bs, ∃ w ∈ ws, u ∈ BW k l n z w) ∧ (∀ z, z ∈ bs ↔ z ∈ zs ∧ ((∃ t1 ∈ fd, ∃ t2 ∈ gridT l FOUR, wT k l t1 t2 = z) ∨ ∃ t2 ∈ sd, wT k l t1 t2 = z))) ?_ ?_ _ _ _ ⟨[], _, rfl, rfl, ⟨_, _, _, rfl⟩, us, bs, G, hu, by simpa using hb⟩
      · rintro d m' ⟨sd, st, f1, f2, ⟨o6, o7, o8, rfl⟩, us, bs, G, hu, hb⟩
        have : st = [] := by simpa using f2.symm
        subst this
        rw [List.append_nil] at f1
        subst f1
        refine hK _ _ ⟨fd ++ [t1], ft, by rw [e1]; simp, rfl, ⟨_, _, _, _, rfl⟩, us, bs, G, hu, fun z => ?_⟩
        rw [hb z]
        constructor
        · rintro ⟨q, ⟨t, q1, q2⟩ | q2⟩
          · exact ⟨q, t, by simp [q1], q2⟩
          · exact ⟨q, t1, by simp, q2⟩
        · rintro ⟨q, t, q1, q2⟩
          rcases List.mem_append.mp q1 with q1 | q1
          · exact ⟨q, .inl ⟨t, q1, q2⟩⟩
          · simp at q1; subst q1; exact ⟨q, .inr q2⟩
      · rintro x rest K2 d m' ⟨sd, st, f1, f2, ⟨o6, o7, o8, rfl⟩, us, bs, G, hu, hb⟩ hK2
        cases st with
        | nil => simp at f2
        | cons t2 st =>
          obtain ⟨rfl, rfl⟩ := List.cons.inj f2
          have h2 : t2 ∈ gridT l FOUR := by rw [f1]; simp
          have hww := wt_ok k l t1 h1 t2 h2
          simp only [gN, List.set_cons_succ, List.set_cons_zero]
          simp only [b__law_reached_L1, dSeq, dSet, dCall, dCons, dNil, dVar]
          refine ⟨_, rfl, _, rfl, rfl, _, _, k, l, _, _, _, _, rfl, tm_4 h1, tm_4 h2, ?_⟩
          simp only [List.set_cons_succ, List.set_cons_zero]
          show b__law_reached_L1_1 _ [some (.dat (kd3 k l n)), some (.dat (.tuple (zs.map .str))), some (.dat (.tuple (ws.map .str))), some (.cel c), some (.cel e), some (.dat (tmD k t1)), some (.dat (tmD l t2)), some (.dat (.str (wT k l t1 t2))), o8] m'
          have me := G.me
          have next : ∀ o8 m2 us' bs', Rc m m2 c e us' bs' k l n → (∀ u, u ∈ us' ↔ ∃ z ∈ bs', ∃ w ∈ ws, u ∈ BW k l n z w) → (∀ z, z ∈ bs' ↔ z ∈ bs ∨ (z ∈ zs ∧ z = wT k l t1 t2)) → K2 [some (.dat (kd3 k l n)), some (.dat (.tuple (zs.map .str))), some (.dat (.tuple (ws.map .str))), some (.cel c), some (.cel e), some (.dat (tmD k t1)), some (.dat (tmD l t2)), some (.dat (.str (wT k l t1 t2))), o8] m2 := fun o8 m2 us' bs' G' hu' hb' => by
            refine hK2 _ _ ⟨sd ++ [t2], st, by rw [f1]; simp, rfl, ⟨_, _, _, rfl⟩, us', bs', G', hu', fun z => ?_⟩
            rw [hb' z, hb z]
            constructor
            · rintro (⟨q, q1 | ⟨t, q2, q3⟩⟩ | ⟨q, q4⟩)
              · exact ⟨q, .inl q1⟩
              · exact ⟨q, .inr ⟨t, by simp [q2], q3⟩⟩
              · exact ⟨q, .inr ⟨t2, by simp, q4.symm⟩⟩
            · rintro ⟨q, q1 | ⟨t, q2, q3⟩⟩
              · exact .inl ⟨q, .inl q1⟩
              · rcases List.mem_append.mp q2 with q2 | q2
                · exact .inl ⟨q, .inr ⟨t, q2, q3⟩⟩
                · simp at q2; subst q2; exact .inr ⟨q, q3.symm⟩
          simp only [b__law_reached_L1_1, dSeq, dIf, dAndT, dTst, dBin, dVar, aIn]
          refine ⟨_, rfl, _, rfl, zs, rfl, _, rfl, ?_⟩
          by_cases c1 : wT k l t1 t2 ∈ zs
          · simp only [c1, decide_true, if_true]
            refine ⟨_, rfl, _, rfl, _, _, rfl, me, _, rfl, ?_⟩
            rw [val_tr]
            by_cases c2 : wT k l t1 t2 ∈ bs
            · simp only [c2, if_true, Option.isSome_some, Bool.not_true, Bool.false_eq_true, if_false, dNext]
              exact next _ _ us bs G hu fun z => ⟨.inl, fun q => q.elim id fun q => q.2 ▸ c2⟩
            · simp only [c2, if_false, Option.isSome_none, Bool.not_false, if_true]
              have bl : bs.length ≤ 13 := Nat.le_trans (pig G.nb G.sb) (ws_len k l).2
              simp only [b__law_reached_B0, dSeq, dDPut, dCon, dVar]
              refine ⟨_, rfl, _, rfl, e, _, _, _, rfl, rfl, rfl, me, by rw [List.length_map]; exact Nat.lt_of_le_of_lt bl (Nat.lt_of_lt_of_le (show 13 < 1000 by decide) (sz (Nat.le_refl _))), ?_⟩
              rw [put_tr]
              have G1 : Rc m (updM m' e (.d ((addU bs (wT k l t1 t2)).map tr))) c e us (addU bs (wT k l t1 t2)) k l n := by
                refine ⟨by rw [updM_ne ec.symm]; exact G.mc, updM_same, G.nu, nd_addU G.nb, G.su, fun z q => ?_, fun b q1 q2 => by rw [updM_ne q2]; exact G.fr b q1 q2⟩
                rcases mem_addU.mp q with q | q
                · exact G.sb z q
                · rw [q]; exact hww
              generalize hm1 : updM m' e (.d ((addU bs (wT k l t1 t2)).map tr)) = m1 at G1 ⊢
              simp only [b__law_reached_B0_1, dSeq, dFor, dSeqI, dCall, dCons, dNil, dVar, dBin, aIx, dCon, dLstRng2]
              refine ⟨_, rfl, _, at2' _ _ _ _, 1, 14, rfl, rfl, by decide, by decide, by decide, rfl, n, FRT, by rfl, by decide, .inl ⟨_, rfl, ?_⟩⟩
              refine loopL_go (fun rest d m' => ∃ td tt, gridT n FRT = td ++ tt ∧ rest = (tt.map (tmD n)).map .dat ∧ (∃ o8, d = [some (.dat (kd3 k l n)), some (.dat (.tuple (zs.map .str))), some (.dat (.tuple (ws.map .str))), some (.cel c), some (.cel e), some (.dat (tmD k t1)), some (.dat (tmD l t2)), some (.dat (.str (wT k l t1 t2))), o8]) ∧
                  ∃ us', Rc m m' c e us' (addU bs (wT k l t1 t2)) k l n ∧ ∀ u, u ∈ us' ↔ u ∈ us ∨ ∃ t ∈ td, wT l n t2 t ∈ ws ∧ u = wT k n t1 t) ?_ ?_ _ _ _ ⟨[], _, rfl, rfl, ⟨_, rfl⟩, us, G1, by simp⟩
              · rintro d m2 ⟨td, tt, g1, g2, ⟨o8, rfl⟩, us', G2, hu'⟩
                have : tt = [] := by simpa using g2.symm
                subst this
                rw [List.append_nil] at g1
                subst g1
                refine next _ _ us' _ G2 (fun u => ?_) fun z => ?_
                · rw [hu' u, hu u, third_iff h1 h2 hw]
                  constructor
                  · rintro (⟨z, q1, q2⟩ | q2)
                    · exact ⟨z, mem_addU.mpr (.inl q1), q2⟩
                    · exact ⟨_, mem_addU.mpr (.inr rfl), q2⟩
                  · rintro ⟨z, q1, q2⟩
                    rcases mem_addU.mp q1 with q1 | q1
                    · exact .inl ⟨z, q1, q2⟩
                    · rw [q1] at q2; exact .inr q2
                · rw [mem_addU]
                  exact ⟨fun q => q.imp id fun (q : z = wT k l t1 t2) => ⟨by rw [q]; exact c1, q⟩, fun q => q.imp id fun q => q.2⟩
              · rintro x rest K3 d m2 ⟨td, tt, g1, g2, ⟨o8, rfl⟩, us', G2, hu'⟩ hK3
                cases tt with
                | nil => simp at g2
                | cons t tt =>
                  obtain ⟨rfl, rfl⟩ := List.cons.inj g2
                  have h3 : t ∈ gridT n FRT := by rw [g1]; simp
                  have ul : us'.length ≤ 13 := Nat.le_trans (pig G2.nu G2.su) (ws_len k n).2
                  simp only [gN, List.set_cons_succ, List.set_cons_zero]
                  simp only [b__law_reached_L2, dSeq, dIf, dTst, dBin, dCall, dCons, dNil, dVar, dNext]
                  refine ⟨_, rfl, _, rfl, rfl, _, _, l, n, _, _, _, _, rfl, tm_4 h2, tm_14 h3, _, rfl, ?_⟩
                  refine ⟨ws, rfl, _, rfl, ?_⟩
                  show (if decide (wT l n t2 t ∈ ws) = true then _ else _)
                  by_cases c3 : wT l n t2 t ∈ ws
                  · simp only [c3, decide_true, if_true]
                    simp only [dDPut, dCon, dCall, dCons, dNil, dVar]
                    refine ⟨_, rfl, _, rfl, _, rfl, rfl, _, _, k, n, _, _, _, _, rfl, tm_4 h1, tm_14 h3, c, _, _, _, rfl, rfl, rfl, G2.mc, by rw [List.length_map]; exact Nat.lt_of_le_of_lt ul (Nat.lt_of_lt_of_le (show 13 < 1000 by decide) (sz (Nat.le_refl _))), ?_⟩
                    show K3 _ (updM m2 c (.d (putP (us'.map tr) (.inr (wT k n t1 t)) (.bool true))))
                    rw [put_tr]
                    refine hK3 _ _ ⟨td ++ [t], tt, by rw [g1]; simp, rfl, ⟨_, rfl⟩, addU us' (wT k n t1 t), ⟨updM_same, by rw [updM_ne ec]; exact G2.me, nd_addU G2.nu, G2.nb, fun u q => ?_, G2.sb, fun b q1 q2 => by rw [updM_ne q1]; exact G2.fr b q1 q2⟩, fun u => ?_⟩
                    · rcases mem_addU.mp q with q | q
                      · exact G2.su u q
                      · rw [q]; exact wt_ok3 k n t1 h1 t h3
                    · rw [mem_addU, hu' u]
                      constructor
                      · rintro ((q | ⟨s, q1, q2⟩) | q)
                        · exact .inl q
                        · exact .inr ⟨s, by simp [q1], q2⟩
                        · exact .inr ⟨t, by simp, c3, q⟩
                      · rintro (q | ⟨s, q1, q2⟩)
                        · exact .inl (.inl q)
                        · rcases List.mem_append.mp q1 with q1 | q1
                          · exact .inl (.inr ⟨s, q1, q2⟩)
                          · simp at q1; subst q1; exact .inr q2.2
                  · simp only [c3, decide_false, Bool.false_eq_true, if_false]
                    refine hK3 _ _ ⟨td ++ [t], tt, by rw [g1]; simp, rfl, ⟨_, rfl⟩, us', G2, fun u => ?_⟩
                    rw [hu' u]
                    constructor
                    · rintro (q | ⟨s, q1, q2⟩)
                      · exact .inl q
                      · exact .inr ⟨s, by simp [q1], q2⟩
                    · rintro (q | ⟨s, q1, q2⟩)
                      · exact .inl q
                      · rcases List.mem_append.mp q1 with q1 | q1
                        · exact .inr ⟨s, q1, q2⟩
                        · simp at q1; subst q1; exact absurd q2.1 c3
          · simp only [c1, decide_false, Bool.false_eq_true, if_false, dNext]
            exact next _ _ us bs G hu fun z => ⟨.inl, fun q => q.elim id fun q => absurd (q.2 ▸ q.1) c1⟩
end K07
set_option Elab.async false
set_option linter.all false
set_option maxRecDepth 100000
set_option maxHeartbeats 4000000
namespace K07
open PySem PySem.Spec PyProof.Rows L2 DL K01
theorem ord_good : ∀ z ∈ ORD, z.cps.toList.all (fun c => decide (c < 1114112)) = true ∧ z.length ≤ 20 := by decide +kernel
theorem t_fits {k l : Bool} {zs : List Str} (hn : zs.length ≤ 13) (h : ∀ z ∈ zs, z ∈ WS k l) : (PyData.tuple (zs.map .str)).showable = true ∧ (PyData.tuple (zs.map .str)).shown.length ≤ sizeLine ∧ (PyData.tuple (zs.map .str)).depth ≤ 100 := by
  refine sv_fits (B := 8) (sv_tup (w := 20) (e := 1) (n := 13) (fun x hx => ?_) (by simpa using hn)) (by decide) (by decide) (by decide)
  obtain ⟨z, hz, rfl⟩ := List.mem_map.mp hx
  obtain ⟨q1, q2⟩ := ord_good z (ws_ord k l z (h z hz))
  exact sv_str q1 q2
theorem cut_sub {α : Type} {xs : List α} {lo hi : Option Int} : (∀ x ∈ cutP xs lo hi, x ∈ xs) ∧ (cutP xs lo hi).length ≤ xs.length := by
  unfold cutP
  exact ⟨fun x hx => List.drop_subset _ _ (List.take_subset _ _ hx), by rw [List.length_take, List.length_drop]; omega⟩
theorem vc_law : ∀ ds m R, ds.length = p_law.length → sp_law ds m R → b_law (EN R) (start2 N_law ds) m := by
  rintro ds m R hl ⟨ns, rfl, hn, h⟩
  simp [b_law]
  refine loopL_rng (n := 2) (fun i d m' => ∃ o1 o2 o3 o4 o5, d = [some (.dat (.list (ns.map .int))), o1, o2, o3, o4, o5]) ?_ ?_ _ _ ⟨_, _, _, _, _, rfl⟩
  · rintro d m' ⟨o1, o2, o3, o4, o5, rfl⟩
    simp [b_law_1]
    exact h m'
  rintro i hi K hK d m1 ⟨o1, o2, o3, o4, o5, rfl⟩
  simp [b_law_L0]
  refine ⟨ns, i, rfl, hn, by omega, by omega, fun a m2 hf2 => ?_⟩
  simp [b_law_L0_1]
  refine ⟨a, rfl, hf2, fun k l n m3 hf3 => ?_⟩
  simp [b_law_L0_2]
  refine ⟨a, k, l, rfl, hf3.1, fun zs m4 zl hz hf4 => ?_⟩
  simp [b_law_L0_3]
  refine ⟨a, l, n, rfl, hf4.1, fun ws m5 wl hw hf5 => ?_⟩
  have fin : ∀ (ws : List Str) m', ws.length ≤ 13 → (∀ w ∈ ws, w ∈ WS l n) → b_law_L0_5 { nx := K, rt := R, bk := b_law_1 (EN R), ct := K } [some (.dat (.list (ns.map .int))), some (I i), some (.cel a), some (.dat (kd3 k l n)), some (.dat (.tuple (zs.map .str))), some (.dat (.tuple (ws.map .str)))] m' := fun ws m' wl hw => by
    obtain ⟨f1, f2, f3⟩ := t_fits (k := k) (l := n) (zs := BM k l n zs ws) (Nat.le_trans (List.length_filter_le _ _) (ws_len k n).2) fun z hz' => (List.mem_filter.mp hz').1
    simp [b_law_L0_5]
    refine ⟨k, l, n, zs, ws, rfl, zl, wl, hz, hw, fun m6 k6 => ?_⟩
    simp [f1, f2, f3]
    refine ⟨k, l, n, zs, ws, rfl, zl, wl, hz, hw, fun m7 k7 => ?_⟩
    simp [f1, f2, f3]
    exact hK _ _ ⟨_, _, _, _, _, rfl⟩
  have cut : ∀ m', Feeds m' a → (∀ ws' : List Str, ws'.length ≤ 13 → (∀ w ∈ ws', w ∈ WS l n) → ∀ m', b_law_L0_5 { nx := K, rt := R, bk := b_law_1 (EN R), ct := K } [some (.dat (.list (ns.map .int))), some (I i), some (.cel a), some (.dat (kd3 k l n)), some (.dat (.tuple (zs.map .str))), some (.dat (.tuple (ws'.map .str)))] m') →
      (dSeq (dSet 5 (dSlX (dSlX (dVar 5) (dPart (dCall 2 sp__law_draw (dCons (dVar 2) (dCons (dBin aAdd (dCallB bLen (dCons (dVar 5) dNil)) (dCon (.int 1))) dNil)))) dNoP) dNoP (dPart (dCon (.int 4))))) dNext) { nx := b_law_L0_5 { nx := K, rt := R, bk := b_law_1 (EN R), ct := K }, rt := R, bk := b_law_1 (EN R), ct := K } [some (.dat (.list (ns.map .int))), some (I i), some (.cel a), some (.dat (kd3 k l n)), some (.dat (.tuple (zs.map .str))), some (.dat (.tuple (ws.map .str)))] m' := fun m' hf' hh => by
    simp
    refine draw_use (by omega) (by omega) hf' fun r m6 r0 r1 hf6 => ?_
    simp [cutP_map]
    obtain ⟨c1, c2⟩ := cut_sub (xs := ws) (lo := some r) (hi := none)
    obtain ⟨c3, c4⟩ := cut_sub (xs := cutP ws (some r) none) (lo := none) (hi := some 4)
    exact hh _ (by omega) (fun w q => hw w (c1 w (c3 w q))) _
  simp only [b_law_L0_4, dSeq, dIf, dOrT, dTst, dBin, dVar, dCon, aGt]
  refine ⟨_, rfl, _, rfl, ?_⟩
  by_cases c : (0 : Int) < (i : Int)
  · simp only [c, decide_true, if_true]
    exact cut m5 hf5.1 fun ws' q1 q2 m' => fin ws' m' q1 q2
  · simp only [c, decide_false, Bool.false_eq_true, if_false]
    simp only [dCall, dCons, dNil, dVar, dCon]
    refine ⟨_, rfl, rfl, draw_use (by decide) (by decide) hf5.1 fun r m6 r0 r1 hf6 => ?_⟩
    refine ⟨_, rfl, ?_⟩
    by_cases c2 : 0 < r
    · simp only [c2, decide_true, if_true]
      exact cut m6 hf6.1 fun ws' q1 q2 m' => fin ws' m' q1 q2
    · simp only [c2, decide_false, Bool.false_eq_true, if_false, dNext]
      exact fin ws m6 wl hw
end K07
set_option Elab.async false
set_option linter.all false
set_option maxRecDepth 100000
namespace HD
open PySem PySem.W
section
variable {α β : Type} {tb : String → Option Builtin} {p : Program} {w : World} {n₀ : Nat} {ann : Option Value} {c : Code} {B : List Frame}
theorem go_go {b : Nat} : ∀ {n m : Nat} {s s1 s2 : Shared} {t t1 t2 : Thread}, segGo tb p w n₀ ann b n s t = some (s1, t1) → segGo tb p w n₀ ann b m s1 t1 = some (s2, t2) → segGo tb p w n₀ ann b (n + m) s t = some (s2, t2)
  | 0, m, s, s1, s2, t, t1, t2, h, k => by
    obtain ⟨rfl, rfl⟩ : s = s1 ∧ t = t1 := by simpa [segGo] using h
    rw [Nat.zero_add]
    exact k
  | n + 1, m, s, s1, s2, t, t1, t2, h, k => by
    rw [show n + 1 + m = n + m + 1 by omega]
    unfold segGo at h ⊢
    cases he : endAt b t with
    | some f => rw [he] at h; cases h
    | none =>
      rw [he] at h
      cases hk : stepOk n₀ ann t with
      | false => rw [hk] at h; cases h
      | true =>
        rw [hk] at h
        cases hs : step (denote tb) p w s t with
        | halt o s' => rw [hs] at h; cases h
        | go s' t' => rw [hs] at h; exact go_go h k
def R (N : Nat) (tb : String → Option Builtin) (p : Program) (w : World) (n₀ : Nat) (ann : Option Value) (c : Code) (B : List Frame) (m : Sem α) (s : Shared) (pos : Pos) (a : α) (s' : Shared) (pos' : Pos) : Prop :=
  ∀ (K : α → Sem Fin) (H : Value → Sem Fin) (gd : Bool → Bool) (lv : List Value → List Value), ∃ n, n ≤ N ∧ segGo tb p w n₀ ann B.length n s ⟨m.wrap K H gd lv, c, pos, B⟩ = some (s', ⟨K a, c, pos', B⟩)
variable {s s1 s' : Shared} {pos pos1 pos' : Pos} {N N1 N2 : Nat}
theorem R.pure {a : α} : R 0 tb p w n₀ ann c B (Pure.pure a) s pos a s pos := fun K H gd lv => ⟨0, Nat.le_refl _, rfl⟩
theorem R.mono {m : Sem α} {a : α} (hN : N1 ≤ N) (h : R N1 tb p w n₀ ann c B m s pos a s' pos') : R N tb p w n₀ ann c B m s pos a s' pos' := fun K H gd lv => let ⟨n, l, e⟩ := h K H gd lv; ⟨n, Nat.le_trans l hN, e⟩
theorem R.bind {m : Sem α} {f : α → Sem β} {a : α} {b : β} (h : R N1 tb p w n₀ ann c B m s pos a s1 pos1) (k : R N2 tb p w n₀ ann c B (f a) s1 pos1 b s' pos') : R (N1 + N2) tb p w n₀ ann c B (m >>= f) s pos b s' pos' := fun K H gd lv => by
  obtain ⟨n1, l1, e1⟩ := h (fun a => (f a).wrap K H gd lv) H gd lv
  obtain ⟨n2, l2, e2⟩ := k K H gd lv
  refine ⟨n1 + n2, Nat.add_le_add l1 l2, ?_⟩
  have e : (m >>= f).wrap K H gd lv = m.wrap (fun a => (f a).wrap K H gd lv) H gd lv := by
    rw [Sem.bind_eq_wrap', Sem.wrap_wrap]
    rfl
  rw [e]
  exact go_go e1 e2
theorem R.hold {m : Sem α} {vs : List Value} {a : α} (h : R N tb p w n₀ ann c B m s pos a s' pos') : R N tb p w n₀ ann c B (holding vs m) s pos a s' pos' := by
  unfold holding
  split
  · exact h
  · intro K H gd lv
    rw [Sem.keep_eq_wrap, Sem.wrap_wrap]
    exact h K H _ _
theorem R.leaf {m : Sem α} {a : α} {sT sT' : SharedT} (n : Nat) (h : ∀ (K : α → Sem Fin) (H : Value → Sem Fin) (gd : Bool → Bool) (lv : List Value → List Value), segGoT tb p w n₀ ann B.length n sT ⟨m.wrap K H gd lv, c, pos, B⟩ = some (sT', ⟨K a, c, pos', B⟩)) : R n tb p w n₀ ann c B m sT.abs pos a sT'.abs pos' := fun K H gd lv => ⟨n, Nat.le_refl _, segGo_of (h K H gd lv)⟩
theorem R.piece {m : Sem Flow} {q : Pos} (h : R N tb p w n₀ ann c [topFrame q] m s pos .next s' pos') : ∃ n, n ≤ N + 1 ∧ segRun tb p w n₀ ann 1 n s ⟨m.wrap doneF deadEnd id id, c, pos, [topFrame q]⟩ = some (.next, s', c, pos') := by
  obtain ⟨n, l, e⟩ := h doneF deadEnd id id
  exact ⟨n + 1, Nat.succ_le_succ l, seg_go (N := 1) e rfl⟩
end
end HD
namespace HD
open PySem PySem.W
section
variable {α β : Type} {tb : String → Option Builtin} {p : Program} {w : World} {n₀ : Nat} {ann : Option Value} {c : Code} {B : List Frame} {s s1 s' : Shared} {pos pos1 pos' : Pos}
def keysOf : Stmt → List (Option Expr) | .Assign [.Name _ _] (.Dict ks _ _) _ => ks | _ => []
def valsOf : Stmt → List Expr | .Assign [.Name _ _] (.Dict _ vs _) _ => vs | _ => []
def dpOf : Stmt → Pos | .Assign [.Name _ _] (.Dict _ _ dp) _ => dp | _ => default
def pxOf : Stmt → Pos | .Assign [.Name _ px] (.Dict _ _ _) _ => px | _ => default
def spOf : Stmt → Pos | .Assign _ _ sp => sp | _ => default
end
end HD
set_option maxRecDepth 100000
set_option maxHeartbeats 0
set_option Elab.async false
namespace H07
open PySem PySem.W HD
open_shared pre for PySem.Challenge.pw_whens_k07_mays_behind_mays leaving 24
abbrev prog : Program := PySem.Challenge.pw_whens_k07_mays_behind_mays
abbrev q0 : Pos := ⟨0, 0, 0, 0⟩
def st : Stmt := prog.main.body.getD 2 (.Pass q0)
def xC : Expr := .Constant (.str "a") 0 q0
def xO : Expr := .Constant .none 0 q0
def xT (n : Nat) : Expr := .Tuple (List.replicate n xC) 0 q0
def stX : Stmt := .Assign [.Name "POINT_WORDS" ⟨3, 0, 3, 11⟩] (.BoolOp .Or (List.replicate 390 xO ++ [.Dict [some xC] [.Tuple [xT 22, xT 1, xT 1, xT 1, xT 1] 0 q0] q0]) q0) q0
def progX : Program := { prog with main := { prog.main with body := prog.main.body.set 2 stX } }
open_shared prx for H07.progX leaving 0
end H07
set_option maxRecDepth 100000
set_option maxHeartbeats 0
set_option Elab.async false
namespace H07
open PySem PySem.W HD
noncomputable abbrev T0 (w : World) (os : OsState) : SharedT := ⟨pre.tree_6 w.params, 16, {}, ⟨[]⟩, {}, 203, os⟩
abbrev D0 : Obj := { cls := .type "dict", data := .dict #[] }
abbrev tp (vs : List Value) : Obj := { cls := .type "tuple", data := .seq vs.toArray }
noncomputable abbrev T1 (w : World) (os : OsState) : SharedT := ⟨(pre.tree_6 w.params).ins 16 D0, 17, {}, ⟨[]⟩, {}, 203, os⟩
noncomputable def trP (P : Params) : BT := (((((((pre.tree_6 P).ins 16 D0).ins 17 (tp [.str "point" 203, .str "point" 204])).ins 18 (tp [.str "ahead" 205, .str "same" 206, .str "behind" 207])).ins 19 (tp [.str "point" 208, .str "stretch" 209])).ins 20 (tp [.str "ahead" 210, .str "begins" 211, .str "within" 212, .str "ends" 213, .str "behind" 214])).ins 21 (tp [.str "stretch" 215, .str "point" 216])).ins 22 (tp [.str "ahead" 217, .str "ended" 218, .str "holds" 219, .str "begun" 220, .str "behind" 221])
abbrev dO (es : List DictEntry) : Obj := { cls := .type "dict", data := .dict es.toArray es.length }
noncomputable abbrev TD (es : Params → List DictEntry) (w : World) (os : OsState) (k : Nat) : SharedT := ⟨(trP w.params).ins 16 (dO (es w.params)), 23, {}, ⟨[]⟩, {}, k, os⟩
abbrev es0 : Params → List DictEntry := fun _ => []
abbrev dp : Pos := ⟨3, 14, 3, 204⟩
theorem st_is : st = .Assign [.Name "POINT_WORDS" (pxOf st)] (.Dict (keysOf st) (valsOf st) (dpOf st)) (spOf st) := by kernel_rfl
section
variable (w : World) (os : OsState) (p : Program) (b : List Stmt)
abbrev RR {α : Type} (N : Nat) (m : Sem α) (s : SharedT) (pos : Pos) (a : α) (s' : SharedT) (pos' : Pos) : Prop := R N treeTable p w 11 (some (Value.ref 6)) (Code.body b pre.env_1) [topFrame q0] m s.abs pos a s'.abs pos'
theorem pairs_run : RR w p b 34 (evalPairs (pairTrees (keysOf st) (valsOf st) pre.env_1 (dpOf st))) (T1 w os) dp [(.ref 17, .ref 18), (.ref 19, .ref 20), (.ref 21, .ref 22)] (TD es0 w os 222) dp :=
  R.leaf 34 fun K H gd lv => by kernel_rfl
end
abbrev kh (P : Params) (z : Str) : Int := PyData.keyHash P z
def i1 (P : Params) : Int := Builtin.Tuple.tupleHashOf [kh P "point", kh P "point"]
def i2 (P : Params) : Int := Builtin.Tuple.tupleHashOf [kh P "point", kh P "stretch"]
def i3 (P : Params) : Int := Builtin.Tuple.tupleHashOf [kh P "stretch", kh P "point"]
def e1 (P : Params) : DictEntry := ⟨reduceHash (i1 P), .ref 17, .ref 18⟩
def e2 (P : Params) : DictEntry := ⟨reduceHash (i2 P), .ref 19, .ref 20⟩
def e3 (P : Params) : DictEntry := ⟨reduceHash (i3 P), .ref 21, .ref 22⟩
abbrev es1 : Params → List DictEntry := fun P => [e1 P]
abbrev es2 : Params → List DictEntry := fun P => [e1 P, e2 P]
abbrev row : String := "special-get-raises"
section
variable (v : World) (os : OsState) (p : Program) (b : List Stmt)
theorem rule_run (w : World) (t : String) (sT : SharedT) (pos : Pos) : RR w p b 1 (rule t) sT pos () sT pos := R.leaf 1 fun K H gd lv => by
  obtain ⟨T, n, l, g, d, k, o⟩ := sT
  rfl
theorem red_run (w : World) (i : Int) (sT : SharedT) (pos : Pos) : RR w p b 1 (pyHashByItsType.reduced i) sT pos (reduceHash i) sT pos := by
  unfold pyHashByItsType.reduced reduceHash
  by_cases hr : (decide (-(2 : Int) ^ 63 ≤ i) && decide (i < 2 ^ 63)) = true
  · rw [if_pos hr, if_pos hr]
    exact R.mono (by decide) R.pure
  · rw [if_neg hr, if_neg hr]
    exact R.mono (N1 := 1 + 0) (by decide) (R.bind (rule_run p b w _ sT pos) R.pure)
theorem hash1_false : RR (v.withFollow row false) p b 26 (pyHash (.ref 17)) (TD es0 (v.withFollow row false) os 222) dp (reduceHash (i1 (v.withFollow row false).params)) (TD es0 (v.withFollow row false) os 225) dp := by
  unfold pyHash pyHashByItsType
  refine R.mono (N1 := 1 + (1 + (1 + (22 + 1)))) (by decide) (R.bind (R.leaf (sT' := (TD es0 (v.withFollow row false) os 222)) (a := ()) (pos' := dp) 1 fun K H gd lv => by rw [Fast.te10295753902157049106, Fast.te14364793385576792824]; kernel_rfl) ?_)
  refine R.bind (R.leaf (sT' := (TD es0 (v.withFollow row false) os 222)) (a := some (.builtin "tuple.__hash__")) (pos' := dp) 1 fun K H gd lv => by rw [Fast.te10295753902157049106, Fast.te14364793385576792824]; kernel_rfl) ?_
  rw [if_neg (by decide)]
  refine R.bind (R.leaf (sT' := (TD es0 (v.withFollow row false) os 222)) (a := some (.builtin "tuple.__hash__")) (pos' := dp) 1 fun K H gd lv => by rw [Fast.te10295753902157049106, Fast.te14364793385576792824]; kernel_rfl) ?_
  rw [if_neg (by decide)]
  refine R.bind (R.leaf (sT' := (TD es0 (v.withFollow row false) os 225)) (a := some (.int (i1 (v.withFollow row false).params) 224)) (pos' := dp) 22 fun K H gd lv => by rw [Fast.te10295753902157049106, Fast.te14364793385576792824]; kernel_rfl) ?_
  exact red_run p b _ _ _ _
theorem hash1_true : RR (v.withFollow row true) p b 26 (pyHash (.ref 17)) (TD es0 (v.withFollow row true) os 222) dp (reduceHash (i1 (v.withFollow row true).params)) (TD es0 (v.withFollow row true) os 225) dp := by
  unfold pyHash pyHashByItsType
  refine R.mono (N1 := 1 + (1 + (1 + (22 + 1)))) (by decide) (R.bind (R.leaf (sT' := (TD es0 (v.withFollow row true) os 222)) (a := ()) (pos' := dp) 1 fun K H gd lv => by rw [Fast.te10295753902157049106, Fast.te14364793385576792824]; kernel_rfl) ?_)
  refine R.bind (R.leaf (sT' := (TD es0 (v.withFollow row true) os 222)) (a := some (.builtin "tuple.__hash__")) (pos' := dp) 1 fun K H gd lv => by rw [Fast.te10295753902157049106, Fast.te14364793385576792824]; kernel_rfl) ?_
  rw [if_neg (by decide)]
  refine R.bind (R.leaf (sT' := (TD es0 (v.withFollow row true) os 222)) (a := some (.builtin "tuple.__hash__")) (pos' := dp) 1 fun K H gd lv => by rw [Fast.te10295753902157049106, Fast.te14364793385576792824]; kernel_rfl) ?_
  rw [if_neg (by decide)]
  refine R.bind (R.leaf (sT' := (TD es0 (v.withFollow row true) os 225)) (a := some (.int (i1 (v.withFollow row true).params) 224)) (pos' := dp) 22 fun K H gd lv => by rw [Fast.te10295753902157049106, Fast.te14364793385576792824]; kernel_rfl) ?_
  exact red_run p b _ _ _ _
theorem hash2_false : RR (v.withFollow row false) p b 26 (pyHash (.ref 19)) (TD es1 (v.withFollow row false) os 225) dp (reduceHash (i2 (v.withFollow row false).params)) (TD es1 (v.withFollow row false) os 228) dp := by
  unfold pyHash pyHashByItsType
  refine R.mono (N1 := 1 + (1 + (1 + (22 + 1)))) (by decide) (R.bind (R.leaf (sT' := (TD es1 (v.withFollow row false) os 225)) (a := ()) (pos' := dp) 1 fun K H gd lv => by rw [Fast.te10295753902157049106, Fast.te14364793385576792824]; kernel_rfl) ?_)
  refine R.bind (R.leaf (sT' := (TD es1 (v.withFollow row false) os 225)) (a := some (.builtin "tuple.__hash__")) (pos' := dp) 1 fun K H gd lv => by rw [Fast.te10295753902157049106, Fast.te14364793385576792824]; kernel_rfl) ?_
  rw [if_neg (by decide)]
  refine R.bind (R.leaf (sT' := (TD es1 (v.withFollow row false) os 225)) (a := some (.builtin "tuple.__hash__")) (pos' := dp) 1 fun K H gd lv => by rw [Fast.te10295753902157049106, Fast.te14364793385576792824]; kernel_rfl) ?_
  rw [if_neg (by decide)]
  refine R.bind (R.leaf (sT' := (TD es1 (v.withFollow row false) os 228)) (a := some (.int (i2 (v.withFollow row false).params) 227)) (pos' := dp) 22 fun K H gd lv => by rw [Fast.te10295753902157049106, Fast.te14364793385576792824]; kernel_rfl) ?_
  exact red_run p b _ _ _ _
theorem hash2_true : RR (v.withFollow row true) p b 26 (pyHash (.ref 19)) (TD es1 (v.withFollow row true) os 225) dp (reduceHash (i2 (v.withFollow row true).params)) (TD es1 (v.withFollow row true) os 228) dp := by
  unfold pyHash pyHashByItsType
  refine R.mono (N1 := 1 + (1 + (1 + (22 + 1)))) (by decide) (R.bind (R.leaf (sT' := (TD es1 (v.withFollow row true) os 225)) (a := ()) (pos' := dp) 1 fun K H gd lv => by rw [Fast.te10295753902157049106, Fast.te14364793385576792824]; kernel_rfl) ?_)
  refine R.bind (R.leaf (sT' := (TD es1 (v.withFollow row true) os 225)) (a := some (.builtin "tuple.__hash__")) (pos' := dp) 1 fun K H gd lv => by rw [Fast.te10295753902157049106, Fast.te14364793385576792824]; kernel_rfl) ?_
  rw [if_neg (by decide)]
  refine R.bind (R.leaf (sT' := (TD es1 (v.withFollow row true) os 225)) (a := some (.builtin "tuple.__hash__")) (pos' := dp) 1 fun K H gd lv => by rw [Fast.te10295753902157049106, Fast.te14364793385576792824]; kernel_rfl) ?_
  rw [if_neg (by decide)]
  refine R.bind (R.leaf (sT' := (TD es1 (v.withFollow row true) os 228)) (a := some (.int (i2 (v.withFollow row true).params) 227)) (pos' := dp) 22 fun K H gd lv => by rw [Fast.te10295753902157049106, Fast.te14364793385576792824]; kernel_rfl) ?_
  exact red_run p b _ _ _ _
theorem hash3_false : RR (v.withFollow row false) p b 26 (pyHash (.ref 21)) (TD es2 (v.withFollow row false) os 228) dp (reduceHash (i3 (v.withFollow row false).params)) (TD es2 (v.withFollow row false) os 231) dp := by
  unfold pyHash pyHashByItsType
  refine R.mono (N1 := 1 + (1 + (1 + (22 + 1)))) (by decide) (R.bind (R.leaf (sT' := (TD es2 (v.withFollow row false) os 228)) (a := ()) (pos' := dp) 1 fun K H gd lv => by rw [Fast.te10295753902157049106, Fast.te14364793385576792824]; kernel_rfl) ?_)
  refine R.bind (R.leaf (sT' := (TD es2 (v.withFollow row false) os 228)) (a := some (.builtin "tuple.__hash__")) (pos' := dp) 1 fun K H gd lv => by rw [Fast.te10295753902157049106, Fast.te14364793385576792824]; kernel_rfl) ?_
  rw [if_neg (by decide)]
  refine R.bind (R.leaf (sT' := (TD es2 (v.withFollow row false) os 228)) (a := some (.builtin "tuple.__hash__")) (pos' := dp) 1 fun K H gd lv => by rw [Fast.te10295753902157049106, Fast.te14364793385576792824]; kernel_rfl) ?_
  rw [if_neg (by decide)]
  refine R.bind (R.leaf (sT' := (TD es2 (v.withFollow row false) os 231)) (a := some (.int (i3 (v.withFollow row false).params) 230)) (pos' := dp) 22 fun K H gd lv => by rw [Fast.te10295753902157049106, Fast.te14364793385576792824]; kernel_rfl) ?_
  exact red_run p b _ _ _ _
theorem hash3_true : RR (v.withFollow row true) p b 26 (pyHash (.ref 21)) (TD es2 (v.withFollow row true) os 228) dp (reduceHash (i3 (v.withFollow row true).params)) (TD es2 (v.withFollow row true) os 231) dp := by
  unfold pyHash pyHashByItsType
  refine R.mono (N1 := 1 + (1 + (1 + (22 + 1)))) (by decide) (R.bind (R.leaf (sT' := (TD es2 (v.withFollow row true) os 228)) (a := ()) (pos' := dp) 1 fun K H gd lv => by rw [Fast.te10295753902157049106, Fast.te14364793385576792824]; kernel_rfl) ?_)
  refine R.bind (R.leaf (sT' := (TD es2 (v.withFollow row true) os 228)) (a := some (.builtin "tuple.__hash__")) (pos' := dp) 1 fun K H gd lv => by rw [Fast.te10295753902157049106, Fast.te14364793385576792824]; kernel_rfl) ?_
  rw [if_neg (by decide)]
  refine R.bind (R.leaf (sT' := (TD es2 (v.withFollow row true) os 228)) (a := some (.builtin "tuple.__hash__")) (pos' := dp) 1 fun K H gd lv => by rw [Fast.te10295753902157049106, Fast.te14364793385576792824]; kernel_rfl) ?_
  rw [if_neg (by decide)]
  refine R.bind (R.leaf (sT' := (TD es2 (v.withFollow row true) os 231)) (a := some (.int (i3 (v.withFollow row true).params) 230)) (pos' := dp) 22 fun K H gd lv => by rw [Fast.te10295753902157049106, Fast.te14364793385576792824]; kernel_rfl) ?_
  exact red_run p b _ _ _ _
end
section
variable (v : World) (bb : Bool) (os : OsState) (p : Program) (b : List Stmt)
noncomputable abbrev TX (es : List DictEntry) (w : World) (os : OsState) (k : Nat) : SharedT := ⟨(trP w.params).ins 16 (dO es), 23, {}, ⟨[]⟩, {}, k, os⟩
theorem set1 (w : World) (x : Int) : RR w p b 5 (dictSetHashed 16 (.ref 17) x (.ref 18)) (TX [] w os 225) dp () (TX [⟨x, .ref 17, .ref 18⟩] w os 225) dp :=
  R.leaf 5 fun K H gd lv => by rw [Fast.te10295753902157049106, Fast.te14364793385576792824, Fast.te4359058424727691002]; kernel_rfl
theorem places1 (x y : Int) (k v : Value) : placesWithHash (#[⟨x, k, v⟩] : Array DictEntry).size (fun i => (#[⟨x, k, v⟩] : Array DictEntry)[i]?.map (·.hash)) y = if x = y then [0] else [] := by
  by_cases h : x = y <;> simp [placesWithHash, List.range_succ, h]
theorem places2 (x x' y : Int) (k v k' v' : Value) : placesWithHash (#[⟨x, k, v⟩, ⟨x', k', v'⟩] : Array DictEntry).size (fun i => (#[⟨x, k, v⟩, ⟨x', k', v'⟩] : Array DictEntry)[i]?.map (·.hash)) y = (if x = y then [0] else []) ++ (if x' = y then [1] else []) := by
  by_cases h : x = y <;> by_cases h' : x' = y <;> simp [placesWithHash, List.range_succ, h, h']
theorem find2 (x y : Int) : RR (v.withFollow row bb) p b 31 (dictFind 16 (.ref 19) y) (TX [⟨x, .ref 17, .ref 18⟩] (v.withFollow row bb) os 228) dp none (TX [⟨x, .ref 17, .ref 18⟩] (v.withFollow row bb) os 228) dp := by
  unfold dictFind
  refine R.hold (R.bind (N1 := 1) (N2 := 30) (R.leaf (sT' := TX [⟨x, .ref 17, .ref 18⟩] (v.withFollow row bb) os 228) (a := #[⟨x, .ref 17, .ref 18⟩]) (pos' := dp) 1 fun K H gd lv => by rw [Fast.te10295753902157049106, Fast.te14364793385576792824]; kernel_rfl) ?_)
  have e := places1 x y (.ref 17) (.ref 18)
  by_cases h : x = y
  · subst h
    rw [if_pos rfl] at e
    rw [e]
    simp [carriedByValue, -bind_pure_comp, -map_pure]
    refine R.mono (N1 := 6 + (1 + (20 + (1 + (1 + 0))))) (by decide) (R.bind (R.leaf (sT' := TX [⟨x, .ref 17, .ref 18⟩] (v.withFollow row bb) os 228) (a := false) (pos' := dp) 6 fun K H gd lv => by rw [Fast.te10295753902157049106, Fast.te14364793385576792824, Fast.te11445937954039399578]; cases bb <;> kernel_rfl) ?_)
    refine R.bind (R.leaf (sT' := TX [⟨x, .ref 17, .ref 18⟩] (v.withFollow row bb) os 228) (a := 1) (pos' := dp) 1 fun K H gd lv => by rw [Fast.te10295753902157049106, Fast.te14364793385576792824]; kernel_rfl) ?_
    refine R.bind (R.leaf (sT' := TX [⟨x, .ref 17, .ref 18⟩] (v.withFollow row bb) os 228) (a := false) (pos' := dp) 20 fun K H gd lv => by rw [Fast.te10295753902157049106, Fast.te14364793385576792824, Fast.te13926502685295537346]; cases bb <;> kernel_rfl) ?_
    refine R.bind (R.leaf (sT' := TX [⟨x, .ref 17, .ref 18⟩] (v.withFollow row bb) os 228) (a := 1) (pos' := dp) 1 fun K H gd lv => by rw [Fast.te10295753902157049106, Fast.te14364793385576792824]; kernel_rfl) ?_
    simp [-bind_pure_comp, -map_pure]
    exact R.mono (N1 := 1 + 0) (by decide) (R.bind (rule_run p b _ _ _ _) R.pure)
  · rw [if_neg h] at e
    rw [e]
    exact R.mono (by decide) (R.leaf 0 fun K H gd lv => by kernel_rfl)
end
section
variable (v : World) (bb : Bool) (os : OsState) (p : Program) (b : List Stmt) (x x' : Int)
noncomputable abbrev TY (x x' : Int) (w : World) (os : OsState) : SharedT := TX [⟨x, .ref 17, .ref 18⟩, ⟨x', .ref 19, .ref 20⟩] w os 231
theorem ep3 (w : World) : RR w p b 1 (dictEpoch 16 (keyPart (.ref 21))) (TY x x' w os) dp 2 (TY x x' w os) dp := R.leaf 1 fun K H gd lv => by rw [Fast.te10295753902157049106, Fast.te14364793385576792824]; kernel_rfl
theorem eq13 : RR (v.withFollow row bb) p b 16 (eqBool (.ref 17) (.ref 21)) (TY x x' (v.withFollow row bb) os) dp false (TY x x' (v.withFollow row bb) os) dp := R.leaf 16 fun K H gd lv => by rw [Fast.te10295753902157049106, Fast.te14364793385576792824, Fast.te13926502685295537346]; cases bb <;> kernel_rfl
theorem eq23 : RR (v.withFollow row bb) p b 16 (eqBool (.ref 19) (.ref 21)) (TY x x' (v.withFollow row bb) os) dp false (TY x x' (v.withFollow row bb) os) dp := R.leaf 16 fun K H gd lv => by rw [Fast.te10295753902157049106, Fast.te14364793385576792824, Fast.te13926502685295537346]; cases bb <;> kernel_rfl
theorem tl12 : RR (v.withFollow row bb) p b 9 (tableMayTell (.ref 21) [.ref 17, .ref 19]) (TY x x' (v.withFollow row bb) os) dp false (TY x x' (v.withFollow row bb) os) dp := R.leaf 9 fun K H gd lv => by rw [Fast.te10295753902157049106, Fast.te14364793385576792824, Fast.te11445937954039399578]; cases bb <;> kernel_rfl
theorem tl1 : RR (v.withFollow row bb) p b 6 (tableMayTell (.ref 21) [.ref 17]) (TY x x' (v.withFollow row bb) os) dp false (TY x x' (v.withFollow row bb) os) dp := R.leaf 6 fun K H gd lv => by rw [Fast.te10295753902157049106, Fast.te14364793385576792824, Fast.te11445937954039399578]; cases bb <;> kernel_rfl
theorem tl2 : RR (v.withFollow row bb) p b 6 (tableMayTell (.ref 21) [.ref 19]) (TY x x' (v.withFollow row bb) os) dp false (TY x x' (v.withFollow row bb) os) dp := R.leaf 6 fun K H gd lv => by rw [Fast.te10295753902157049106, Fast.te14364793385576792824, Fast.te11445937954039399578]; cases bb <;> kernel_rfl
theorem find3 (y : Int) : RR (v.withFollow row bb) p b 101 (dictFind 16 (.ref 21) y) (TY x x' (v.withFollow row bb) os) dp none (TY x x' (v.withFollow row bb) os) dp := by
  unfold dictFind
  refine R.hold (R.bind (N1 := 1) (N2 := 100) (R.leaf (sT' := TY x x' (v.withFollow row bb) os) (a := #[⟨x, .ref 17, .ref 18⟩, ⟨x', .ref 19, .ref 20⟩]) (pos' := dp) 1 fun K H gd lv => by rw [Fast.te10295753902157049106, Fast.te14364793385576792824]; kernel_rfl) ?_)
  have e := places2 x x' y (.ref 17) (.ref 18) (.ref 19) (.ref 20)
  by_cases h : x = y <;> by_cases h' : x' = y
  · subst h
    rw [if_pos rfl, if_pos h'] at e
    rw [e]
    simp [carriedByValue, -bind_pure_comp, -map_pure, h']
    refine R.mono (N1 := 9 + (1 + (16 + (1 + (1 + (1 + (16 + (1 + (1 + 0))))))))) (by decide) (R.bind (tl12 v bb os p b x x) ?_)
    rw [if_neg (by decide)]
    refine R.bind (ep3 os p b x x _) (R.bind (eq13 v bb os p b x x) (R.bind (ep3 os p b x x _) ?_))
    simp [-bind_pure_comp, -map_pure]
    refine R.mono (N1 := 1 + (1 + (16 + (1 + (1 + 0))))) (by decide) (R.bind (rule_run p b _ _ _ _) ?_)
    refine R.bind (ep3 os p b x x _) (R.bind (eq23 v bb os p b x x) (R.bind (ep3 os p b x x _) ?_))
    simp [-bind_pure_comp, -map_pure]
    exact R.mono (N1 := 1 + 0) (by decide) (R.bind (rule_run p b _ _ _ _) R.pure)
  · subst h
    rw [if_pos rfl, if_neg h'] at e
    rw [e]
    simp [carriedByValue, -bind_pure_comp, -map_pure]
    refine R.mono (N1 := 6 + (1 + (16 + (1 + (1 + 0))))) (by decide) (R.bind (tl1 v bb os p b x x') ?_)
    refine R.bind (ep3 os p b x x' _) (R.bind (eq13 v bb os p b x x') (R.bind (ep3 os p b x x' _) ?_))
    simp [-bind_pure_comp, -map_pure]
    exact R.mono (N1 := 1 + 0) (by decide) (R.bind (rule_run p b _ _ _ _) R.pure)
  · subst h'
    rw [if_neg h, if_pos rfl] at e
    rw [e]
    simp [carriedByValue, -bind_pure_comp, -map_pure]
    refine R.mono (N1 := 6 + (1 + (16 + (1 + (1 + 0))))) (by decide) (R.bind (tl2 v bb os p b x x') ?_)
    refine R.bind (ep3 os p b x x' _) (R.bind (eq23 v bb os p b x x') (R.bind (ep3 os p b x x' _) ?_))
    simp [-bind_pure_comp, -map_pure]
    exact R.mono (N1 := 1 + 0) (by decide) (R.bind (rule_run p b _ _ _ _) R.pure)
  · rw [if_neg h, if_neg h'] at e
    rw [e]
    exact R.mono (by decide) (R.leaf 0 fun K H gd lv => by kernel_rfl)
theorem put2 (y : Int) : RR (v.withFollow row bb) p b 35 (dictSetHashed 16 (.ref 19) y (.ref 20)) (TX [⟨x, .ref 17, .ref 18⟩] (v.withFollow row bb) os 228) dp () (TX [⟨x, .ref 17, .ref 18⟩, ⟨y, .ref 19, .ref 20⟩] (v.withFollow row bb) os 228) dp := by
  unfold dictSetHashed
  refine R.hold (R.bind (N1 := 31) (N2 := 4) (find2 v bb os p b x y) ?_)
  exact R.leaf 4 fun K H gd lv => by rw [Fast.te10295753902157049106, Fast.te14364793385576792824]; kernel_rfl
theorem put3 (y : Int) : RR (v.withFollow row bb) p b 105 (dictSetHashed 16 (.ref 21) y (.ref 22)) (TY x x' (v.withFollow row bb) os) dp () (TX [⟨x, .ref 17, .ref 18⟩, ⟨x', .ref 19, .ref 20⟩, ⟨y, .ref 21, .ref 22⟩] (v.withFollow row bb) os 231) dp := by
  unfold dictSetHashed
  refine R.hold (R.bind (N1 := 101) (N2 := 4) (find3 v bb os p b x x' y) ?_)
  exact R.leaf 4 fun K H gd lv => by rw [Fast.te10295753902157049106, Fast.te14364793385576792824]; kernel_rfl
end
section
variable (v : World) (bb : Bool) (os : OsState) (p : Program) (b : List Stmt)
abbrev p5 : Pos := ⟨2, 0, 2, 5⟩
abbrev sp : Pos := ⟨3, 0, 3, 204⟩
abbrev px : Pos := ⟨3, 0, 3, 11⟩
abbrev dE (P : Params) : List DictEntry := [⟨reduceHash (i1 P), .ref 17, .ref 18⟩, ⟨reduceHash (i2 P), .ref 19, .ref 20⟩, ⟨reduceHash (i3 P), .ref 21, .ref 22⟩]
noncomputable def trQ (P : Params) (es : List DictEntry) : BT := ((trP P).ins 16 (dO es)).set 3 (Obj.putName "POINT_WORDS" (kh P "POINT_WORDS") (.str "POINT_WORDS" 231) (.ref 16))
noncomputable abbrev T6 (es : List DictEntry) (w : World) (os : OsState) : SharedT := ⟨trQ w.params es, 23, {}, ⟨[]⟩, {}, 232, os⟩
theorem st_run (w : World) (sT : SharedT) (q q' : Pos) : RR w p b 1 (standAt q') sT q () sT q' := R.leaf 1 fun K H gd lv => by
  obtain ⟨T, n, l, g, d, k, o⟩ := sT
  rfl
theorem hash1 : RR (v.withFollow row bb) p b 26 (pyHash (.ref 17)) (TX [] (v.withFollow row bb) os 222) dp (reduceHash (i1 (v.withFollow row bb).params)) (TX [] (v.withFollow row bb) os 225) dp := by
  cases bb
  · exact hash1_false v os p b
  · exact hash1_true v os p b
theorem hash2 : RR (v.withFollow row bb) p b 26 (pyHash (.ref 19)) (TX [e1 (v.withFollow row bb).params] (v.withFollow row bb) os 225) dp (reduceHash (i2 (v.withFollow row bb).params)) (TX [e1 (v.withFollow row bb).params] (v.withFollow row bb) os 228) dp := by
  cases bb
  · exact hash2_false v os p b
  · exact hash2_true v os p b
theorem hash3 : RR (v.withFollow row bb) p b 26 (pyHash (.ref 21)) (TX [e1 (v.withFollow row bb).params, e2 (v.withFollow row bb).params] (v.withFollow row bb) os 228) dp (reduceHash (i3 (v.withFollow row bb).params)) (TX [e1 (v.withFollow row bb).params, e2 (v.withFollow row bb).params] (v.withFollow row bb) os 231) dp := by
  cases bb
  · exact hash3_false v os p b
  · exact hash3_true v os p b
theorem bind_run (w : World) (es : List DictEntry) : RR w p b 6 (bindName pre.env_1 "POINT_WORDS" (.ref 16)) (TX es w os 231) px () (T6 es w os) px := R.leaf 6 fun K H gd lv => by rw [Fast.te10295753902157049106, Fast.te14364793385576792824, Fast.te7536695828754713326]; kernel_rfl
theorem alloc_run (w : World) : RR w p b 1 (alloc D0) (T0 w os) dp 16 (T1 w os) dp := R.leaf 1 fun K H gd lv => by kernel_rfl
theorem dp_is : dpOf st = dp := by kernel_rfl
theorem px_is : pxOf st = px := by kernel_rfl
theorem sp_is : spOf st = sp := by kernel_rfl
theorem words_run : RR (v.withFollow row bb) p b 300 (exec st pre.env_1) (T0 (v.withFollow row bb) os) p5 .next (T6 (dE (v.withFollow row bb).params) (v.withFollow row bb) os) px := by
  rw [st_is, exec_Assign_Name (env := pre.env_1) "POINT_WORDS" (pxOf st) (.Dict (keysOf st) (valsOf st) (dpOf st)) (spOf st) (by rfl), sp_is, px_is]
  refine R.mono (N1 := 1 + (292 + (1 + (6 + 0)))) (by decide) (R.bind (st_run p b _ _ _ _) (R.bind (a := .ref 16) (pos1 := dp) ?_ (R.bind (st_run p b _ _ _ _) (R.bind (bind_run os p b _ _) R.pure))))
  rw [arm_eval_Dict, zip_pairTrees (keysOf st) (valsOf st) pre.env_1 (dpOf st) (by kernel_rfl) (by kernel_rfl), dictDisplay_pairs _ (fun h => by have := congrArg List.length h; rw [pairTrees_length _ _ _ _ (by kernel_rfl) (by kernel_rfl)] at this; exact absurd this (by decide)) (by rw [pairTrees_length _ _ _ _ (by kernel_rfl) (by kernel_rfl)]; decide)]
  rw [dp_is]
  refine R.bind (N1 := 1) (N2 := 291) (st_run p b _ _ _ _) (R.bind (N1 := 291) (N2 := 0) (a := 16) (pos1 := dp) ?_ R.pure)
  unfold subDict
  refine R.bind (N1 := 1) (N2 := 290) (alloc_run os p b _) (R.bind (N1 := 290) (N2 := 0) (a := ()) (pos1 := dp) (R.hold ?_) R.pure)
  rw [if_pos (by rw [pairTrees_length _ _ _ _ (by kernel_rfl) (by kernel_rfl)]; decide)]
  have pr := pairs_run (v.withFollow row bb) os p b
  rw [dp_is] at pr
  refine R.bind (N1 := 34) (N2 := 256) pr (R.hold ?_)
  simp only [List.forIn_cons, List.forIn_nil, bind_assoc, pure_bind]
  refine R.mono (N1 := 26 + 5 + (26 + 35 + (26 + 105 + 0))) (by decide) (R.bind (R.hold (R.bind (hash1 v bb os p b) (set1 os p b _ _))) ?_)
  refine R.bind (R.hold (R.bind (hash2 v bb os p b) (put2 v bb os p b _ _))) ?_
  refine R.bind (R.hold (R.bind (hash3 v bb os p b) (put3 v bb os p b _ _ _))) ?_
  exact R.pure
end
end H07
set_option maxRecDepth 100000
set_option maxHeartbeats 0
set_option Elab.async false
namespace H07
open PySem PySem.W HD
noncomputable def ov (es : List DictEntry) (t : BT) : BT := ((((((t.ins 16 (dO es)).ins 17 (tp [.str "point" 203, .str "point" 204])).ins 18 (tp [.str "ahead" 205, .str "same" 206, .str "behind" 207])).ins 19 (tp [.str "point" 208, .str "stretch" 209])).ins 20 (tp [.str "ahead" 210, .str "begins" 211, .str "within" 212, .str "ends" 213, .str "behind" 214])).ins 21 (tp [.str "stretch" 215, .str "point" 216])).ins 22 (tp [.str "ahead" 217, .str "ended" 218, .str "holds" 219, .str "begun" 220, .str "behind" 221])
theorem t6 (P : Params) (es : List DictEntry) : trQ P es = ov es (prx.tree_15 P) := by kernel_rfl
noncomputable abbrev TV (es : List DictEntry) (t : BT) (n k : Nat) (os : OsState) : SharedT := ⟨ov es t, n, {}, ⟨[]⟩, {}, k, os⟩
section
variable (w : World) (p : Program) (b : List Stmt) (os : OsState) (es : List DictEntry)
noncomputable abbrev cB (b : List Stmt) : Code := Code.body b prx.env_1
theorem run2 : segRunT treeTable p w 11 (some (.ref 6)) 1 381 (TV es (prx.tree_15 w.params) 23 232 os) (piecesOf prx.sts_19 prx.env_1 (cB b) ⟨3, 0, 3, 11⟩ [topFrame q0]) = some (.next, TV es (prx.tree_33 w.params) 37 333 os, cB b, ⟨4, 0, 4, 4⟩) := by
  refine byRow2 "special-get-raises" (P := fun w => segRunT treeTable p w 11 (some (.ref 6)) 1 381 (TV es (prx.tree_15 w.params) 23 232 os) (piecesOf prx.sts_19 prx.env_1 (cB b) ⟨3, 0, 3, 11⟩ [topFrame q0]) = some (.next, TV es (prx.tree_33 w.params) 37 333 os, cB b, ⟨4, 0, 4, 4⟩)) (fun w => ?_) (fun w => ?_) w
  · rw [Fast.te10110043849684766642, Fast.te14364793385576792824]; kernel_rfl
  · rw [Fast.te10110043849684766642, Fast.te14364793385576792824]; kernel_rfl
theorem run3 : segRunT treeTable p w 11 (some (.ref 6)) 1 257 (TV es (prx.tree_33 w.params) 37 333 os) (piecesOf prx.sts_37 prx.env_1 (cB b) ⟨4, 0, 4, 4⟩ [topFrame q0]) = some (.next, TV es (prx.tree_84 w.params) 83 399 os, cB b, ⟨40, 0, 44, 91⟩) := by
  refine byRow2 "special-get-raises" (P := fun w => segRunT treeTable p w 11 (some (.ref 6)) 1 257 (TV es (prx.tree_33 w.params) 37 333 os) (piecesOf prx.sts_37 prx.env_1 (cB b) ⟨4, 0, 4, 4⟩ [topFrame q0]) = some (.next, TV es (prx.tree_84 w.params) 83 399 os, cB b, ⟨40, 0, 44, 91⟩)) (fun w => ?_) (fun w => ?_) w
  · rw [Fast.te10110043849684766642, Fast.te14364793385576792824]; kernel_rfl
  · rw [Fast.te10110043849684766642, Fast.te14364793385576792824]; kernel_rfl
theorem run4 : segRunT treeTable p w 11 (some (.ref 6)) 1 392 (TV es (prx.tree_84 w.params) 83 399 os) (piecesOf prx.sts_88 prx.env_1 (cB b) ⟨40, 0, 44, 91⟩ [topFrame q0]) = some (.next, TV es (prx.tree_143 w.params) 137 476 os, cB b, ⟨76, 0, 80, 63⟩) := by
  refine byRow2 "special-get-raises" (P := fun w => segRunT treeTable p w 11 (some (.ref 6)) 1 392 (TV es (prx.tree_84 w.params) 83 399 os) (piecesOf prx.sts_88 prx.env_1 (cB b) ⟨40, 0, 44, 91⟩ [topFrame q0]) = some (.next, TV es (prx.tree_143 w.params) 137 476 os, cB b, ⟨76, 0, 80, 63⟩)) (fun w => ?_) (fun w => ?_) w
  · rw [Fast.te10110043849684766642, Fast.te14364793385576792824]; kernel_rfl
  · rw [Fast.te10110043849684766642, Fast.te14364793385576792824]; kernel_rfl
theorem run5 : segRunT treeTable p w 11 (some (.ref 6)) 1 266 (TV es (prx.tree_143 w.params) 137 476 os) (piecesOf prx.sts_145 prx.env_1 (cB b) ⟨76, 0, 80, 63⟩ [topFrame q0]) = some (.next, TV es (prx.tree_201 w.params) 192 551 os, cB b, ⟨151, 0, 161, 15⟩) := by
  refine byRow2 "special-get-raises" (P := fun w => segRunT treeTable p w 11 (some (.ref 6)) 1 266 (TV es (prx.tree_143 w.params) 137 476 os) (piecesOf prx.sts_145 prx.env_1 (cB b) ⟨76, 0, 80, 63⟩ [topFrame q0]) = some (.next, TV es (prx.tree_201 w.params) 192 551 os, cB b, ⟨151, 0, 161, 15⟩)) (fun w => ?_) (fun w => ?_) w
  · rw [Fast.te10110043849684766642, Fast.te14364793385576792824]; kernel_rfl
  · rw [Fast.te10110043849684766642, Fast.te14364793385576792824]; kernel_rfl
end
noncomputable abbrev bE : List Stmt := behindTheImports prog
theorem body_is : bE = pre.sts_4 ++ (st :: (prx.sts_19 ++ (prx.sts_37 ++ (prx.sts_88 ++ (prx.sts_145 ++ []))))) := by kernel_rfl
theorem env_is : prx.env_1 = pre.env_1 := by kernel_rfl
noncomputable abbrev SB (w : World) (os : OsState) : SharedT := ⟨pre.tree_4 w.params, 15, {}, ⟨[]⟩, {}, 187, os⟩
section
variable (w : World) (os : OsState)
theorem top_pre : topGo treeTable prog w 11 (some (.ref 6)) 12 ⟨boot_heap w.params, ⟨[]⟩, boot_drawn, boot_toks, os⟩ (topStub prog) = some ((SB w os).abs, ⟨denote treeTable (.body bE pre.env_1), .body bE pre.env_1, q0, [topFrame q0]⟩) := by
  rw [Fast.te15667345088766844465, Fast.te11892475500146522536, Fast.te14364793385576792824]; kernel_rfl
theorem top_block : segRun treeTable prog w 11 (some (.ref 6)) 1 1 (SB w os).abs (blockOf bE pre.env_1 (.body bE pre.env_1) q0 [topFrame q0]) = some (.next, (SB w os).abs, .body bE pre.env_1, q0) := by
  kernel_rfl
theorem top_fin (b : List Stmt) (es : List DictEntry) : topRun treeTable prog w 11 (some (.ref 6)) 2 (TV es (prx.tree_201 w.params) 192 551 os).abs ⟨doneF .next, cB b, ⟨151, 0, 161, 15⟩, [topFrame q0]⟩ = some (TV es (prx.tree_201 w.params) 192 551 os).abs := by
  kernel_rfl
theorem top_words {rest : List Stmt} {N : Nat} {r : Shared} (b : List Stmt) (h : topRun treeTable prog w 11 (some (.ref 6)) N (T6 (dE w.params) w os).abs (restOf rest pre.env_1 (.body b pre.env_1) ⟨3, 0, 3, 11⟩ [topFrame q0]) = some r) :
    topRun treeTable prog w 11 (some (.ref 6)) (301 + N) (T0 w os).abs (restOf (st :: rest) pre.env_1 (.body b pre.env_1) ⟨2, 0, 2, 5⟩ [topFrame q0]) = some r := by
  revert h
  refine byRow2 "special-get-raises" (P := fun w => topRun treeTable prog w 11 (some (.ref 6)) N (T6 (dE w.params) w os).abs (restOf rest pre.env_1 (.body b pre.env_1) ⟨3, 0, 3, 11⟩ [topFrame q0]) = some r → topRun treeTable prog w 11 (some (.ref 6)) (301 + N) (T0 w os).abs (restOf (st :: rest) pre.env_1 (.body b pre.env_1) ⟨2, 0, 2, 5⟩ [topFrame q0]) = some r) (fun w h => ?_) (fun w h => ?_) w
  · obtain ⟨n, l, e⟩ := R.piece (words_run w false os prog b)
    have := topRun_mono (301 - n) _ _ _ _ (piece_cons e h)
    rw [show n + N + (301 - n) = 301 + N by omega] at this
    exact this
  · obtain ⟨n, l, e⟩ := R.piece (words_run w true os prog b)
    have := topRun_mono (301 - n) _ _ _ _ (piece_cons e h)
    rw [show n + N + (301 - n) = 301 + N by omega] at this
    exact this
theorem top_rest (b : List Stmt) (es : List DictEntry) : topRun treeTable prog w 11 (some (.ref 6)) (381 + (257 + (392 + (266 + 2)))) (T6 es w os).abs (restOf (prx.sts_19 ++ (prx.sts_37 ++ (prx.sts_88 ++ (prx.sts_145 ++ [])))) pre.env_1 (.body b pre.env_1) ⟨3, 0, 3, 11⟩ [topFrame q0]) = some (TV es (prx.tree_201 w.params) 192 551 os).abs := by
  have e : (T6 es w os) = TV es (prx.tree_15 w.params) 23 232 os := by
    show SharedT.mk (trQ w.params es) _ _ _ _ _ _ = _
    rw [t6]
  rw [e, ← env_is]
  exact piece_app (segRun_of (run2 w prog b os es)) (piece_app (segRun_of (run3 w prog b os es)) (piece_app (segRun_of (run4 w prog b os es)) (piece_app (segRun_of (run5 w prog b os es)) (piece_nil (top_fin w os b es)))))
noncomputable def H1 (P : Params) : Heap := absHeap (ov (dE P) (prx.tree_201 P)) 192 {}
theorem top_run : topRun treeTable prog w 11 (some (.ref 6)) (12 + (1 + (33 + (301 + (381 + (257 + (392 + (266 + 2)))))))) ⟨boot_heap w.params, ⟨[]⟩, boot_drawn, boot_toks, os⟩ (topStub prog) = some ⟨H1 w.params, ⟨[]⟩, {}, 551, os⟩ := by
  refine go_top (top_pre w os) (piece_block (top_block w os) ?_)
  rw [body_is]
  exact pre.chain prog _ w os _ _ _ (top_words w os _ (top_rest w os _ _))
end
def qv : Program := view prog [1, 2, 3, 4, 5, 6, 8, 9, 10, 11, 12, 13, 14, 16, 17, 18, 19, 20, 21, 22, 23, 24, 25]
def lo : List Str := [Str.ofString "POINT_WORDS", Str.ofString "WAYS", Str.ofString "END_COUNTS"]
abbrev lw : OpenLaw := PySem.Challenge.rw_whens_k07_mays_behind_mays
abbrev XT : Shared → Bool := fun s => xlAt qv [] s && recOk (RowW.records lw.row.toRowW) s
theorem left_open (N : Nat) (h : Nat.ble 600 N = true) : ∀ w : World, (fencedOpening treeTable prog w N).map (fun s => (s.heap, s.gens, s.drawn, s.toks)) = some (boot_heap w.params, ⟨[]⟩, boot_drawn, boot_toks) := boot_open (by kernel_rfl) h (fun _ => rfl)
theorem left_size (w : World) : ((boot_heap w.params).isNs mainGlobals && (⟨[]⟩ : Array GenState).size == 0, (boot_heap w.params).objs.size, (boot_heap w.params).nsMap mainGlobals "__annotations__") = (true, 11, some (.ref 6)) := by kernel_rfl
theorem look1 (w : World) (os : OsState) : (staticsOk (importedModules prog.main.body) (boot_heap w.params) (H1 w.params) && namesBound prog (H1 w.params) && gensDone ⟨H1 w.params, ⟨[]⟩, {}, 551, os⟩ && laidKept (boot_heap w.params) (H1 w.params)) = true := by kernel_rfl
theorem look2 (w : World) (os : OsState) : openSeen qv lo (importedModules prog.main.body) XT true ⟨H1 w.params, ⟨[]⟩, {}, 551, os⟩ = openGood qv lo := by
  rw [Fast.te4187177175401517315]; kernel_rfl
theorem left (H : Hook) (hH : ∀ (w : World) (os : OsState), H.obs ⟨H1 w.params, ⟨[]⟩, {}, 551, os⟩ = H.val w) : LeftO prog qv lo XT H.obs H.val 3942 :=
  LeftO.of_pieces (H₀ := boot_heap) (H₁ := H1) (gs₀ := ⟨[]⟩) (gs₁ := ⟨[]⟩) (d₀ := boot_drawn) (d₁ := {}) (k₀ := boot_toks) (k₁ := 551) (m₀ := 11) (ann := some (.ref 6)) (M := 1645) (left_open 3942 (by decide)) left_size top_run (by decide) fun w => funext fun os => by rw [look1 w os, look2 w os, hH w os]
theorem head {H : Hook} {d : DefRec} {kwd : List (Str × Expr)} (hH : ∀ (w : World) (os : OsState), H.obs ⟨H1 w.params, ⟨[]⟩, {}, 551, os⟩ = H.val w) (k1 : lw.row.wellSaid = true) (hdef : defOf qv lw.row.name = some (d, kwd)) (hp : lw.row.prog.theDef lw.row.name = some (d.params, d.body, d.scope)) (hk : kwWritten? d.params.kwonlyargs d.params.kw_defaults = some kwd)
    (hw : lw.row.toRowW.promised) (call : WalkO qv lo (XL qv []) H.says lw.row.toRowW d kwd fun f vs => PySem.call f vs) : lw.row.Holds :=
  holds_open (q := qv) (loose := lo) (Xt := XT) (XP := XL qv []) (Yf := H.obs) (Ya := H.val) (YP := H.says) (N := 3942) (left H hH) (Hook.of H) (Hook.keeps H) (fun s e => xl_of s (Bool.and_eq_true_iff.mp e).1) XL.keeps hdef hp hk (fun s e => recFacts_of (Bool.and_eq_true_iff.mp e).2) (by rfl) k1 (by decide +kernel) ⟨rfl, rfl, rfl, rfl, rfl, by decide +kernel⟩ hw call
end H07
namespace K07
open PySem PySem.Spec PyProof.Rows L2 DL
theorem us_n {P : List Value → Prop} (h : P []) : ∀ us : List Value, us.length = 0 → P us
  | [], _ => h
  | _ :: _, e => nomatch e
theorem us_c {P : List Value → Prop} {n : Nat} (h : ∀ a us, us.length = n → P (a :: us)) : ∀ us : List Value, us.length = n + 1 → P us
  | [], e => nomatch e
  | a :: us, e => h a us (Nat.succ.inj e)
theorem us_1 {fd : FuncData} {ps : List Str} (h : ∀ a0, bindArgs fd { pos := [a0] } = pure (ps.zip [a0])) (us : List Value) (hl : us.length = 1) : bindArgs fd { pos := us } = pure (ps.zip us) :=
  (us_c (P := fun us => bindArgs fd { pos := us } = pure (ps.zip (us))) (fun a0 => us_n (P := fun us => bindArgs fd { pos := a0 :: us } = pure (ps.zip (a0 :: us))) (h a0))) us hl
theorem us_2 {fd : FuncData} {ps : List Str} (h : ∀ a0 a1, bindArgs fd { pos := [a0, a1] } = pure (ps.zip [a0, a1])) (us : List Value) (hl : us.length = 2) : bindArgs fd { pos := us } = pure (ps.zip us) :=
  (us_c (P := fun us => bindArgs fd { pos := us } = pure (ps.zip (us))) (fun a0 => us_c (P := fun us => bindArgs fd { pos := a0 :: us } = pure (ps.zip (a0 :: us))) (fun a1 => us_n (P := fun us => bindArgs fd { pos := a0 :: a1 :: us } = pure (ps.zip (a0 :: a1 :: us))) (h a0 a1)))) us hl
theorem us_3 {fd : FuncData} {ps : List Str} (h : ∀ a0 a1 a2, bindArgs fd { pos := [a0, a1, a2] } = pure (ps.zip [a0, a1, a2])) (us : List Value) (hl : us.length = 3) : bindArgs fd { pos := us } = pure (ps.zip us) :=
  (us_c (P := fun us => bindArgs fd { pos := us } = pure (ps.zip (us))) (fun a0 => us_c (P := fun us => bindArgs fd { pos := a0 :: us } = pure (ps.zip (a0 :: us))) (fun a1 => us_c (P := fun us => bindArgs fd { pos := a0 :: a1 :: us } = pure (ps.zip (a0 :: a1 :: us))) (fun a2 => us_n (P := fun us => bindArgs fd { pos := a0 :: a1 :: a2 :: us } = pure (ps.zip (a0 :: a1 :: a2 :: us))) (h a0 a1 a2))))) us hl
theorem us_4 {fd : FuncData} {ps : List Str} (h : ∀ a0 a1 a2 a3, bindArgs fd { pos := [a0, a1, a2, a3] } = pure (ps.zip [a0, a1, a2, a3])) (us : List Value) (hl : us.length = 4) : bindArgs fd { pos := us } = pure (ps.zip us) :=
  (us_c (P := fun us => bindArgs fd { pos := us } = pure (ps.zip (us))) (fun a0 => us_c (P := fun us => bindArgs fd { pos := a0 :: us } = pure (ps.zip (a0 :: us))) (fun a1 => us_c (P := fun us => bindArgs fd { pos := a0 :: a1 :: us } = pure (ps.zip (a0 :: a1 :: us))) (fun a2 => us_c (P := fun us => bindArgs fd { pos := a0 :: a1 :: a2 :: us } = pure (ps.zip (a0 :: a1 :: a2 :: us))) (fun a3 => us_n (P := fun us => bindArgs fd { pos := a0 :: a1 :: a2 :: a3 :: us } = pure (ps.zip (a0 :: a1 :: a2 :: a3 :: us))) (h a0 a1 a2 a3)))))) us hl
theorem all_mk {l : PySem.W.OpenLaw} {w : World} {K : PySem.W.Frag} {h : Heap} {mg : Str → Option Value} {fa : Addr} (X : K.In h) (G : h.Ns mainGlobals mg) (hfa : mg "law" = some (.ref fa))
    {C_Behinds : Addr} (g_Behinds : PySem.W.nsIn K mainGlobals "Behinds" = some (some (.ref C_Behinds))) (pg_Behinds : PySem.W.plainGet K C_Behinds Str.empty = true) (hd_Behinds : PySem.W.hasDictIn K C_Behinds = true) (po_Behinds : PySem.W.plainOver K C_Behinds = true) (sa_Behinds : PySem.W.findIn K (.ref C_Behinds) "__setattr__" = some (some (.builtin "object.__setattr__")))
    (mk_Behinds : PySem.W.makesIn K C_Behinds = true) (kc_Behinds : PySem.W.keepIn K (.ref C_Behinds) = true)
    (n_Behinds_by_words : PySem.W.findIn K (.ref C_Behinds) "by_words" = some none)
    (n_Behinds_by_mays : PySem.W.findIn K (.ref C_Behinds) "by_mays" = some none)
    {f_words_of : Addr} {od_0 an_0 : Option Addr} {sl_0 : Array (Option Value)} {oc_0 kV_0 dc_0 pm_0 cd_0 ct_0 : Value} (a0 : PySem.W.nsIn K mainGlobals "words_of" = some (some (.ref f_words_of))) (l0 : K.lookup f_words_of = some ⟨oc_0, od_0, .func (PySem.W.fnOf "words_of" "words_of" (defArgs s_words_of) (defBody s_words_of) (defScope s_words_of) .none kV_0 dc_0 pm_0 an_0 cd_0 ct_0), sl_0⟩) (c0 : PySem.W.codeIn K cd_0 "words_of" = true) (k0 : PySem.W.keepIn K (.ref f_words_of) = true)
    {f_ways_by : Addr} {od_1 an_1 : Option Addr} {sl_1 : Array (Option Value)} {oc_1 kV_1 dc_1 pm_1 cd_1 ct_1 : Value} (a1 : PySem.W.nsIn K mainGlobals "ways_by" = some (some (.ref f_ways_by))) (l1 : K.lookup f_ways_by = some ⟨oc_1, od_1, .func (PySem.W.fnOf "ways_by" "ways_by" (defArgs s_ways_by) (defBody s_ways_by) (defScope s_ways_by) .none kV_1 dc_1 pm_1 an_1 cd_1 ct_1), sl_1⟩) (c1 : PySem.W.codeIn K cd_1 "ways_by" = true) (k1 : PySem.W.keepIn K (.ref f_ways_by) = true)
    {f_forced_way : Addr} {od_2 an_2 : Option Addr} {sl_2 : Array (Option Value)} {oc_2 kV_2 dc_2 pm_2 cd_2 ct_2 : Value} (a2 : PySem.W.nsIn K mainGlobals "forced_way" = some (some (.ref f_forced_way))) (l2 : K.lookup f_forced_way = some ⟨oc_2, od_2, .func (PySem.W.fnOf "forced_way" "forced_way" (defArgs s_forced_way) (defBody s_forced_way) (defScope s_forced_way) .none kV_2 dc_2 pm_2 an_2 cd_2 ct_2), sl_2⟩) (c2 : PySem.W.codeIn K cd_2 "forced_way" = true) (k2 : PySem.W.keepIn K (.ref f_forced_way) = true)
    {f_forced_by : Addr} {od_3 an_3 : Option Addr} {sl_3 : Array (Option Value)} {oc_3 kV_3 dc_3 pm_3 cd_3 ct_3 : Value} (a3 : PySem.W.nsIn K mainGlobals "forced_by" = some (some (.ref f_forced_by))) (l3 : K.lookup f_forced_by = some ⟨oc_3, od_3, .func (PySem.W.fnOf "forced_by" "forced_by" (defArgs s_forced_by) (defBody s_forced_by) (defScope s_forced_by) .none kV_3 dc_3 pm_3 an_3 cd_3 ct_3), sl_3⟩) (c3 : PySem.W.codeIn K cd_3 "forced_by" = true) (k3 : PySem.W.keepIn K (.ref f_forced_by) = true)
    {f_forced_ways : Addr} {od_4 an_4 : Option Addr} {sl_4 : Array (Option Value)} {oc_4 kV_4 dc_4 pm_4 cd_4 ct_4 : Value} (a4 : PySem.W.nsIn K mainGlobals "forced_ways" = some (some (.ref f_forced_ways))) (l4 : K.lookup f_forced_ways = some ⟨oc_4, od_4, .func (PySem.W.fnOf "forced_ways" "forced_ways" (defArgs s_forced_ways) (defBody s_forced_ways) (defScope s_forced_ways) .none kV_4 dc_4 pm_4 an_4 cd_4 ct_4), sl_4⟩) (c4 : PySem.W.codeIn K cd_4 "forced_ways" = true) (k4 : PySem.W.keepIn K (.ref f_forced_ways) = true)
    {f_go_with : Addr} {od_5 an_5 : Option Addr} {sl_5 : Array (Option Value)} {oc_5 kV_5 dc_5 pm_5 cd_5 ct_5 : Value} (a5 : PySem.W.nsIn K mainGlobals "go_with" = some (some (.ref f_go_with))) (l5 : K.lookup f_go_with = some ⟨oc_5, od_5, .func (PySem.W.fnOf "go_with" "go_with" (defArgs s_go_with) (defBody s_go_with) (defScope s_go_with) .none kV_5 dc_5 pm_5 an_5 cd_5 ct_5), sl_5⟩) (c5 : PySem.W.codeIn K cd_5 "go_with" = true) (k5 : PySem.W.keepIn K (.ref f_go_with) = true)
    {f_behind_words : Addr} {od_6 an_6 : Option Addr} {sl_6 : Array (Option Value)} {oc_6 kV_6 dc_6 pm_6 cd_6 ct_6 : Value} (a6 : PySem.W.nsIn K mainGlobals "behind_words" = some (some (.ref f_behind_words))) (l6 : K.lookup f_behind_words = some ⟨oc_6, od_6, .func (PySem.W.fnOf "behind_words" "behind_words" (defArgs s_behind_words) (defBody s_behind_words) (defScope s_behind_words) .none kV_6 dc_6 pm_6 an_6 cd_6 ct_6), sl_6⟩) (c6 : PySem.W.codeIn K cd_6 "behind_words" = true) (k6 : PySem.W.keepIn K (.ref f_behind_words) = true)
    {f_Behinds___init__ : Addr} {od_7 an_7 : Option Addr} {sl_7 : Array (Option Value)} {oc_7 kV_7 dc_7 pm_7 cd_7 ct_7 : Value} (a7 : PySem.W.findIn K (.ref C_Behinds) "__init__" = some (some (.ref f_Behinds___init__))) (l7 : K.lookup f_Behinds___init__ = some ⟨oc_7, od_7, .func (PySem.W.fnOf "__init__" "Behinds.__init__" (defArgs s_Behinds___init__) (defBody s_Behinds___init__) (defScope s_Behinds___init__) .none kV_7 dc_7 pm_7 an_7 cd_7 ct_7), sl_7⟩) (c7 : PySem.W.codeIn K cd_7 "Behinds.__init__" = true) (k7 : PySem.W.keepIn K (.ref f_Behinds___init__) = true)
    (i7 : PySem.W.isFn K (.ref f_Behinds___init__) = true)
    {f_Behinds_words : Addr} {od_8 an_8 : Option Addr} {sl_8 : Array (Option Value)} {oc_8 kV_8 dc_8 pm_8 cd_8 ct_8 : Value} (a8 : PySem.W.findIn K (.ref C_Behinds) "words" = some (some (.ref f_Behinds_words))) (l8 : K.lookup f_Behinds_words = some ⟨oc_8, od_8, .func (PySem.W.fnOf "words" "Behinds.words" (defArgs s_Behinds_words) (defBody s_Behinds_words) (defScope s_Behinds_words) .none kV_8 dc_8 pm_8 an_8 cd_8 ct_8), sl_8⟩) (c8 : PySem.W.codeIn K cd_8 "Behinds.words" = true) (k8 : PySem.W.keepIn K (.ref f_Behinds_words) = true)
    (i8 : PySem.W.isFn K (.ref f_Behinds_words) = true)
    {f_Behinds_gathered : Addr} {od_9 an_9 : Option Addr} {sl_9 : Array (Option Value)} {oc_9 kV_9 dc_9 pm_9 cd_9 ct_9 : Value} (a9 : PySem.W.findIn K (.ref C_Behinds) "gathered" = some (some (.ref f_Behinds_gathered))) (l9 : K.lookup f_Behinds_gathered = some ⟨oc_9, od_9, .func (PySem.W.fnOf "gathered" "Behinds.gathered" (defArgs s_Behinds_gathered) (defBody s_Behinds_gathered) (defScope s_Behinds_gathered) .none kV_9 dc_9 pm_9 an_9 cd_9 ct_9), sl_9⟩) (c9 : PySem.W.codeIn K cd_9 "Behinds.gathered" = true) (k9 : PySem.W.keepIn K (.ref f_Behinds_gathered) = true)
    (i9 : PySem.W.isFn K (.ref f_Behinds_gathered) = true)
    {f_behind_mays : Addr} {od_10 an_10 : Option Addr} {sl_10 : Array (Option Value)} {oc_10 kV_10 dc_10 pm_10 cd_10 ct_10 : Value} (a10 : PySem.W.nsIn K mainGlobals "behind_mays" = some (some (.ref f_behind_mays))) (l10 : K.lookup f_behind_mays = some ⟨oc_10, od_10, .func (PySem.W.fnOf "behind_mays" "behind_mays" (defArgs s_behind_mays) (defBody s_behind_mays) (defScope s_behind_mays) .none kV_10 dc_10 pm_10 an_10 cd_10 ct_10), sl_10⟩) (c10 : PySem.W.codeIn K cd_10 "behind_mays" = true) (k10 : PySem.W.keepIn K (.ref f_behind_mays) = true)
    {f__law_feed : Addr} {od_11 an_11 : Option Addr} {sl_11 : Array (Option Value)} {oc_11 kV_11 dc_11 pm_11 cd_11 ct_11 : Value} (a11 : PySem.W.nsIn K mainGlobals "_law_feed" = some (some (.ref f__law_feed))) (l11 : K.lookup f__law_feed = some ⟨oc_11, od_11, .func (PySem.W.fnOf "_law_feed" "_law_feed" (defArgs s__law_feed) (defBody s__law_feed) (defScope s__law_feed) .none kV_11 dc_11 pm_11 an_11 cd_11 ct_11), sl_11⟩) (c11 : PySem.W.codeIn K cd_11 "_law_feed" = true) (k11 : PySem.W.keepIn K (.ref f__law_feed) = true)
    {f__law_draw : Addr} {od_12 an_12 : Option Addr} {sl_12 : Array (Option Value)} {oc_12 kV_12 dc_12 pm_12 cd_12 ct_12 : Value} (a12 : PySem.W.nsIn K mainGlobals "_law_draw" = some (some (.ref f__law_draw))) (l12 : K.lookup f__law_draw = some ⟨oc_12, od_12, .func (PySem.W.fnOf "_law_draw" "_law_draw" (defArgs s__law_draw) (defBody s__law_draw) (defScope s__law_draw) .none kV_12 dc_12 pm_12 an_12 cd_12 ct_12), sl_12⟩) (c12 : PySem.W.codeIn K cd_12 "_law_draw" = true) (k12 : PySem.W.keepIn K (.ref f__law_draw) = true)
    {f__law_stand : Addr} {od_13 an_13 : Option Addr} {sl_13 : Array (Option Value)} {oc_13 kV_13 dc_13 pm_13 cd_13 ct_13 : Value} (a13 : PySem.W.nsIn K mainGlobals "_law_stand" = some (some (.ref f__law_stand))) (l13 : K.lookup f__law_stand = some ⟨oc_13, od_13, .func (PySem.W.fnOf "_law_stand" "_law_stand" (defArgs s__law_stand) (defBody s__law_stand) (defScope s__law_stand) .none kV_13 dc_13 pm_13 an_13 cd_13 ct_13), sl_13⟩) (c13 : PySem.W.codeIn K cd_13 "_law_stand" = true) (k13 : PySem.W.keepIn K (.ref f__law_stand) = true)
    {f__law_word : Addr} {od_14 an_14 : Option Addr} {sl_14 : Array (Option Value)} {oc_14 kV_14 dc_14 pm_14 cd_14 ct_14 : Value} (a14 : PySem.W.nsIn K mainGlobals "_law_word" = some (some (.ref f__law_word))) (l14 : K.lookup f__law_word = some ⟨oc_14, od_14, .func (PySem.W.fnOf "_law_word" "_law_word" (defArgs s__law_word) (defBody s__law_word) (defScope s__law_word) .none kV_14 dc_14 pm_14 an_14 cd_14 ct_14), sl_14⟩) (c14 : PySem.W.codeIn K cd_14 "_law_word" = true) (k14 : PySem.W.keepIn K (.ref f__law_word) = true)
    {f__law_words : Addr} {od_15 an_15 : Option Addr} {sl_15 : Array (Option Value)} {oc_15 kV_15 dc_15 pm_15 cd_15 ct_15 : Value} (a15 : PySem.W.nsIn K mainGlobals "_law_words" = some (some (.ref f__law_words))) (l15 : K.lookup f__law_words = some ⟨oc_15, od_15, .func (PySem.W.fnOf "_law_words" "_law_words" (defArgs s__law_words) (defBody s__law_words) (defScope s__law_words) .none kV_15 dc_15 pm_15 an_15 cd_15 ct_15), sl_15⟩) (c15 : PySem.W.codeIn K cd_15 "_law_words" = true) (k15 : PySem.W.keepIn K (.ref f__law_words) = true)
    {f__law_kinds : Addr} {od_16 an_16 : Option Addr} {sl_16 : Array (Option Value)} {oc_16 kV_16 dc_16 pm_16 cd_16 ct_16 : Value} (a16 : PySem.W.nsIn K mainGlobals "_law_kinds" = some (some (.ref f__law_kinds))) (l16 : K.lookup f__law_kinds = some ⟨oc_16, od_16, .func (PySem.W.fnOf "_law_kinds" "_law_kinds" (defArgs s__law_kinds) (defBody s__law_kinds) (defScope s__law_kinds) .none kV_16 dc_16 pm_16 an_16 cd_16 ct_16), sl_16⟩) (c16 : PySem.W.codeIn K cd_16 "_law_kinds" = true) (k16 : PySem.W.keepIn K (.ref f__law_kinds) = true)
    {f__law_may : Addr} {od_17 an_17 : Option Addr} {sl_17 : Array (Option Value)} {oc_17 kV_17 dc_17 pm_17 cd_17 ct_17 : Value} (a17 : PySem.W.nsIn K mainGlobals "_law_may" = some (some (.ref f__law_may))) (l17 : K.lookup f__law_may = some ⟨oc_17, od_17, .func (PySem.W.fnOf "_law_may" "_law_may" (defArgs s__law_may) (defBody s__law_may) (defScope s__law_may) .none kV_17 dc_17 pm_17 an_17 cd_17 ct_17), sl_17⟩) (c17 : PySem.W.codeIn K cd_17 "_law_may" = true) (k17 : PySem.W.keepIn K (.ref f__law_may) = true)
    {f__law_grid : Addr} {od_18 an_18 : Option Addr} {sl_18 : Array (Option Value)} {oc_18 kV_18 dc_18 pm_18 cd_18 ct_18 : Value} (a18 : PySem.W.nsIn K mainGlobals "_law_grid" = some (some (.ref f__law_grid))) (l18 : K.lookup f__law_grid = some ⟨oc_18, od_18, .func (PySem.W.fnOf "_law_grid" "_law_grid" (defArgs s__law_grid) (defBody s__law_grid) (defScope s__law_grid) .none kV_18 dc_18 pm_18 an_18 cd_18 ct_18), sl_18⟩) (c18 : PySem.W.codeIn K cd_18 "_law_grid" = true) (k18 : PySem.W.keepIn K (.ref f__law_grid) = true)
    {f__law_reached : Addr} {od_19 an_19 : Option Addr} {sl_19 : Array (Option Value)} {oc_19 kV_19 dc_19 pm_19 cd_19 ct_19 : Value} (a19 : PySem.W.nsIn K mainGlobals "_law_reached" = some (some (.ref f__law_reached))) (l19 : K.lookup f__law_reached = some ⟨oc_19, od_19, .func (PySem.W.fnOf "_law_reached" "_law_reached" (defArgs s__law_reached) (defBody s__law_reached) (defScope s__law_reached) .none kV_19 dc_19 pm_19 an_19 cd_19 ct_19), sl_19⟩) (c19 : PySem.W.codeIn K cd_19 "_law_reached" = true) (k19 : PySem.W.keepIn K (.ref f__law_reached) = true)
    {f_law : Addr} {od_20 an_20 : Option Addr} {sl_20 : Array (Option Value)} {oc_20 kV_20 dc_20 pm_20 cd_20 ct_20 : Value} (a20 : PySem.W.nsIn K mainGlobals "law" = some (some (.ref f_law))) (l20 : K.lookup f_law = some ⟨oc_20, od_20, .func (PySem.W.fnOf "law" "law" (defArgs s_law) (defBody s_law) (defScope s_law) .none kV_20 dc_20 pm_20 an_20 cd_20 ct_20), sl_20⟩) (c20 : PySem.W.codeIn K cd_20 "law" = true) (k20 : PySem.W.keepIn K (.ref f_law) = true)
    {c_WAYS r_WAYS_0 r_WAYS_1 r_WAYS_2 r_WAYS_3 r_WAYS_4 r_WAYS_5 r_WAYS_6 r_WAYS_7 r_WAYS_8 r_WAYS_9 r_WAYS_10 r_WAYS_11 r_WAYS_12 : Addr} {n_WAYS : Nat} {t_WAYS_0 u_WAYS_0_0 u_WAYS_0_1 u_WAYS_0_2 u_WAYS_0_3 t_WAYS_1 u_WAYS_1_0 u_WAYS_1_1 u_WAYS_1_2 u_WAYS_1_3 t_WAYS_2 u_WAYS_2_0 u_WAYS_2_1 u_WAYS_2_2 u_WAYS_2_3 t_WAYS_3 u_WAYS_3_0 u_WAYS_3_1 u_WAYS_3_2 u_WAYS_3_3 t_WAYS_4 u_WAYS_4_0 u_WAYS_4_1 u_WAYS_4_2 u_WAYS_4_3 t_WAYS_5 u_WAYS_5_0 u_WAYS_5_1 u_WAYS_5_2 u_WAYS_5_3 t_WAYS_6 u_WAYS_6_0 u_WAYS_6_1 u_WAYS_6_2 u_WAYS_6_3 t_WAYS_7 u_WAYS_7_0 u_WAYS_7_1 u_WAYS_7_2 u_WAYS_7_3 t_WAYS_8 u_WAYS_8_0 u_WAYS_8_1 u_WAYS_8_2 u_WAYS_8_3 t_WAYS_9 u_WAYS_9_0 u_WAYS_9_1 u_WAYS_9_2 u_WAYS_9_3 t_WAYS_10 u_WAYS_10_0 u_WAYS_10_1 u_WAYS_10_2 u_WAYS_10_3 t_WAYS_11 u_WAYS_11_0 u_WAYS_11_1 u_WAYS_11_2 u_WAYS_11_3 t_WAYS_12 u_WAYS_12_0 u_WAYS_12_1 u_WAYS_12_2 u_WAYS_12_3 : Tok} (a_WAYS : PySem.W.nsIn K mainGlobals "WAYS" = some (some (.ref c_WAYS))) (l_WAYS : K.lookup c_WAYS = some ⟨.type "dict", none, .dict #[⟨PyData.keyHash w.params "ahead", .str "ahead" t_WAYS_0, .ref r_WAYS_0⟩, ⟨PyData.keyHash w.params "meets", .str "meets" t_WAYS_1, .ref r_WAYS_1⟩, ⟨PyData.keyHash w.params "overlaps", .str "overlaps" t_WAYS_2, .ref r_WAYS_2⟩, ⟨PyData.keyHash w.params "begins", .str "begins" t_WAYS_3, .ref r_WAYS_3⟩, ⟨PyData.keyHash w.params "within", .str "within" t_WAYS_4, .ref r_WAYS_4⟩, ⟨PyData.keyHash w.params "ends", .str "ends" t_WAYS_5, .ref r_WAYS_5⟩, ⟨PyData.keyHash w.params "same", .str "same" t_WAYS_6, .ref r_WAYS_6⟩, ⟨PyData.keyHash w.params "ended", .str "ended" t_WAYS_7, .ref r_WAYS_7⟩, ⟨PyData.keyHash w.params "holds", .str "holds" t_WAYS_8, .ref r_WAYS_8⟩, ⟨PyData.keyHash w.params "begun", .str "begun" t_WAYS_9, .ref r_WAYS_9⟩, ⟨PyData.keyHash w.params "lapped", .str "lapped" t_WAYS_10, .ref r_WAYS_10⟩, ⟨PyData.keyHash w.params "met", .str "met" t_WAYS_11, .ref r_WAYS_11⟩, ⟨PyData.keyHash w.params "behind", .str "behind" t_WAYS_12, .ref r_WAYS_12⟩] n_WAYS, #[]⟩) {n_WAYS_0 : Nat} {sl_WAYS_0 : Array (Option Value)} (l_WAYS_0 : K.lookup r_WAYS_0 = some ⟨.type "tuple", none, .seq #[.int (-1) u_WAYS_0_0, .int (-1) u_WAYS_0_1, .int (-1) u_WAYS_0_2, .int (-1) u_WAYS_0_3] n_WAYS_0, sl_WAYS_0⟩) {n_WAYS_1 : Nat} {sl_WAYS_1 : Array (Option Value)} (l_WAYS_1 : K.lookup r_WAYS_1 = some ⟨.type "tuple", none, .seq #[.int (-1) u_WAYS_1_0, .int (-1) u_WAYS_1_1, .int (0) u_WAYS_1_2, .int (-1) u_WAYS_1_3] n_WAYS_1, sl_WAYS_1⟩) {n_WAYS_2 : Nat} {sl_WAYS_2 : Array (Option Value)} (l_WAYS_2 : K.lookup r_WAYS_2 = some ⟨.type "tuple", none, .seq #[.int (-1) u_WAYS_2_0, .int (-1) u_WAYS_2_1, .int (1) u_WAYS_2_2, .int (-1) u_WAYS_2_3] n_WAYS_2, sl_WAYS_2⟩) {n_WAYS_3 : Nat} {sl_WAYS_3 : Array (Option Value)} (l_WAYS_3 : K.lookup r_WAYS_3 = some ⟨.type "tuple", none, .seq #[.int (0) u_WAYS_3_0, .int (-1) u_WAYS_3_1, .int (1) u_WAYS_3_2, .int (-1) u_WAYS_3_3] n_WAYS_3, sl_WAYS_3⟩) {n_WAYS_4 : Nat} {sl_WAYS_4 : Array (Option Value)} (l_WAYS_4 : K.lookup r_WAYS_4 = some ⟨.type "tuple", none, .seq #[.int (1) u_WAYS_4_0, .int (-1) u_WAYS_4_1, .int (1) u_WAYS_4_2, .int (-1) u_WAYS_4_3] n_WAYS_4, sl_WAYS_4⟩) {n_WAYS_5 : Nat} {sl_WAYS_5 : Array (Option Value)} (l_WAYS_5 : K.lookup r_WAYS_5 = some ⟨.type "tuple", none, .seq #[.int (1) u_WAYS_5_0, .int (-1) u_WAYS_5_1, .int (1) u_WAYS_5_2, .int (0) u_WAYS_5_3] n_WAYS_5, sl_WAYS_5⟩) {n_WAYS_6 : Nat} {sl_WAYS_6 : Array (Option Value)} (l_WAYS_6 : K.lookup r_WAYS_6 = some ⟨.type "tuple", none, .seq #[.int (0) u_WAYS_6_0, .int (-1) u_WAYS_6_1, .int (1) u_WAYS_6_2, .int (0) u_WAYS_6_3] n_WAYS_6, sl_WAYS_6⟩) {n_WAYS_7 : Nat} {sl_WAYS_7 : Array (Option Value)} (l_WAYS_7 : K.lookup r_WAYS_7 = some ⟨.type "tuple", none, .seq #[.int (-1) u_WAYS_7_0, .int (-1) u_WAYS_7_1, .int (1) u_WAYS_7_2, .int (0) u_WAYS_7_3] n_WAYS_7, sl_WAYS_7⟩) {n_WAYS_8 : Nat} {sl_WAYS_8 : Array (Option Value)} (l_WAYS_8 : K.lookup r_WAYS_8 = some ⟨.type "tuple", none, .seq #[.int (-1) u_WAYS_8_0, .int (-1) u_WAYS_8_1, .int (1) u_WAYS_8_2, .int (1) u_WAYS_8_3] n_WAYS_8, sl_WAYS_8⟩) {n_WAYS_9 : Nat} {sl_WAYS_9 : Array (Option Value)} (l_WAYS_9 : K.lookup r_WAYS_9 = some ⟨.type "tuple", none, .seq #[.int (0) u_WAYS_9_0, .int (-1) u_WAYS_9_1, .int (1) u_WAYS_9_2, .int (1) u_WAYS_9_3] n_WAYS_9, sl_WAYS_9⟩) {n_WAYS_10 : Nat} {sl_WAYS_10 : Array (Option Value)} (l_WAYS_10 : K.lookup r_WAYS_10 = some ⟨.type "tuple", none, .seq #[.int (1) u_WAYS_10_0, .int (-1) u_WAYS_10_1, .int (1) u_WAYS_10_2, .int (1) u_WAYS_10_3] n_WAYS_10, sl_WAYS_10⟩) {n_WAYS_11 : Nat} {sl_WAYS_11 : Array (Option Value)} (l_WAYS_11 : K.lookup r_WAYS_11 = some ⟨.type "tuple", none, .seq #[.int (1) u_WAYS_11_0, .int (0) u_WAYS_11_1, .int (1) u_WAYS_11_2, .int (1) u_WAYS_11_3] n_WAYS_11, sl_WAYS_11⟩) {n_WAYS_12 : Nat} {sl_WAYS_12 : Array (Option Value)} (l_WAYS_12 : K.lookup r_WAYS_12 = some ⟨.type "tuple", none, .seq #[.int (1) u_WAYS_12_0, .int (1) u_WAYS_12_1, .int (1) u_WAYS_12_2, .int (1) u_WAYS_12_3] n_WAYS_12, sl_WAYS_12⟩) (y_WAYS : (c_WAYS == sysModules) = false)
    {c_END_COUNTS : Addr} {n_END_COUNTS : Nat} {t_END_COUNTS_0 u_END_COUNTS_0 t_END_COUNTS_1 u_END_COUNTS_1 : Tok} (a_END_COUNTS : PySem.W.nsIn K mainGlobals "END_COUNTS" = some (some (.ref c_END_COUNTS))) (l_END_COUNTS : K.lookup c_END_COUNTS = some ⟨.type "dict", none, .dict #[⟨PyData.keyHash w.params "point", .str "point" t_END_COUNTS_0, .int (1) u_END_COUNTS_0⟩, ⟨PyData.keyHash w.params "stretch", .str "stretch" t_END_COUNTS_1, .int (2) u_END_COUNTS_1⟩] n_END_COUNTS, #[]⟩)  (y_END_COUNTS : (c_END_COUNTS == sysModules) = false)
    {c_POINT_WORDS k_POINT_WORDS_0 r_POINT_WORDS_0 k_POINT_WORDS_1 r_POINT_WORDS_1 k_POINT_WORDS_2 r_POINT_WORDS_2 : Addr} {n_POINT_WORDS : Nat} {tk_POINT_WORDS_0_0 tk_POINT_WORDS_0_1 tr_POINT_WORDS_0_0 tr_POINT_WORDS_0_1 tr_POINT_WORDS_0_2 tk_POINT_WORDS_1_0 tk_POINT_WORDS_1_1 tr_POINT_WORDS_1_0 tr_POINT_WORDS_1_1 tr_POINT_WORDS_1_2 tr_POINT_WORDS_1_3 tr_POINT_WORDS_1_4 tk_POINT_WORDS_2_0 tk_POINT_WORDS_2_1 tr_POINT_WORDS_2_0 tr_POINT_WORDS_2_1 tr_POINT_WORDS_2_2 tr_POINT_WORDS_2_3 tr_POINT_WORDS_2_4 : Tok} (a_POINT_WORDS : PySem.W.nsIn K mainGlobals "POINT_WORDS" = some (some (.ref c_POINT_WORDS))) (l_POINT_WORDS : K.lookup c_POINT_WORDS = some ⟨.type "dict", none, .dict #[⟨reduceHash (Builtin.Tuple.tupleHashOf [PyData.keyHash w.params "point", PyData.keyHash w.params "point"]), .ref k_POINT_WORDS_0, .ref r_POINT_WORDS_0⟩, ⟨reduceHash (Builtin.Tuple.tupleHashOf [PyData.keyHash w.params "point", PyData.keyHash w.params "stretch"]), .ref k_POINT_WORDS_1, .ref r_POINT_WORDS_1⟩, ⟨reduceHash (Builtin.Tuple.tupleHashOf [PyData.keyHash w.params "stretch", PyData.keyHash w.params "point"]), .ref k_POINT_WORDS_2, .ref r_POINT_WORDS_2⟩] n_POINT_WORDS, #[]⟩) {nk_POINT_WORDS_0 : Nat} {slk_POINT_WORDS_0 : Array (Option Value)} (lk_POINT_WORDS_0 : K.lookup k_POINT_WORDS_0 = some ⟨.type "tuple", none, .seq #[.str "point" tk_POINT_WORDS_0_0, .str "point" tk_POINT_WORDS_0_1] nk_POINT_WORDS_0, slk_POINT_WORDS_0⟩) {nr_POINT_WORDS_0 : Nat} {slr_POINT_WORDS_0 : Array (Option Value)} (lr_POINT_WORDS_0 : K.lookup r_POINT_WORDS_0 = some ⟨.type "tuple", none, .seq #[.str "ahead" tr_POINT_WORDS_0_0, .str "same" tr_POINT_WORDS_0_1, .str "behind" tr_POINT_WORDS_0_2] nr_POINT_WORDS_0, slr_POINT_WORDS_0⟩) {nk_POINT_WORDS_1 : Nat} {slk_POINT_WORDS_1 : Array (Option Value)} (lk_POINT_WORDS_1 : K.lookup k_POINT_WORDS_1 = some ⟨.type "tuple", none, .seq #[.str "point" tk_POINT_WORDS_1_0, .str "stretch" tk_POINT_WORDS_1_1] nk_POINT_WORDS_1, slk_POINT_WORDS_1⟩) {nr_POINT_WORDS_1 : Nat} {slr_POINT_WORDS_1 : Array (Option Value)} (lr_POINT_WORDS_1 : K.lookup r_POINT_WORDS_1 = some ⟨.type "tuple", none, .seq #[.str "ahead" tr_POINT_WORDS_1_0, .str "begins" tr_POINT_WORDS_1_1, .str "within" tr_POINT_WORDS_1_2, .str "ends" tr_POINT_WORDS_1_3, .str "behind" tr_POINT_WORDS_1_4] nr_POINT_WORDS_1, slr_POINT_WORDS_1⟩) {nk_POINT_WORDS_2 : Nat} {slk_POINT_WORDS_2 : Array (Option Value)} (lk_POINT_WORDS_2 : K.lookup k_POINT_WORDS_2 = some ⟨.type "tuple", none, .seq #[.str "stretch" tk_POINT_WORDS_2_0, .str "point" tk_POINT_WORDS_2_1] nk_POINT_WORDS_2, slk_POINT_WORDS_2⟩) {nr_POINT_WORDS_2 : Nat} {slr_POINT_WORDS_2 : Array (Option Value)} (lr_POINT_WORDS_2 : K.lookup r_POINT_WORDS_2 = some ⟨.type "tuple", none, .seq #[.str "ahead" tr_POINT_WORDS_2_0, .str "ended" tr_POINT_WORDS_2_1, .str "holds" tr_POINT_WORDS_2_2, .str "begun" tr_POINT_WORDS_2_3, .str "behind" tr_POINT_WORDS_2_4] nr_POINT_WORDS_2, slr_POINT_WORDS_2⟩) (y_POINT_WORDS : (c_POINT_WORDS == sysModules) = false)
    {c_ORDER : Addr} {n_ORDER : Nat} {sl_ORDER : Array (Option Value)} {t_ORDER_0 t_ORDER_1 t_ORDER_2 t_ORDER_3 t_ORDER_4 t_ORDER_5 t_ORDER_6 t_ORDER_7 t_ORDER_8 t_ORDER_9 t_ORDER_10 t_ORDER_11 t_ORDER_12 : Tok} (a_ORDER : PySem.W.nsIn K mainGlobals "ORDER" = some (some (.ref c_ORDER))) (l_ORDER : K.lookup c_ORDER = some ⟨.type "tuple", none, .seq #[.str "ahead" t_ORDER_0, .str "meets" t_ORDER_1, .str "overlaps" t_ORDER_2, .str "begins" t_ORDER_3, .str "within" t_ORDER_4, .str "ends" t_ORDER_5, .str "same" t_ORDER_6, .str "ended" t_ORDER_7, .str "holds" t_ORDER_8, .str "begun" t_ORDER_9, .str "lapped" t_ORDER_10, .str "met" t_ORDER_11, .str "behind" t_ORDER_12] n_ORDER, sl_ORDER⟩)
    (z_zip : PySem.W.nsIn K mainGlobals "zip" = some none)
    (z_range : PySem.W.nsIn K mainGlobals "range" = some none)
    (z_tuple : PySem.W.nsIn K mainGlobals "tuple" = some none)
    (z_len : PySem.W.nsIn K mainGlobals "len" = some none)
    (z_max : PySem.W.nsIn K mainGlobals "max" = some none)
    (z_int : PySem.W.nsIn K mainGlobals "int" = some none)
    (z_isinstance : PySem.W.nsIn K mainGlobals "isinstance" = some none)
    (z_list : PySem.W.nsIn K mainGlobals "list" = some none)
    (z_repr : PySem.W.nsIn K mainGlobals "repr" = some none)
    : ∃ fd : FuncData, (∀ (s : Shared) (v : Value), BindsTo s fd ⟨[v], []⟩ [("_law_script", v)]) ∧ ∀ base : Heap, K.In base → base.Ns mainGlobals mg → FnOk l.prog w K mg base CX0 8 fa fd ["_law_script"] (LSp K 1 sp_law) := by
  have e := hfa.symm.trans (PySem.W.mg_of X G a20)
  cases e
  have F_words_of := fun_mk (st := s_words_of) l0 c0 k0
  have B_words_of := (F_words_of).binds (ps := p_words_of) fun _ _ _ _ _ _ us hl => us_1 (by intros; rfl) us hl
  have M_words_of := PySem.W.mg_of X G a0
  have F_ways_by := fun_mk (st := s_ways_by) l1 c1 k1
  have B_ways_by := (F_ways_by).binds (ps := p_ways_by) fun _ _ _ _ _ _ us hl => us_2 (by intros; rfl) us hl
  have M_ways_by := PySem.W.mg_of X G a1
  have F_forced_way := fun_mk (st := s_forced_way) l2 c2 k2
  have B_forced_way := (F_forced_way).binds (ps := p_forced_way) fun _ _ _ _ _ _ us hl => us_2 (by intros; rfl) us hl
  have M_forced_way := PySem.W.mg_of X G a2
  have F_forced_by := fun_mk (st := s_forced_by) l3 c3 k3
  have B_forced_by := (F_forced_by).binds (ps := p_forced_by) fun _ _ _ _ _ _ us hl => us_2 (by intros; rfl) us hl
  have M_forced_by := PySem.W.mg_of X G a3
  have F_forced_ways := fun_mk (st := s_forced_ways) l4 c4 k4
  have B_forced_ways := (F_forced_ways).binds (ps := p_forced_ways) fun _ _ _ _ _ _ us hl => us_3 (by intros; rfl) us hl
  have M_forced_ways := PySem.W.mg_of X G a4
  have F_go_with := fun_mk (st := s_go_with) l5 c5 k5
  have B_go_with := (F_go_with).binds (ps := p_go_with) fun _ _ _ _ _ _ us hl => us_2 (by intros; rfl) us hl
  have M_go_with := PySem.W.mg_of X G a5
  have F_behind_words := fun_mk (st := s_behind_words) l6 c6 k6
  have B_behind_words := (F_behind_words).binds (ps := p_behind_words) fun _ _ _ _ _ _ us hl => us_3 (by intros; rfl) us hl
  have M_behind_words := PySem.W.mg_of X G a6
  have F_Behinds___init__ := fun_mk (st := s_Behinds___init__) l7 c7 k7
  have B_Behinds___init__ := (F_Behinds___init__).binds (ps := p_Behinds___init__) fun _ _ _ _ _ _ us hl => us_1 (by intros; rfl) us hl
  have K_Behinds : Mk K C_Behinds f_Behinds___init__ := ⟨mk_Behinds, a7, i7, kc_Behinds⟩
  have F_Behinds_words := fun_mk (st := s_Behinds_words) l8 c8 k8
  have B_Behinds_words := (F_Behinds_words).binds (ps := p_Behinds_words) fun _ _ _ _ _ _ us hl => us_4 (by intros; rfl) us hl
  have H_Behinds_words : Meth K C_Behinds "words" f_Behinds_words := ⟨a8, i8, k8⟩
  have F_Behinds_gathered := fun_mk (st := s_Behinds_gathered) l9 c9 k9
  have B_Behinds_gathered := (F_Behinds_gathered).binds (ps := p_Behinds_gathered) fun _ _ _ _ _ _ us hl => us_4 (by intros; rfl) us hl
  have H_Behinds_gathered : Meth K C_Behinds "gathered" f_Behinds_gathered := ⟨a9, i9, k9⟩
  have F_behind_mays := fun_mk (st := s_behind_mays) l10 c10 k10
  have B_behind_mays := (F_behind_mays).binds (ps := p_behind_mays) fun _ _ _ _ _ _ us hl => us_3 (by intros; rfl) us hl
  have M_behind_mays := PySem.W.mg_of X G a10
  have F__law_feed := fun_mk (st := s__law_feed) l11 c11 k11
  have B__law_feed := (F__law_feed).binds (ps := p__law_feed) fun _ _ _ _ _ _ us hl => us_2 (by intros; rfl) us hl
  have M__law_feed := PySem.W.mg_of X G a11
  have F__law_draw := fun_mk (st := s__law_draw) l12 c12 k12
  have B__law_draw := (F__law_draw).binds (ps := p__law_draw) fun _ _ _ _ _ _ us hl => us_2 (by intros; rfl) us hl
  have M__law_draw := PySem.W.mg_of X G a12
  have F__law_stand := fun_mk (st := s__law_stand) l13 c13 k13
  have B__law_stand := (F__law_stand).binds (ps := p__law_stand) fun _ _ _ _ _ _ us hl => us_2 (by intros; rfl) us hl
  have M__law_stand := PySem.W.mg_of X G a13
  have F__law_word := fun_mk (st := s__law_word) l14 c14 k14
  have B__law_word := (F__law_word).binds (ps := p__law_word) fun _ _ _ _ _ _ us hl => us_2 (by intros; rfl) us hl
  have M__law_word := PySem.W.mg_of X G a14
  have F__law_words := fun_mk (st := s__law_words) l15 c15 k15
  have B__law_words := (F__law_words).binds (ps := p__law_words) fun _ _ _ _ _ _ us hl => us_1 (by intros; rfl) us hl
  have M__law_words := PySem.W.mg_of X G a15
  have F__law_kinds := fun_mk (st := s__law_kinds) l16 c16 k16
  have B__law_kinds := (F__law_kinds).binds (ps := p__law_kinds) fun _ _ _ _ _ _ us hl => us_2 (by intros; rfl) us hl
  have M__law_kinds := PySem.W.mg_of X G a16
  have F__law_may := fun_mk (st := s__law_may) l17 c17 k17
  have B__law_may := (F__law_may).binds (ps := p__law_may) fun _ _ _ _ _ _ us hl => us_2 (by intros; rfl) us hl
  have M__law_may := PySem.W.mg_of X G a17
  have F__law_grid := fun_mk (st := s__law_grid) l18 c18 k18
  have B__law_grid := (F__law_grid).binds (ps := p__law_grid) fun _ _ _ _ _ _ us hl => us_2 (by intros; rfl) us hl
  have M__law_grid := PySem.W.mg_of X G a18
  have F__law_reached := fun_mk (st := s__law_reached) l19 c19 k19
  have B__law_reached := (F__law_reached).binds (ps := p__law_reached) fun _ _ _ _ _ _ us hl => us_3 (by intros; rfl) us hl
  have M__law_reached := PySem.W.mg_of X G a19
  have F_law := fun_mk (st := s_law) l20 c20 k20
  have T_Behinds : Cls K C_Behinds := ⟨pg_Behinds, hd_Behinds, po_Behinds, sa_Behinds⟩
  have M_Behinds := PySem.W.mg_of X G g_Behinds
  have M_POINT_WORDS := PySem.W.mg_of X G a_POINT_WORDS
  have Kk_POINT_WORDS_0 : KT K k_POINT_WORDS_0 ["point", "point"] := ⟨_, _, _, lk_POINT_WORDS_0, rfl, rfl, rfl, by show 2 ≤ sizeLine; rw [sizeLine_eq]; decide, .cons ⟨_, rfl⟩ (.cons ⟨_, rfl⟩ (.nil))⟩
  have Kr_POINT_WORDS_0 : KT K r_POINT_WORDS_0 ["ahead", "same", "behind"] := ⟨_, _, _, lr_POINT_WORDS_0, rfl, rfl, rfl, by show 3 ≤ sizeLine; rw [sizeLine_eq]; decide, .cons ⟨_, rfl⟩ (.cons ⟨_, rfl⟩ (.cons ⟨_, rfl⟩ (.nil)))⟩
  have Kk_POINT_WORDS_1 : KT K k_POINT_WORDS_1 ["point", "stretch"] := ⟨_, _, _, lk_POINT_WORDS_1, rfl, rfl, rfl, by show 2 ≤ sizeLine; rw [sizeLine_eq]; decide, .cons ⟨_, rfl⟩ (.cons ⟨_, rfl⟩ (.nil))⟩
  have Kr_POINT_WORDS_1 : KT K r_POINT_WORDS_1 ["ahead", "begins", "within", "ends", "behind"] := ⟨_, _, _, lr_POINT_WORDS_1, rfl, rfl, rfl, by show 5 ≤ sizeLine; rw [sizeLine_eq]; decide, .cons ⟨_, rfl⟩ (.cons ⟨_, rfl⟩ (.cons ⟨_, rfl⟩ (.cons ⟨_, rfl⟩ (.cons ⟨_, rfl⟩ (.nil)))))⟩
  have Kk_POINT_WORDS_2 : KT K k_POINT_WORDS_2 ["stretch", "point"] := ⟨_, _, _, lk_POINT_WORDS_2, rfl, rfl, rfl, by show 2 ≤ sizeLine; rw [sizeLine_eq]; decide, .cons ⟨_, rfl⟩ (.cons ⟨_, rfl⟩ (.nil))⟩
  have Kr_POINT_WORDS_2 : KT K r_POINT_WORDS_2 ["ahead", "ended", "holds", "begun", "behind"] := ⟨_, _, _, lr_POINT_WORDS_2, rfl, rfl, rfl, by show 5 ≤ sizeLine; rw [sizeLine_eq]; decide, .cons ⟨_, rfl⟩ (.cons ⟨_, rfl⟩ (.cons ⟨_, rfl⟩ (.cons ⟨_, rfl⟩ (.cons ⟨_, rfl⟩ (.nil)))))⟩
  have K_POINT_WORDS : KTD K w c_POINT_WORDS tt_POINT_WORDS := ⟨[(["point", "point"], k_POINT_WORDS_0, .ref r_POINT_WORDS_0), (["point", "stretch"], k_POINT_WORDS_1, .ref r_POINT_WORDS_1), (["stretch", "point"], k_POINT_WORDS_2, .ref r_POINT_WORDS_2)], ⟨_, _, _, l_POINT_WORDS, rfl, rfl, rfl, rfl, ⟨rfl, rfl, rfl, Kk_POINT_WORDS_0, ⟨rfl, rfl, rfl, Kk_POINT_WORDS_1, ⟨rfl, rfl, rfl, Kk_POINT_WORDS_2, True.intro⟩⟩⟩, by show List.Nodup ([["point", "point"], ["point", "stretch"], ["stretch", "point"]] : List (List Str)); decide +kernel, y_POINT_WORDS⟩, fun Z m H => ⟨_, _, rfl, KT.rp Kr_POINT_WORDS_0, ⟨_, _, rfl, KT.rp Kr_POINT_WORDS_1, ⟨_, _, rfl, KT.rp Kr_POINT_WORDS_2, rfl⟩⟩⟩⟩
  have M_ORDER := PySem.W.mg_of X G a_ORDER
  have K_ORDER : KT K c_ORDER ["ahead", "meets", "overlaps", "begins", "within", "ends", "same", "ended", "holds", "begun", "lapped", "met", "behind"] := ⟨_, _, _, l_ORDER, rfl, rfl, rfl, by show 13 ≤ sizeLine; rw [sizeLine_eq]; decide, .cons ⟨_, rfl⟩ (.cons ⟨_, rfl⟩ (.cons ⟨_, rfl⟩ (.cons ⟨_, rfl⟩ (.cons ⟨_, rfl⟩ (.cons ⟨_, rfl⟩ (.cons ⟨_, rfl⟩ (.cons ⟨_, rfl⟩ (.cons ⟨_, rfl⟩ (.cons ⟨_, rfl⟩ (.cons ⟨_, rfl⟩ (.cons ⟨_, rfl⟩ (.cons ⟨_, rfl⟩ (.nil)))))))))))))⟩
  have M_WAYS := PySem.W.mg_of X G a_WAYS
  have K_WAYS : KD K w c_WAYS tb_WAYS := ⟨[("ahead", .ref r_WAYS_0), ("meets", .ref r_WAYS_1), ("overlaps", .ref r_WAYS_2), ("begins", .ref r_WAYS_3), ("within", .ref r_WAYS_4), ("ends", .ref r_WAYS_5), ("same", .ref r_WAYS_6), ("ended", .ref r_WAYS_7), ("holds", .ref r_WAYS_8), ("begun", .ref r_WAYS_9), ("lapped", .ref r_WAYS_10), ("met", .ref r_WAYS_11), ("behind", .ref r_WAYS_12)], ⟨_, _, _, l_WAYS, rfl, rfl, rfl, rfl, ⟨rfl, ⟨_, rfl⟩, rfl, ⟨rfl, ⟨_, rfl⟩, rfl, ⟨rfl, ⟨_, rfl⟩, rfl, ⟨rfl, ⟨_, rfl⟩, rfl, ⟨rfl, ⟨_, rfl⟩, rfl, ⟨rfl, ⟨_, rfl⟩, rfl, ⟨rfl, ⟨_, rfl⟩, rfl, ⟨rfl, ⟨_, rfl⟩, rfl, ⟨rfl, ⟨_, rfl⟩, rfl, ⟨rfl, ⟨_, rfl⟩, rfl, ⟨rfl, ⟨_, rfl⟩, rfl, ⟨rfl, ⟨_, rfl⟩, rfl, ⟨rfl, ⟨_, rfl⟩, rfl, True.intro⟩⟩⟩⟩⟩⟩⟩⟩⟩⟩⟩⟩⟩, by show List.Nodup (["ahead", "meets", "overlaps", "begins", "within", "ends", "same", "ended", "holds", "begun", "lapped", "met", "behind"] : List Str); decide +kernel, y_WAYS⟩, fun Z m H => ⟨_, _, rfl, rp_ints (is := [-1, -1, -1, -1]) (.inr ⟨_, _, _, l_WAYS_0, ⟨rfl, rfl⟩, rfl, by show 4 ≤ sizeLine; rw [sizeLine_eq]; decide, .cons ⟨_, rfl⟩ (.cons ⟨_, rfl⟩ (.cons ⟨_, rfl⟩ (.cons ⟨_, rfl⟩ (.nil))))⟩), ⟨_, _, rfl, rp_ints (is := [-1, -1, 0, -1]) (.inr ⟨_, _, _, l_WAYS_1, ⟨rfl, rfl⟩, rfl, by show 4 ≤ sizeLine; rw [sizeLine_eq]; decide, .cons ⟨_, rfl⟩ (.cons ⟨_, rfl⟩ (.cons ⟨_, rfl⟩ (.cons ⟨_, rfl⟩ (.nil))))⟩), ⟨_, _, rfl, rp_ints (is := [-1, -1, 1, -1]) (.inr ⟨_, _, _, l_WAYS_2, ⟨rfl, rfl⟩, rfl, by show 4 ≤ sizeLine; rw [sizeLine_eq]; decide, .cons ⟨_, rfl⟩ (.cons ⟨_, rfl⟩ (.cons ⟨_, rfl⟩ (.cons ⟨_, rfl⟩ (.nil))))⟩), ⟨_, _, rfl, rp_ints (is := [0, -1, 1, -1]) (.inr ⟨_, _, _, l_WAYS_3, ⟨rfl, rfl⟩, rfl, by show 4 ≤ sizeLine; rw [sizeLine_eq]; decide, .cons ⟨_, rfl⟩ (.cons ⟨_, rfl⟩ (.cons ⟨_, rfl⟩ (.cons ⟨_, rfl⟩ (.nil))))⟩), ⟨_, _, rfl, rp_ints (is := [1, -1, 1, -1]) (.inr ⟨_, _, _, l_WAYS_4, ⟨rfl, rfl⟩, rfl, by show 4 ≤ sizeLine; rw [sizeLine_eq]; decide, .cons ⟨_, rfl⟩ (.cons ⟨_, rfl⟩ (.cons ⟨_, rfl⟩ (.cons ⟨_, rfl⟩ (.nil))))⟩), ⟨_, _, rfl, rp_ints (is := [1, -1, 1, 0]) (.inr ⟨_, _, _, l_WAYS_5, ⟨rfl, rfl⟩, rfl, by show 4 ≤ sizeLine; rw [sizeLine_eq]; decide, .cons ⟨_, rfl⟩ (.cons ⟨_, rfl⟩ (.cons ⟨_, rfl⟩ (.cons ⟨_, rfl⟩ (.nil))))⟩), ⟨_, _, rfl, rp_ints (is := [0, -1, 1, 0]) (.inr ⟨_, _, _, l_WAYS_6, ⟨rfl, rfl⟩, rfl, by show 4 ≤ sizeLine; rw [sizeLine_eq]; decide, .cons ⟨_, rfl⟩ (.cons ⟨_, rfl⟩ (.cons ⟨_, rfl⟩ (.cons ⟨_, rfl⟩ (.nil))))⟩), ⟨_, _, rfl, rp_ints (is := [-1, -1, 1, 0]) (.inr ⟨_, _, _, l_WAYS_7, ⟨rfl, rfl⟩, rfl, by show 4 ≤ sizeLine; rw [sizeLine_eq]; decide, .cons ⟨_, rfl⟩ (.cons ⟨_, rfl⟩ (.cons ⟨_, rfl⟩ (.cons ⟨_, rfl⟩ (.nil))))⟩), ⟨_, _, rfl, rp_ints (is := [-1, -1, 1, 1]) (.inr ⟨_, _, _, l_WAYS_8, ⟨rfl, rfl⟩, rfl, by show 4 ≤ sizeLine; rw [sizeLine_eq]; decide, .cons ⟨_, rfl⟩ (.cons ⟨_, rfl⟩ (.cons ⟨_, rfl⟩ (.cons ⟨_, rfl⟩ (.nil))))⟩), ⟨_, _, rfl, rp_ints (is := [0, -1, 1, 1]) (.inr ⟨_, _, _, l_WAYS_9, ⟨rfl, rfl⟩, rfl, by show 4 ≤ sizeLine; rw [sizeLine_eq]; decide, .cons ⟨_, rfl⟩ (.cons ⟨_, rfl⟩ (.cons ⟨_, rfl⟩ (.cons ⟨_, rfl⟩ (.nil))))⟩), ⟨_, _, rfl, rp_ints (is := [1, -1, 1, 1]) (.inr ⟨_, _, _, l_WAYS_10, ⟨rfl, rfl⟩, rfl, by show 4 ≤ sizeLine; rw [sizeLine_eq]; decide, .cons ⟨_, rfl⟩ (.cons ⟨_, rfl⟩ (.cons ⟨_, rfl⟩ (.cons ⟨_, rfl⟩ (.nil))))⟩), ⟨_, _, rfl, rp_ints (is := [1, 0, 1, 1]) (.inr ⟨_, _, _, l_WAYS_11, ⟨rfl, rfl⟩, rfl, by show 4 ≤ sizeLine; rw [sizeLine_eq]; decide, .cons ⟨_, rfl⟩ (.cons ⟨_, rfl⟩ (.cons ⟨_, rfl⟩ (.cons ⟨_, rfl⟩ (.nil))))⟩), ⟨_, _, rfl, rp_ints (is := [1, 1, 1, 1]) (.inr ⟨_, _, _, l_WAYS_12, ⟨rfl, rfl⟩, rfl, by show 4 ≤ sizeLine; rw [sizeLine_eq]; decide, .cons ⟨_, rfl⟩ (.cons ⟨_, rfl⟩ (.cons ⟨_, rfl⟩ (.cons ⟨_, rfl⟩ (.nil))))⟩), rfl⟩⟩⟩⟩⟩⟩⟩⟩⟩⟩⟩⟩⟩⟩
  have M_END_COUNTS := PySem.W.mg_of X G a_END_COUNTS
  have K_END_COUNTS : KD K w c_END_COUNTS tb_END_COUNTS := ⟨[("point", .int (1)), ("stretch", .int (2))], ⟨_, _, _, l_END_COUNTS, rfl, rfl, rfl, rfl, ⟨rfl, ⟨_, rfl⟩, ⟨_, rfl⟩, ⟨rfl, ⟨_, rfl⟩, ⟨_, rfl⟩, True.intro⟩⟩, by show List.Nodup (["point", "stretch"] : List Str); decide +kernel, y_END_COUNTS⟩, fun Z m H => ⟨_, _, rfl, by simp only [RP], ⟨_, _, rfl, by simp only [RP], rfl⟩⟩⟩
  have m_zip := PySem.W.mg_none_of X G z_zip
  have m_range := PySem.W.mg_none_of X G z_range
  have m_tuple := PySem.W.mg_none_of X G z_tuple
  have m_len := PySem.W.mg_none_of X G z_len
  have m_max := PySem.W.mg_none_of X G z_max
  have m_int := PySem.W.mg_none_of X G z_int
  have m_isinstance := PySem.W.mg_none_of X G z_isinstance
  have m_list := PySem.W.mg_none_of X G z_list
  have m_repr := PySem.W.mg_none_of X G z_repr
  refine ⟨PySem.W.fnOf "law" "law" (defArgs s_law) (defBody s_law) (defScope s_law) .none kV_20 dc_20 pm_20 an_20 cd_20 ct_20, fun s v => .of_eq rfl, fun base _ _ => ?_⟩
  have C__law_feed := ok__law_feed (P := l.prog) (w := w) (mg := mg) (base := base) F__law_feed m_len m_max vc__law_feed
  have C__law_draw := ok__law_draw (P := l.prog) (w := w) (mg := mg) (base := base) F__law_draw vc__law_draw
  have C__law_kinds := ok__law_kinds (P := l.prog) (w := w) (mg := mg) (base := base) F__law_kinds F__law_draw B__law_draw M__law_draw C__law_draw m_range m_tuple vc__law_kinds
  have C__law_words := ok__law_words (P := l.prog) (w := w) (mg := mg) (base := base) F__law_words vc__law_words
  have C__law_may := ok__law_may (P := l.prog) (w := w) (mg := mg) (base := base) F__law_may F__law_words B__law_words M__law_words C__law_words F__law_draw B__law_draw M__law_draw C__law_draw m_len m_tuple vc__law_may
  have C_words_of := ok_words_of (P := l.prog) (w := w) (mg := mg) (base := base) F_words_of M_POINT_WORDS K_POINT_WORDS M_ORDER K_ORDER vc_words_of
  have C_ways_by := ok_ways_by (P := l.prog) (w := w) (mg := mg) (base := base) F_ways_by M_WAYS K_WAYS vc_ways_by
  have C_forced_way := ok_forced_way (P := l.prog) (w := w) (mg := mg) (base := base) F_forced_way vc_forced_way
  have C_forced_by := ok_forced_by (P := l.prog) (w := w) (mg := mg) (base := base) F_forced_by F_forced_way B_forced_way M_forced_way C_forced_way m_zip vc_forced_by
  have C_forced_ways := ok_forced_ways (P := l.prog) (w := w) (mg := mg) (base := base) F_forced_ways F_ways_by B_ways_by M_ways_by C_ways_by F_forced_by B_forced_by M_forced_by C_forced_by M_END_COUNTS K_END_COUNTS m_range vc_forced_ways
  have C_go_with := ok_go_with (P := l.prog) (w := w) (mg := mg) (base := base) F_go_with m_zip vc_go_with
  have C_behind_words := ok_behind_words (P := l.prog) (w := w) (mg := mg) (base := base) F_behind_words F_forced_ways B_forced_ways M_forced_ways C_forced_ways F_words_of B_words_of M_words_of C_words_of F_go_with B_go_with M_go_with C_go_with F_ways_by B_ways_by M_ways_by C_ways_by m_tuple vc_behind_words
  have C_Behinds_words := ok_Behinds_words (P := l.prog) (w := w) (mg := mg) (base := base) F_Behinds_words g_Behinds T_Behinds n_Behinds_by_words F_behind_words B_behind_words M_behind_words C_behind_words vc_Behinds_words
  have C_Behinds_gathered := ok_Behinds_gathered (P := l.prog) (w := w) (mg := mg) (base := base) F_Behinds_gathered g_Behinds T_Behinds F_words_of B_words_of M_words_of C_words_of F_Behinds_words B_Behinds_words H_Behinds_words C_Behinds_words m_len m_tuple vc_Behinds_gathered
  have C_Behinds___init__ := ok_Behinds___init__ (P := l.prog) (w := w) (mg := mg) (base := base) F_Behinds___init__ g_Behinds T_Behinds n_Behinds_by_words n_Behinds_by_mays vc_Behinds___init__
  have C_behind_mays := ok_behind_mays (P := l.prog) (w := w) (mg := mg) (base := base) F_behind_mays g_Behinds T_Behinds F_Behinds_gathered B_Behinds_gathered H_Behinds_gathered C_Behinds_gathered F_Behinds___init__ B_Behinds___init__  C_Behinds___init__ M_Behinds K_Behinds vc_behind_mays
  have C__law_stand := ok__law_stand (P := l.prog) (w := w) (mg := mg) (base := base) F__law_stand m_int vc__law_stand
  have C__law_word := ok__law_word (P := l.prog) (w := w) (mg := mg) (base := base) F__law_word F__law_stand B__law_stand M__law_stand C__law_stand m_isinstance m_tuple vc__law_word
  have C__law_grid := ok__law_grid (P := l.prog) (w := w) (mg := mg) (base := base) F__law_grid vc__law_grid
  have C__law_reached := ok__law_reached (P := l.prog) (w := w) (mg := mg) (base := base) F__law_reached F__law_word B__law_word M__law_word C__law_word F__law_grid B__law_grid M__law_grid C__law_grid F__law_words B__law_words M__law_words C__law_words m_list m_range m_tuple vc__law_reached
  exact ok_law F_law F__law_feed B__law_feed M__law_feed C__law_feed F__law_kinds B__law_kinds M__law_kinds C__law_kinds F__law_may B__law_may M__law_may C__law_may F__law_draw B__law_draw M__law_draw C__law_draw F_behind_mays B_behind_mays M_behind_mays C_behind_mays F__law_reached B__law_reached M__law_reached C__law_reached m_len m_repr m_range vc_law
theorem walk {l : PySem.W.OpenLaw} {q : Program} {loose : List Str} {XP : (Str → Option Value) → Heap → Prop} {YP : World → Heap → Prop} {d : DefRec} {K : Params → PySem.W.Frag} (hn : l.most = some 63) (hdf : d.params.defaults = [])
    (hY : ∀ (w : World) (h : Heap), YP w h → (K w.params).In h)
    (F : ∀ (w : World) (mg : Str → Option Value) (fa : Addr) (h : Heap), (K w.params).In h → h.Ns mainGlobals mg → mg d.name = some (.ref fa) →
      ∃ fd : FuncData, (∀ (s : Shared) (u : Value), BindsTo s fd ⟨[u], []⟩ [("_law_script", u)]) ∧ ∀ base : Heap, (K w.params).In base → base.Ns mainGlobals mg → FnOk l.prog w (K w.params) mg base CX0 8 fa fd ["_law_script"] (LSp (K w.params) 1 sp_law)) :
    PySem.W.WalkO q loose XP YP l.row.toRowW d [] (fun f vs => PySem.call f vs) :=
  L2.walk_of (n := 63) (k := 8) (x := "_law_script") (CX := fun _ => CX0) (sp := fun w => LSp (K w.params) 1 sp_law) hn (by decide) hdf ⟨rfl, rfl, by decide, by decide⟩ hY F (fun _ _ a ns hl _ hS => lsp_law hS ⟨ns, rfl, hl, fun _ => rfl⟩) fun _ _ _ _ _ z => z
def kk_3 (P : Params) : Obj := ⟨Value.type "dict", none, Data.dict #[{ hash := PyData.keyHash P (Str.ofString "__name__"), key := Value.str (Str.ofString "__name__") 165, val := Value.str (Str.ofString "law_whens_k07_mays_behind_mays") 465 }, { hash := PyData.keyHash P (Str.ofString "__doc__"), key := Value.str (Str.ofString "__doc__") 166, val := Value.none }, { hash := PyData.keyHash P (Str.ofString "__package__"), key := Value.str (Str.ofString "__package__") 167, val := Value.none }, { hash := PyData.keyHash P (Str.ofString "__loader__"), key := Value.str (Str.ofString "__loader__") 168, val := Value.builtin "__main__.__loader__#opaque" }, { hash := PyData.keyHash P (Str.ofString "__spec__"), key := Value.str (Str.ofString "__spec__") 169, val := Value.none }, { hash := PyData.keyHash P (Str.ofString "__annotations__"), key := Value.str (Str.ofString "__annotations__") 170, val := Value.ref 6 }, { hash := PyData.keyHash P (Str.ofString "__builtins__"), key := Value.str (Str.ofString "__builtins__") 171, val := Value.ref 4 }, { hash := PyData.keyHash P (Str.ofString "__file__"), key := Value.str (Str.ofString "__file__") 173, val := Value.str (Str.ofString "/claim/cut.py") 172 }, { hash := PyData.keyHash P (Str.ofString "__cached__"), key := Value.str (Str.ofString "__cached__") 174, val := Value.none }, { hash := PyData.keyHash P (Str.ofString "ORDER"), key := Value.str (Str.ofString "ORDER") 202, val := Value.ref 15 }, { hash := PyData.keyHash P (Str.ofString "POINT_WORDS"), key := Value.str (Str.ofString "POINT_WORDS") 231, val := Value.ref 16 }, { hash := PyData.keyHash P (Str.ofString "WAYS"), key := Value.str (Str.ofString "WAYS") 332, val := Value.ref 23 }, { hash := PyData.keyHash P (Str.ofString "END_COUNTS"), key := Value.str (Str.ofString "END_COUNTS") 339, val := Value.ref 37 }, { hash := PyData.keyHash P (Str.ofString "words_of"), key := Value.str (Str.ofString "words_of") 346, val := Value.ref 44 }, { hash := PyData.keyHash P (Str.ofString "ways_by"), key := Value.str (Str.ofString "ways_by") 355, val := Value.ref 51 }, { hash := PyData.keyHash P (Str.ofString "forced_way"), key := Value.str (Str.ofString "forced_way") 365, val := Value.ref 58 }, { hash := PyData.keyHash P (Str.ofString "forced_by"), key := Value.str (Str.ofString "forced_by") 376, val := Value.ref 65 }, { hash := PyData.keyHash P (Str.ofString "forced_ways"), key := Value.str (Str.ofString "forced_ways") 382, val := Value.ref 70 }, { hash := PyData.keyHash P (Str.ofString "go_with"), key := Value.str (Str.ofString "go_with") 392, val := Value.ref 77 }, { hash := PyData.keyHash P (Str.ofString "behind_words"), key := Value.str (Str.ofString "behind_words") 398, val := Value.ref 82 }, { hash := PyData.keyHash P (Str.ofString "Behinds"), key := Value.str (Str.ofString "Behinds") 455, val := Value.ref 118 }, { hash := PyData.keyHash P (Str.ofString "behind_mays"), key := Value.str (Str.ofString "behind_mays") 464, val := Value.ref 129 }, { hash := PyData.keyHash P (Str.ofString "_law_feed"), key := Value.str (Str.ofString "_law_feed") 475, val := Value.ref 136 }, { hash := PyData.keyHash P (Str.ofString "_law_draw"), key := Value.str (Str.ofString "_law_draw") 485, val := Value.ref 143 }, { hash := PyData.keyHash P (Str.ofString "_law_stand"), key := Value.str (Str.ofString "_law_stand") 494, val := Value.ref 150 }, { hash := PyData.keyHash P (Str.ofString "_law_word"), key := Value.str (Str.ofString "_law_word") 506, val := Value.ref 157 }, { hash := PyData.keyHash P (Str.ofString "_law_words"), key := Value.str (Str.ofString "_law_words") 514, val := Value.ref 164 }, { hash := PyData.keyHash P (Str.ofString "_law_kinds"), key := Value.str (Str.ofString "_law_kinds") 520, val := Value.ref 169 }, { hash := PyData.keyHash P (Str.ofString "_law_may"), key := Value.str (Str.ofString "_law_may") 526, val := Value.ref 174 }, { hash := PyData.keyHash P (Str.ofString "_law_grid"), key := Value.str (Str.ofString "_law_grid") 532, val := Value.ref 179 }, { hash := PyData.keyHash P (Str.ofString "_law_reached"), key := Value.str (Str.ofString "_law_reached") 538, val := Value.ref 184 }, { hash := PyData.keyHash P (Str.ofString "law"), key := Value.str (Str.ofString "law") 550, val := Value.ref 191 }] 32, #[]⟩
def kk_15 (P : Params) : Obj := ⟨Value.type "tuple", none, Data.seq #[Value.str (Str.ofString "ahead") 189, Value.str (Str.ofString "meets") 190, Value.str (Str.ofString "overlaps") 191, Value.str (Str.ofString "begins") 192, Value.str (Str.ofString "within") 193, Value.str (Str.ofString "ends") 194, Value.str (Str.ofString "same") 195, Value.str (Str.ofString "ended") 196, Value.str (Str.ofString "holds") 197, Value.str (Str.ofString "begun") 198, Value.str (Str.ofString "lapped") 199, Value.str (Str.ofString "met") 200, Value.str (Str.ofString "behind") 201], #[]⟩
def kk_16 (P : Params) : Obj := ⟨Value.type "dict", none, Data.dict #[{ hash := reduceHash (Builtin.Tuple.tupleHashOf [PyData.keyHash P (Str.ofString "point"), PyData.keyHash P (Str.ofString "point")]), key := Value.ref 17, val := Value.ref 18 }, { hash := reduceHash (Builtin.Tuple.tupleHashOf [PyData.keyHash P (Str.ofString "point"), PyData.keyHash P (Str.ofString "stretch")]), key := Value.ref 19, val := Value.ref 20 }, { hash := reduceHash (Builtin.Tuple.tupleHashOf [PyData.keyHash P (Str.ofString "stretch"), PyData.keyHash P (Str.ofString "point")]), key := Value.ref 21, val := Value.ref 22 }] 3, #[]⟩
def kk_17 (P : Params) : Obj := ⟨Value.type "tuple", none, Data.seq #[Value.str (Str.ofString "point") 203, Value.str (Str.ofString "point") 204], #[]⟩
def kk_18 (P : Params) : Obj := ⟨Value.type "tuple", none, Data.seq #[Value.str (Str.ofString "ahead") 205, Value.str (Str.ofString "same") 206, Value.str (Str.ofString "behind") 207], #[]⟩
def kk_19 (P : Params) : Obj := ⟨Value.type "tuple", none, Data.seq #[Value.str (Str.ofString "point") 208, Value.str (Str.ofString "stretch") 209], #[]⟩
def kk_20 (P : Params) : Obj := ⟨Value.type "tuple", none, Data.seq #[Value.str (Str.ofString "ahead") 210, Value.str (Str.ofString "begins") 211, Value.str (Str.ofString "within") 212, Value.str (Str.ofString "ends") 213, Value.str (Str.ofString "behind") 214], #[]⟩
def kk_21 (P : Params) : Obj := ⟨Value.type "tuple", none, Data.seq #[Value.str (Str.ofString "stretch") 215, Value.str (Str.ofString "point") 216], #[]⟩
def kk_22 (P : Params) : Obj := ⟨Value.type "tuple", none, Data.seq #[Value.str (Str.ofString "ahead") 217, Value.str (Str.ofString "ended") 218, Value.str (Str.ofString "holds") 219, Value.str (Str.ofString "begun") 220, Value.str (Str.ofString "behind") 221], #[]⟩
def kk_23 (P : Params) : Obj := ⟨Value.type "dict", none, Data.dict #[{ hash := PyData.keyHash P (Str.ofString "ahead"), key := Value.str (Str.ofString "ahead") 232, val := Value.ref 24 }, { hash := PyData.keyHash P (Str.ofString "meets"), key := Value.str (Str.ofString "meets") 241, val := Value.ref 25 }, { hash := PyData.keyHash P (Str.ofString "overlaps"), key := Value.str (Str.ofString "overlaps") 249, val := Value.ref 26 }, { hash := PyData.keyHash P (Str.ofString "begins"), key := Value.str (Str.ofString "begins") 257, val := Value.ref 27 }, { hash := PyData.keyHash P (Str.ofString "within"), key := Value.str (Str.ofString "within") 264, val := Value.ref 28 }, { hash := PyData.keyHash P (Str.ofString "ends"), key := Value.str (Str.ofString "ends") 271, val := Value.ref 29 }, { hash := PyData.keyHash P (Str.ofString "same"), key := Value.str (Str.ofString "same") 277, val := Value.ref 30 }, { hash := PyData.keyHash P (Str.ofString "ended"), key := Value.str (Str.ofString "ended") 283, val := Value.ref 31 }, { hash := PyData.keyHash P (Str.ofString "holds"), key := Value.str (Str.ofString "holds") 290, val := Value.ref 32 }, { hash := PyData.keyHash P (Str.ofString "begun"), key := Value.str (Str.ofString "begun") 297, val := Value.ref 33 }, { hash := PyData.keyHash P (Str.ofString "lapped"), key := Value.str (Str.ofString "lapped") 303, val := Value.ref 34 }, { hash := PyData.keyHash P (Str.ofString "met"), key := Value.str (Str.ofString "met") 309, val := Value.ref 35 }, { hash := PyData.keyHash P (Str.ofString "behind"), key := Value.str (Str.ofString "behind") 314, val := Value.ref 36 }] 13, #[]⟩
def kk_24 (P : Params) : Obj := ⟨Value.type "tuple", none, Data.seq #[Value.int (-1) 234, Value.int (-1) 236, Value.int (-1) 238, Value.int (-1) 240], #[]⟩
def kk_25 (P : Params) : Obj := ⟨Value.type "tuple", none, Data.seq #[Value.int (-1) 243, Value.int (-1) 245, Value.int 0 246, Value.int (-1) 248], #[]⟩
def kk_26 (P : Params) : Obj := ⟨Value.type "tuple", none, Data.seq #[Value.int (-1) 251, Value.int (-1) 253, Value.int 1 254, Value.int (-1) 256], #[]⟩
def kk_27 (P : Params) : Obj := ⟨Value.type "tuple", none, Data.seq #[Value.int 0 258, Value.int (-1) 260, Value.int 1 261, Value.int (-1) 263], #[]⟩
def kk_28 (P : Params) : Obj := ⟨Value.type "tuple", none, Data.seq #[Value.int 1 265, Value.int (-1) 267, Value.int 1 268, Value.int (-1) 270], #[]⟩
def kk_29 (P : Params) : Obj := ⟨Value.type "tuple", none, Data.seq #[Value.int 1 272, Value.int (-1) 274, Value.int 1 275, Value.int 0 276], #[]⟩
def kk_30 (P : Params) : Obj := ⟨Value.type "tuple", none, Data.seq #[Value.int 0 278, Value.int (-1) 280, Value.int 1 281, Value.int 0 282], #[]⟩
def kk_31 (P : Params) : Obj := ⟨Value.type "tuple", none, Data.seq #[Value.int (-1) 285, Value.int (-1) 287, Value.int 1 288, Value.int 0 289], #[]⟩
def kk_32 (P : Params) : Obj := ⟨Value.type "tuple", none, Data.seq #[Value.int (-1) 292, Value.int (-1) 294, Value.int 1 295, Value.int 1 296], #[]⟩
def kk_33 (P : Params) : Obj := ⟨Value.type "tuple", none, Data.seq #[Value.int 0 298, Value.int (-1) 300, Value.int 1 301, Value.int 1 302], #[]⟩
def kk_34 (P : Params) : Obj := ⟨Value.type "tuple", none, Data.seq #[Value.int 1 304, Value.int (-1) 306, Value.int 1 307, Value.int 1 308], #[]⟩
def kk_35 (P : Params) : Obj := ⟨Value.type "tuple", none, Data.seq #[Value.int 1 310, Value.int 0 311, Value.int 1 312, Value.int 1 313], #[]⟩
def kk_36 (P : Params) : Obj := ⟨Value.type "tuple", none, Data.seq #[Value.int 1 315, Value.int 1 316, Value.int 1 317, Value.int 1 318], #[]⟩
def kk_37 (P : Params) : Obj := ⟨Value.type "dict", none, Data.dict #[{ hash := PyData.keyHash P (Str.ofString "point"), key := Value.str (Str.ofString "point") 333, val := Value.int 1 334 }, { hash := PyData.keyHash P (Str.ofString "stretch"), key := Value.str (Str.ofString "stretch") 335, val := Value.int 2 336 }] 2, #[]⟩
def kk_43 (P : Params) : Obj := ⟨Value.type "code", none, Data.fields #[Value.str (Str.ofString "words_of") 340, Value.str (Str.ofString "words_of") 341, Value.str (Str.ofString "/claim/cut.py") 342, Value.int 6 0, Value.int 1 0, Value.int 0 0, Value.int 0 0, Value.int 3 0, Value.ref 38, Value.bool true, Value.int 181 0, Value.ref 39, Value.none, Value.ref 40, Value.ref 41, Value.ref 42, Value.int 344 0, Value.int 6 0, Value.str (Str.ofString "/claim/cut.py") 345], #[]⟩
def kk_44 (P : Params) : Obj := ⟨Value.type "function", none, .func (PySem.W.fnOf "words_of" "words_of" (defArgs s_words_of) (defBody s_words_of) (defScope s_words_of) (Value.none) (Value.none) (Value.none) (Value.str (Str.ofString "whens.words") 187) (none) (Value.ref 43) (Value.none)), #[]⟩
def kk_50 (P : Params) : Obj := ⟨Value.type "code", none, Data.fields #[Value.str (Str.ofString "ways_by") 347, Value.str (Str.ofString "ways_by") 348, Value.str (Str.ofString "/claim/cut.py") 349, Value.int 8 0, Value.int 2 0, Value.int 0 0, Value.int 0 0, Value.int 3 0, Value.ref 45, Value.bool true, Value.int 181 0, Value.ref 46, Value.none, Value.ref 47, Value.ref 48, Value.ref 49, Value.int 353 0, Value.int 8 0, Value.str (Str.ofString "/claim/cut.py") 354], #[]⟩
def kk_51 (P : Params) : Obj := ⟨Value.type "function", none, .func (PySem.W.fnOf "ways_by" "ways_by" (defArgs s_ways_by) (defBody s_ways_by) (defScope s_ways_by) (Value.none) (Value.none) (Value.none) (Value.str (Str.ofString "whens.words") 187) (none) (Value.ref 50) (Value.none)), #[]⟩
def kk_57 (P : Params) : Obj := ⟨Value.type "code", none, Data.fields #[Value.str (Str.ofString "forced_way") 358, Value.str (Str.ofString "forced_way") 359, Value.str (Str.ofString "/claim/cut.py") 360, Value.int 16 0, Value.int 2 0, Value.int 0 0, Value.int 0 0, Value.int 3 0, Value.ref 52, Value.bool true, Value.int 181 0, Value.ref 53, Value.none, Value.ref 54, Value.ref 55, Value.ref 56, Value.int 363 0, Value.int 16 0, Value.str (Str.ofString "/claim/cut.py") 364], #[]⟩
def kk_58 (P : Params) : Obj := ⟨Value.type "function", none, .func (PySem.W.fnOf "forced_way" "forced_way" (defArgs s_forced_way) (defBody s_forced_way) (defScope s_forced_way) (Value.none) (Value.none) (Value.none) (Value.str (Str.ofString "whens.behind") 356) (none) (Value.ref 57) (Value.none)), #[]⟩
def kk_64 (P : Params) : Obj := ⟨Value.type "code", none, Data.fields #[Value.str (Str.ofString "forced_by") 366, Value.str (Str.ofString "forced_by") 367, Value.str (Str.ofString "/claim/cut.py") 368, Value.int 22 0, Value.int 2 0, Value.int 0 0, Value.int 0 0, Value.int 3 0, Value.ref 59, Value.bool true, Value.int 181 0, Value.ref 60, Value.none, Value.ref 61, Value.ref 62, Value.ref 63, Value.int 374 0, Value.int 22 0, Value.str (Str.ofString "/claim/cut.py") 375], #[]⟩
def kk_65 (P : Params) : Obj := ⟨Value.type "function", none, .func (PySem.W.fnOf "forced_by" "forced_by" (defArgs s_forced_by) (defBody s_forced_by) (defScope s_forced_by) (Value.none) (Value.none) (Value.none) (Value.str (Str.ofString "whens.behind") 356) (none) (Value.ref 64) (Value.none)), #[]⟩
def kk_69 (P : Params) : Obj := ⟨Value.type "code", none, Data.fields #[Value.str (Str.ofString "forced_ways") 377, Value.str (Str.ofString "forced_ways") 378, Value.str (Str.ofString "/claim/cut.py") 379, Value.int 28 0, Value.int 3 0, Value.int 0 0, Value.int 0 0, Value.int 3 0, Value.ref 66, Value.bool true, Value.int 181 0, Value.ref 67, Value.none, Value.none, Value.none, Value.ref 68, Value.int 380 0, Value.int 28 0, Value.str (Str.ofString "/claim/cut.py") 381], #[]⟩
def kk_70 (P : Params) : Obj := ⟨Value.type "function", none, .func (PySem.W.fnOf "forced_ways" "forced_ways" (defArgs s_forced_ways) (defBody s_forced_ways) (defScope s_forced_ways) (Value.none) (Value.none) (Value.none) (Value.str (Str.ofString "whens.behind") 356) (none) (Value.ref 69) (Value.none)), #[]⟩
def kk_76 (P : Params) : Obj := ⟨Value.type "code", none, Data.fields #[Value.str (Str.ofString "go_with") 383, Value.str (Str.ofString "go_with") 384, Value.str (Str.ofString "/claim/cut.py") 385, Value.int 35 0, Value.int 2 0, Value.int 0 0, Value.int 0 0, Value.int 3 0, Value.ref 71, Value.bool true, Value.int 181 0, Value.ref 72, Value.none, Value.ref 73, Value.ref 74, Value.ref 75, Value.int 390 0, Value.int 35 0, Value.str (Str.ofString "/claim/cut.py") 391], #[]⟩
def kk_77 (P : Params) : Obj := ⟨Value.type "function", none, .func (PySem.W.fnOf "go_with" "go_with" (defArgs s_go_with) (defBody s_go_with) (defScope s_go_with) (Value.none) (Value.none) (Value.none) (Value.str (Str.ofString "whens.behind") 356) (none) (Value.ref 76) (Value.none)), #[]⟩
def kk_81 (P : Params) : Obj := ⟨Value.type "code", none, Data.fields #[Value.str (Str.ofString "behind_words") 393, Value.str (Str.ofString "behind_words") 394, Value.str (Str.ofString "/claim/cut.py") 395, Value.int 40 0, Value.int 3 0, Value.int 0 0, Value.int 0 0, Value.int 3 0, Value.ref 78, Value.bool true, Value.int 181 0, Value.ref 79, Value.none, Value.none, Value.none, Value.ref 80, Value.int 396 0, Value.int 40 0, Value.str (Str.ofString "/claim/cut.py") 397], #[]⟩
def kk_82 (P : Params) : Obj := ⟨Value.type "function", none, .func (PySem.W.fnOf "behind_words" "behind_words" (defArgs s_behind_words) (defBody s_behind_words) (defScope s_behind_words) (Value.none) (Value.none) (Value.none) (Value.str (Str.ofString "whens.behind") 356) (none) (Value.ref 81) (Value.none)), #[]⟩
def kk_95 (P : Params) : Obj := ⟨Value.type "code", none, Data.fields #[Value.str (Str.ofString "__init__") 411, Value.str (Str.ofString "Behinds.__init__") 412, Value.str (Str.ofString "/claim/cut.py") 413, Value.int 47 0, Value.int 1 0, Value.int 0 0, Value.int 0 0, Value.int 3 0, Value.ref 90, Value.bool true, Value.int 181 0, Value.ref 91, Value.none, Value.ref 92, Value.ref 93, Value.ref 94, Value.int 415 0, Value.int 47 0, Value.str (Str.ofString "/claim/cut.py") 416], #[]⟩
def kk_96 (P : Params) : Obj := ⟨Value.type "function", none, .func (PySem.W.fnOf "__init__" "Behinds.__init__" (defArgs s_Behinds___init__) (defBody s_Behinds___init__) (defScope s_Behinds___init__) (Value.none) (Value.none) (Value.none) (Value.str (Str.ofString "whens.behind") 356) (none) (Value.ref 95) (Value.none)), #[]⟩
def kk_102 (P : Params) : Obj := ⟨Value.type "code", none, Data.fields #[Value.str (Str.ofString "words") 418, Value.str (Str.ofString "Behinds.words") 419, Value.str (Str.ofString "/claim/cut.py") 420, Value.int 51 0, Value.int 4 0, Value.int 0 0, Value.int 0 0, Value.int 3 0, Value.ref 97, Value.bool true, Value.int 181 0, Value.ref 98, Value.none, Value.ref 99, Value.ref 100, Value.ref 101, Value.int 426 0, Value.int 51 0, Value.str (Str.ofString "/claim/cut.py") 427], #[]⟩
def kk_103 (P : Params) : Obj := ⟨Value.type "function", none, .func (PySem.W.fnOf "words" "Behinds.words" (defArgs s_Behinds_words) (defBody s_Behinds_words) (defScope s_Behinds_words) (Value.none) (Value.none) (Value.none) (Value.str (Str.ofString "whens.behind") 356) (none) (Value.ref 102) (Value.none)), #[]⟩
def kk_114 (P : Params) : Obj := ⟨Value.type "code", none, Data.fields #[Value.str (Str.ofString "gathered") 440, Value.str (Str.ofString "Behinds.gathered") 441, Value.str (Str.ofString "/claim/cut.py") 442, Value.int 63 0, Value.int 4 0, Value.int 0 0, Value.int 0 0, Value.int 3 0, Value.ref 111, Value.bool true, Value.int 181 0, Value.ref 112, Value.none, Value.none, Value.none, Value.ref 113, Value.int 443 0, Value.int 63 0, Value.str (Str.ofString "/claim/cut.py") 444], #[]⟩
def kk_115 (P : Params) : Obj := ⟨Value.type "function", none, .func (PySem.W.fnOf "gathered" "Behinds.gathered" (defArgs s_Behinds_gathered) (defBody s_Behinds_gathered) (defScope s_Behinds_gathered) (Value.none) (Value.none) (Value.none) (Value.str (Str.ofString "whens.behind") 356) (none) (Value.ref 114) (Value.none)), #[]⟩
def kk_116 (P : Params) : Obj := ⟨Value.type "tuple", none, Data.seq #[Value.str (Str.ofString "by_mays") 446, Value.str (Str.ofString "by_words") 447], #[]⟩
def kk_117 (P : Params) : Obj := ⟨Value.type "dict", none, Data.dict #[{ hash := PyData.keyHash P (Str.ofString "__module__"), key := Value.str (Str.ofString "__module__") 406, val := Value.str (Str.ofString "whens.behind") 356 }, { hash := PyData.keyHash P (Str.ofString "__firstlineno__"), key := Value.str (Str.ofString "__firstlineno__") 410, val := Value.int 45 409 }, { hash := PyData.keyHash P (Str.ofString "__init__"), key := Value.str (Str.ofString "__init__") 417, val := Value.ref 96 }, { hash := PyData.keyHash P (Str.ofString "words"), key := Value.str (Str.ofString "words") 428, val := Value.ref 103 }, { hash := PyData.keyHash P (Str.ofString "mays"), key := Value.str (Str.ofString "mays") 439, val := Value.ref 110 }, { hash := PyData.keyHash P (Str.ofString "gathered"), key := Value.str (Str.ofString "gathered") 445, val := Value.ref 115 }, { hash := PyData.keyHash P (Str.ofString "__static_attributes__"), key := Value.str (Str.ofString "__static_attributes__") 448, val := Value.ref 116 }, { hash := PyData.keyHash P (Str.ofString "__dict__"), key := Value.str (Str.ofString "__dict__") 450, val := Value.ref 119 }, { hash := PyData.keyHash P (Str.ofString "__weakref__"), key := Value.str (Str.ofString "__weakref__") 452, val := Value.ref 120 }, { hash := PyData.keyHash P (Str.ofString "__doc__"), key := Value.str (Str.ofString "__doc__") 453, val := Value.none }] 4, #[]⟩
def kk_118 (P : Params) : Obj := ⟨Value.type "type", none, Data.cls { name := Str.ofString "Behinds", bases := [Value.type "object"], mro := [Value.ref 118, Value.type "object"], ns := 117, qualname := Str.ofString "Behinds" }, #[none, none, some (Value.str (Str.ofString "Behinds") 399), some (Value.str (Str.ofString "Behinds") 407), some (Value.builtin "object.__new__"), some (Value.bool true)]⟩
def kk_119 (P : Params) : Obj := ⟨Value.type "getset_descriptor", none, Data.fields #[Value.str (Str.ofString "__dict__") 449, Value.ref 118, Value.builtin "function.__dict__", Value.builtin "function.__dict__#set"], #[]⟩
def kk_120 (P : Params) : Obj := ⟨Value.type "getset_descriptor", none, Data.fields #[Value.str (Str.ofString "__weakref__") 451, Value.ref 118, Value.builtin "ExceptionGroup.__weakref__", Value.none], #[]⟩
def kk_128 (P : Params) : Obj := ⟨Value.type "code", none, Data.fields #[Value.str (Str.ofString "behind_mays") 456, Value.str (Str.ofString "behind_mays") 457, Value.str (Str.ofString "/claim/cut.py") 458, Value.int 73 0, Value.int 3 0, Value.int 0 0, Value.int 0 0, Value.int 3 0, Value.ref 123, Value.bool true, Value.int 181 0, Value.ref 124, Value.none, Value.ref 125, Value.ref 126, Value.ref 127, Value.int 462 0, Value.int 73 0, Value.str (Str.ofString "/claim/cut.py") 463], #[]⟩
def kk_129 (P : Params) : Obj := ⟨Value.type "function", none, .func (PySem.W.fnOf "behind_mays" "behind_mays" (defArgs s_behind_mays) (defBody s_behind_mays) (defScope s_behind_mays) (Value.none) (Value.none) (Value.none) (Value.str (Str.ofString "whens.behind") 356) (none) (Value.ref 128) (Value.none)), #[]⟩
def kk_135 (P : Params) : Obj := ⟨Value.type "code", none, Data.fields #[Value.str (Str.ofString "_law_feed") 467, Value.str (Str.ofString "_law_feed") 468, Value.str (Str.ofString "/claim/cut.py") 469, Value.int 76 0, Value.int 2 0, Value.int 0 0, Value.int 0 0, Value.int 3 0, Value.ref 130, Value.bool true, Value.int 181 0, Value.ref 131, Value.none, Value.ref 132, Value.ref 133, Value.ref 134, Value.int 473 0, Value.int 76 0, Value.str (Str.ofString "/claim/cut.py") 474], #[]⟩
def kk_136 (P : Params) : Obj := ⟨Value.type "function", none, .func (PySem.W.fnOf "_law_feed" "_law_feed" (defArgs s__law_feed) (defBody s__law_feed) (defScope s__law_feed) (Value.none) (Value.none) (Value.none) (Value.str (Str.ofString "law_whens_k07_mays_behind_mays") 465) (none) (Value.ref 135) (Value.none)), #[]⟩
def kk_142 (P : Params) : Obj := ⟨Value.type "code", none, Data.fields #[Value.str (Str.ofString "_law_draw") 476, Value.str (Str.ofString "_law_draw") 477, Value.str (Str.ofString "/claim/cut.py") 478, Value.int 81 0, Value.int 2 0, Value.int 0 0, Value.int 0 0, Value.int 3 0, Value.ref 137, Value.bool true, Value.int 181 0, Value.ref 138, Value.none, Value.ref 139, Value.ref 140, Value.ref 141, Value.int 483 0, Value.int 81 0, Value.str (Str.ofString "/claim/cut.py") 484], #[]⟩
def kk_143 (P : Params) : Obj := ⟨Value.type "function", none, .func (PySem.W.fnOf "_law_draw" "_law_draw" (defArgs s__law_draw) (defBody s__law_draw) (defScope s__law_draw) (Value.none) (Value.none) (Value.none) (Value.str (Str.ofString "law_whens_k07_mays_behind_mays") 465) (none) (Value.ref 142) (Value.none)), #[]⟩
def kk_149 (P : Params) : Obj := ⟨Value.type "code", none, Data.fields #[Value.str (Str.ofString "_law_stand") 486, Value.str (Str.ofString "_law_stand") 487, Value.str (Str.ofString "/claim/cut.py") 488, Value.int 91 0, Value.int 2 0, Value.int 0 0, Value.int 0 0, Value.int 3 0, Value.ref 144, Value.bool true, Value.int 181 0, Value.ref 145, Value.none, Value.ref 146, Value.ref 147, Value.ref 148, Value.int 492 0, Value.int 91 0, Value.str (Str.ofString "/claim/cut.py") 493], #[]⟩
def kk_150 (P : Params) : Obj := ⟨Value.type "function", none, .func (PySem.W.fnOf "_law_stand" "_law_stand" (defArgs s__law_stand) (defBody s__law_stand) (defScope s__law_stand) (Value.none) (Value.none) (Value.none) (Value.str (Str.ofString "law_whens_k07_mays_behind_mays") 465) (none) (Value.ref 149) (Value.none)), #[]⟩
def kk_156 (P : Params) : Obj := ⟨Value.type "code", none, Data.fields #[Value.str (Str.ofString "_law_word") 495, Value.str (Str.ofString "_law_word") 496, Value.str (Str.ofString "/claim/cut.py") 497, Value.int 94 0, Value.int 2 0, Value.int 0 0, Value.int 0 0, Value.int 3 0, Value.ref 151, Value.bool true, Value.int 181 0, Value.ref 152, Value.none, Value.ref 153, Value.ref 154, Value.ref 155, Value.int 504 0, Value.int 94 0, Value.str (Str.ofString "/claim/cut.py") 505], #[]⟩
def kk_157 (P : Params) : Obj := ⟨Value.type "function", none, .func (PySem.W.fnOf "_law_word" "_law_word" (defArgs s__law_word) (defBody s__law_word) (defScope s__law_word) (Value.none) (Value.none) (Value.none) (Value.str (Str.ofString "law_whens_k07_mays_behind_mays") 465) (none) (Value.ref 156) (Value.none)), #[]⟩
def kk_163 (P : Params) : Obj := ⟨Value.type "code", none, Data.fields #[Value.str (Str.ofString "_law_words") 507, Value.str (Str.ofString "_law_words") 508, Value.str (Str.ofString "/claim/cut.py") 509, Value.int 108 0, Value.int 1 0, Value.int 0 0, Value.int 0 0, Value.int 3 0, Value.ref 158, Value.bool true, Value.int 181 0, Value.ref 159, Value.none, Value.ref 160, Value.ref 161, Value.ref 162, Value.int 512 0, Value.int 108 0, Value.str (Str.ofString "/claim/cut.py") 513], #[]⟩
def kk_164 (P : Params) : Obj := ⟨Value.type "function", none, .func (PySem.W.fnOf "_law_words" "_law_words" (defArgs s__law_words) (defBody s__law_words) (defScope s__law_words) (Value.none) (Value.none) (Value.none) (Value.str (Str.ofString "law_whens_k07_mays_behind_mays") 465) (none) (Value.ref 163) (Value.none)), #[]⟩
def kk_168 (P : Params) : Obj := ⟨Value.type "code", none, Data.fields #[Value.str (Str.ofString "_law_kinds") 515, Value.str (Str.ofString "_law_kinds") 516, Value.str (Str.ofString "/claim/cut.py") 517, Value.int 117 0, Value.int 2 0, Value.int 0 0, Value.int 0 0, Value.int 3 0, Value.ref 165, Value.bool true, Value.int 181 0, Value.ref 166, Value.none, Value.none, Value.none, Value.ref 167, Value.int 518 0, Value.int 117 0, Value.str (Str.ofString "/claim/cut.py") 519], #[]⟩
def kk_169 (P : Params) : Obj := ⟨Value.type "function", none, .func (PySem.W.fnOf "_law_kinds" "_law_kinds" (defArgs s__law_kinds) (defBody s__law_kinds) (defScope s__law_kinds) (Value.none) (Value.none) (Value.none) (Value.str (Str.ofString "law_whens_k07_mays_behind_mays") 465) (none) (Value.ref 168) (Value.none)), #[]⟩
def kk_173 (P : Params) : Obj := ⟨Value.type "code", none, Data.fields #[Value.str (Str.ofString "_law_may") 521, Value.str (Str.ofString "_law_may") 522, Value.str (Str.ofString "/claim/cut.py") 523, Value.int 122 0, Value.int 2 0, Value.int 0 0, Value.int 0 0, Value.int 3 0, Value.ref 170, Value.bool true, Value.int 181 0, Value.ref 171, Value.none, Value.none, Value.none, Value.ref 172, Value.int 524 0, Value.int 122 0, Value.str (Str.ofString "/claim/cut.py") 525], #[]⟩
def kk_174 (P : Params) : Obj := ⟨Value.type "function", none, .func (PySem.W.fnOf "_law_may" "_law_may" (defArgs s__law_may) (defBody s__law_may) (defScope s__law_may) (Value.none) (Value.none) (Value.none) (Value.str (Str.ofString "law_whens_k07_mays_behind_mays") 465) (none) (Value.ref 173) (Value.none)), #[]⟩
def kk_178 (P : Params) : Obj := ⟨Value.type "code", none, Data.fields #[Value.str (Str.ofString "_law_grid") 527, Value.str (Str.ofString "_law_grid") 528, Value.str (Str.ofString "/claim/cut.py") 529, Value.int 132 0, Value.int 2 0, Value.int 0 0, Value.int 0 0, Value.int 3 0, Value.ref 175, Value.bool true, Value.int 181 0, Value.ref 176, Value.none, Value.none, Value.none, Value.ref 177, Value.int 530 0, Value.int 132 0, Value.str (Str.ofString "/claim/cut.py") 531], #[]⟩
def kk_179 (P : Params) : Obj := ⟨Value.type "function", none, .func (PySem.W.fnOf "_law_grid" "_law_grid" (defArgs s__law_grid) (defBody s__law_grid) (defScope s__law_grid) (Value.none) (Value.none) (Value.none) (Value.str (Str.ofString "law_whens_k07_mays_behind_mays") 465) (none) (Value.ref 178) (Value.none)), #[]⟩
def kk_183 (P : Params) : Obj := ⟨Value.type "code", none, Data.fields #[Value.str (Str.ofString "_law_reached") 533, Value.str (Str.ofString "_law_reached") 534, Value.str (Str.ofString "/claim/cut.py") 535, Value.int 139 0, Value.int 3 0, Value.int 0 0, Value.int 0 0, Value.int 3 0, Value.ref 180, Value.bool true, Value.int 181 0, Value.ref 181, Value.none, Value.none, Value.none, Value.ref 182, Value.int 536 0, Value.int 139 0, Value.str (Str.ofString "/claim/cut.py") 537], #[]⟩
def kk_184 (P : Params) : Obj := ⟨Value.type "function", none, .func (PySem.W.fnOf "_law_reached" "_law_reached" (defArgs s__law_reached) (defBody s__law_reached) (defScope s__law_reached) (Value.none) (Value.none) (Value.none) (Value.str (Str.ofString "law_whens_k07_mays_behind_mays") 465) (none) (Value.ref 183) (Value.none)), #[]⟩
def kk_190 (P : Params) : Obj := ⟨Value.type "code", none, Data.fields #[Value.str (Str.ofString "law") 539, Value.str (Str.ofString "law") 540, Value.str (Str.ofString "/claim/cut.py") 541, Value.int 151 0, Value.int 1 0, Value.int 0 0, Value.int 0 0, Value.int 3 0, Value.ref 185, Value.bool true, Value.int 181 0, Value.ref 186, Value.none, Value.ref 187, Value.ref 188, Value.ref 189, Value.int 548 0, Value.int 151 0, Value.str (Str.ofString "/claim/cut.py") 549], #[]⟩
def kk_191 (P : Params) : Obj := ⟨Value.type "function", none, .func (PySem.W.fnOf "law" "law" (defArgs s_law) (defBody s_law) (defScope s_law) (Value.none) (Value.none) (Value.none) (Value.str (Str.ofString "law_whens_k07_mays_behind_mays") 465) (none) (Value.ref 190) (Value.none)), #[]⟩
def kk (P : Params) : PySem.W.Frag := [(3, kk_3 P), (15, kk_15 P), (16, kk_16 P), (17, kk_17 P), (18, kk_18 P), (19, kk_19 P), (20, kk_20 P), (21, kk_21 P), (22, kk_22 P), (23, kk_23 P), (24, kk_24 P), (25, kk_25 P), (26, kk_26 P), (27, kk_27 P), (28, kk_28 P), (29, kk_29 P), (30, kk_30 P), (31, kk_31 P), (32, kk_32 P), (33, kk_33 P), (34, kk_34 P), (35, kk_35 P), (36, kk_36 P), (37, kk_37 P), (43, kk_43 P), (44, kk_44 P), (50, kk_50 P), (51, kk_51 P), (57, kk_57 P), (58, kk_58 P), (64, kk_64 P), (65, kk_65 P), (69, kk_69 P), (70, kk_70 P), (76, kk_76 P), (77, kk_77 P), (81, kk_81 P), (82, kk_82 P), (95, kk_95 P), (96, kk_96 P), (102, kk_102 P), (103, kk_103 P), (114, kk_114 P), (115, kk_115 P), (116, kk_116 P), (117, kk_117 P), (118, kk_118 P), (119, kk_119 P), (120, kk_120 P), (128, kk_128 P), (129, kk_129 P), (135, kk_135 P), (136, kk_136 P), (142, kk_142 P), (143, kk_143 P), (149, kk_149 P), (150, kk_150 P), (156, kk_156 P), (157, kk_157 P), (163, kk_163 P), (164, kk_164 P), (168, kk_168 P), (169, kk_169 P), (173, kk_173 P), (174, kk_174 P), (178, kk_178 P), (179, kk_179 P), (183, kk_183 P), (184, kk_184 P), (190, kk_190 P), (191, kk_191 P)]
end K07
open PySem PySem.W PyProof.Rows
set_option maxRecDepth 100000 in
set_option maxHeartbeats 0 in
theorem PySem.Challenge.cw_whens_k07_mays_behind_mays_holds : PySem.Challenge.rw_whens_k07_mays_behind_mays.Holds := by
  w_on; o_law; refine H07.head (H := kHook K07.kk [3, 15, 16, 17, 18, 19, 20, 21, 22, 23, 24, 25, 26, 27, 28, 29, 30, 31, 32, 33, 34, 35, 36, 37, 43, 44, 50, 51, 57, 58, 64, 65, 69, 70, 76, 77, 81, 82, 95, 96, 102, 103, 114, 115, 116, 117, 118, 119, 120, 128, 129, 135, 136, 142, 143, 149, 150, 156, 157, 163, 164, 168, 169, 173, 174, 178, 179, 183, 184, 190, 191] (fun _ => by kernel_rfl)) (fun w os => by kernel_rfl) (by assumption) (by rfl) (by rfl) (by rfl) ?hw ?hc; (case hw => w_witness2)
  k_fill
  refine K07.walk (l := PySem.Challenge.rw_whens_k07_mays_behind_mays) rfl rfl (fun w h Y => PySem.W.kIn_of Y) ?F
  case F =>
    intro w mg fa h KX G hmg
    refine' K07.all_mk (C_Behinds := 118) (f_words_of := 44) (f_ways_by := 51) (f_forced_way := 58) (f_forced_by := 65) (f_forced_ways := 70) (f_go_with := 77) (f_behind_words := 82) (f_Behinds___init__ := 96) (f_Behinds_words := 103) (f_Behinds_gathered := 115) (f_behind_mays := 129) (f__law_feed := 136) (f__law_draw := 143) (f__law_stand := 150) (f__law_word := 157) (f__law_words := 164) (f__law_kinds := 169) (f__law_may := 174) (f__law_grid := 179) (f__law_reached := 184) (f_law := 191) (c_POINT_WORDS := 16) (c_ORDER := 15) (c_WAYS := 23) (c_END_COUNTS := 37) KX G hmg ?g_Behinds ?pg_Behinds ?hd_Behinds ?po_Behinds ?sa_Behinds ?mk_Behinds ?kc_Behinds ?n_Behinds_by_words ?n_Behinds_by_mays ?a0 ?l0 ?c0 ?k0 ?a1 ?l1 ?c1 ?k1 ?a2 ?l2 ?c2 ?k2 ?a3 ?l3 ?c3 ?k3 ?a4 ?l4 ?c4 ?k4 ?a5 ?l5 ?c5 ?k5 ?a6 ?l6 ?c6 ?k6 ?a7 ?l7 ?c7 ?k7 ?i7 ?a8 ?l8 ?c8 ?k8 ?i8 ?a9 ?l9 ?c9 ?k9 ?i9 ?a10 ?l10 ?c10 ?k10 ?a11 ?l11 ?c11 ?k11 ?a12 ?l12 ?c12 ?k12 ?a13 ?l13 ?c13 ?k13 ?a14 ?l14 ?c14 ?k14 ?a15 ?l15 ?c15 ?k15 ?a16 ?l16 ?c16 ?k16 ?a17 ?l17 ?c17 ?k17 ?a18 ?l18 ?c18 ?k18 ?a19 ?l19 ?c19 ?k19 ?a20 ?l20 ?c20 ?k20 ?a_WAYS ?l_WAYS ?l_WAYS_0 ?l_WAYS_1 ?l_WAYS_2 ?l_WAYS_3 ?l_WAYS_4 ?l_WAYS_5 ?l_WAYS_6 ?l_WAYS_7 ?l_WAYS_8 ?l_WAYS_9 ?l_WAYS_10 ?l_WAYS_11 ?l_WAYS_12 ?y_WAYS ?a_END_COUNTS ?l_END_COUNTS ?y_END_COUNTS ?a_POINT_WORDS ?l_POINT_WORDS ?lk_POINT_WORDS_0 ?lr_POINT_WORDS_0 ?lk_POINT_WORDS_1 ?lr_POINT_WORDS_1 ?lk_POINT_WORDS_2 ?lr_POINT_WORDS_2 ?y_POINT_WORDS ?a_ORDER ?l_ORDER ?z_zip ?z_range ?z_tuple ?z_len ?z_max ?z_int ?z_isinstance ?z_list ?z_repr
    (case g_Behinds => kernel_rfl)
    (case pg_Behinds => kernel_rfl)
    (case hd_Behinds => kernel_rfl)
    (case po_Behinds => kernel_rfl)
    (case sa_Behinds => kernel_rfl)
    (case mk_Behinds => kernel_rfl)
    (case kc_Behinds => kernel_rfl)
    (case n_Behinds_by_words => kernel_rfl)
    (case n_Behinds_by_mays => kernel_rfl)
    (case a0 => kernel_rfl)
    (case l0 => exact rfl)
    (case c0 => kernel_rfl)
    (case k0 => kernel_rfl)
    (case a1 => kernel_rfl)
    (case l1 => exact rfl)
    (case c1 => kernel_rfl)
    (case k1 => kernel_rfl)
    (case a2 => kernel_rfl)
    (case l2 => exact rfl)
    (case c2 => kernel_rfl)
    (case k2 => kernel_rfl)
    (case a3 => kernel_rfl)
    (case l3 => exact rfl)
    (case c3 => kernel_rfl)
    (case k3 => kernel_rfl)
    (case a4 => kernel_rfl)
    (case l4 => exact rfl)
    (case c4 => kernel_rfl)
    (case k4 => kernel_rfl)
    (case a5 => kernel_rfl)
    (case l5 => exact rfl)
    (case c5 => kernel_rfl)
    (case k5 => kernel_rfl)
    (case a6 => kernel_rfl)
    (case l6 => exact rfl)
    (case c6 => kernel_rfl)
    (case k6 => kernel_rfl)
    (case a7 => kernel_rfl)
    (case l7 => exact rfl)
    (case c7 => kernel_rfl)
    (case k7 => kernel_rfl)
    (case i7 => kernel_rfl)
    (case a8 => kernel_rfl)
    (case l8 => exact rfl)
    (case c8 => kernel_rfl)
    (case k8 => kernel_rfl)
    (case i8 => kernel_rfl)
    (case a9 => kernel_rfl)
    (case l9 => exact rfl)
    (case c9 => kernel_rfl)
    (case k9 => kernel_rfl)
    (case i9 => kernel_rfl)
    (case a10 => kernel_rfl)
    (case l10 => exact rfl)
    (case c10 => kernel_rfl)
    (case k10 => kernel_rfl)
    (case a11 => kernel_rfl)
    (case l11 => exact rfl)
    (case c11 => kernel_rfl)
    (case k11 => kernel_rfl)
    (case a12 => kernel_rfl)
    (case l12 => exact rfl)
    (case c12 => kernel_rfl)
    (case k12 => kernel_rfl)
    (case a13 => kernel_rfl)
    (case l13 => exact rfl)
    (case c13 => kernel_rfl)
    (case k13 => kernel_rfl)
    (case a14 => kernel_rfl)
    (case l14 => exact rfl)
    (case c14 => kernel_rfl)
    (case k14 => kernel_rfl)
    (case a15 => kernel_rfl)
    (case l15 => exact rfl)
    (case c15 => kernel_rfl)
    (case k15 => kernel_rfl)
    (case a16 => kernel_rfl)
    (case l16 => exact rfl)
    (case c16 => kernel_rfl)
    (case k16 => kernel_rfl)
    (case a17 => kernel_rfl)
    (case l17 => exact rfl)
    (case c17 => kernel_rfl)
    (case k17 => kernel_rfl)
    (case a18 => kernel_rfl)
    (case l18 => exact rfl)
    (case c18 => kernel_rfl)
    (case k18 => kernel_rfl)
    (case a19 => kernel_rfl)
    (case l19 => exact rfl)
    (case c19 => kernel_rfl)
    (case k19 => kernel_rfl)
    (case a20 => kernel_rfl)
    (case l20 => exact rfl)
    (case c20 => kernel_rfl)
    (case k20 => kernel_rfl)
    (case a_WAYS => kernel_rfl)
    (case l_WAYS => exact rfl)
    (case l_WAYS_0 => exact rfl)
    (case l_WAYS_1 => exact rfl)
    (case l_WAYS_2 => exact rfl)
    (case l_WAYS_3 => exact rfl)
    (case l_WAYS_4 => exact rfl)
    (case l_WAYS_5 => exact rfl)
    (case l_WAYS_6 => exact rfl)
    (case l_WAYS_7 => exact rfl)
    (case l_WAYS_8 => exact rfl)
    (case l_WAYS_9 => exact rfl)
    (case l_WAYS_10 => exact rfl)
    (case l_WAYS_11 => exact rfl)
    (case l_WAYS_12 => exact rfl)
    (case y_WAYS => rfl)
    (case a_END_COUNTS => kernel_rfl)
    (case l_END_COUNTS => exact rfl)
    (case y_END_COUNTS => rfl)
    (case a_POINT_WORDS => kernel_rfl)
    (case l_POINT_WORDS => exact rfl)
    (case lk_POINT_WORDS_0 => exact rfl)
    (case lr_POINT_WORDS_0 => exact rfl)
    (case lk_POINT_WORDS_1 => exact rfl)
    (case lr_POINT_WORDS_1 => exact rfl)
    (case lk_POINT_WORDS_2 => exact rfl)
    (case lr_POINT_WORDS_2 => exact rfl)
    (case y_POINT_WORDS => rfl)
    (case a_ORDER => kernel_rfl)
    (case l_ORDER => exact rfl)
    (case z_zip => kernel_rfl)
    (case z_range => kernel_rfl)
    (case z_tuple => kernel_rfl)
    (case z_len => kernel_rfl)
    (case z_max => kernel_rfl)
    (case z_int => kernel_rfl)
    (case z_isinstance => kernel_rfl)
    (case z_list => kernel_rfl)
    (case z_repr => kernel_rfl)
#print axioms PySem.Challenge.cw_whens_k07_mays_behind_mays_holds
