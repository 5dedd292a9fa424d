import PyProof.Rows.All
import Wide.All
import OpenK.AllK
import Wide.FinOn
import Lean
import PyProof.EqAt
import PyProof.EqKinds
import PyProof.TupleCall
import PyProof.ListMulRoad
import KE.KRevIter
import PyProof.ZipIter
import PyProof.TupleIter
import PyProof.Rows.SortWalk
import PyProof.Rows.SortStr
import PyProof.Rows.StrWeight2
import PyProof.ConsumeWalk
import PyProof.SliceStr2
import PyProof.ListRange
import PyProof.TupleOfSeq
import PyProof.P3In
import PyProof.AttrMissHeap
import KE.KDictOf
import PyProof.StrBlockI
import PyProof.WalksEnum
import PyProof.EnumMake
import PyProof.DictWalks
import PyProof.SetRoads
import PyProof.SetNew
import PyProof.Rows.SetFrom
import PyProof.CollectWalk
import PyProof.StrWalks
import PyProof.FString5
import PyProof.Rows.SortShell
import PyProof.SeqI3
import PyProof.SliceList
import PySem.Challenge.RW_whens_k37_signs_of_mays
set_option Elab.async false
set_option linter.all false
set_option maxRecDepth 100000
set_option maxHeartbeats 4000000
set_option Elab.async false
set_option linter.all false
set_option maxRecDepth 100000
namespace L2
open PySem PySem.Spec PyProof.Rows
noncomputable instance decPy : DecidableEq PyData := fun _ _ => Classical.propDecidable _
mutual
/-- what may stand in a key: ints, texts, tuples of these -/
def isK : PyData → Bool
  | .int _ => true
  | .str x => PyData.strOk x
  | .tuple xs => isKs xs
  | .none | .bool _ | .list _ | .dict _ => false
def isKs : List PyData → Bool
  | [] => true
  | x :: xs => isK x && isKs xs
end
mutual
def hashK (w : World) : PyData → Int
  | .int i => hashInt i
  | .str x => hashStr w x
  | .tuple xs => reduceHash (Builtin.Tuple.tupleHashOf (hashKs w xs))
  | .none | .bool _ | .list _ | .dict _ => 0
def hashKs (w : World) : List PyData → List Int
  | [] => []
  | x :: xs => hashK w x :: hashKs w xs
end
mutual
def drawsK : PyData → Nat
  | .int _ | .str _ => 1
  | .tuple xs => drawsKs xs + 1
  | .none | .bool _ | .list _ | .dict _ => 0
def drawsKs : List PyData → Nat
  | [] => 0
  | x :: xs => drawsK x + drawsKs xs
end
mutual
theorem isK_lay : ∀ p : PyData, isK p = true → p.canLay0 = true
  | .int _, _ => rfl
  | .str _, h => h
  | .tuple xs, h => isKs_lay xs h
  | .none, h | .bool _, h | .list _, h | .dict _, h => by simp [isK] at h
theorem isKs_lay : ∀ ps : List PyData, isKs ps = true → PyData.canLayAll0 ps = true
  | [], _ => rfl
  | x :: xs, h => by
    simp only [isKs, Bool.and_eq_true] at h
    simp only [PyData.canLayAll0, isK_lay x h.1, isKs_lay xs h.2, Bool.and_self]
end
mutual
theorem isK_eqv : ∀ p q : PyData, isK p = true → isK q = true → p.eqv q = decide (p = q)
  | .int i, .int j, _, _ => by
    simp only [PyData.eqv, PyData.int.injEq]
    exact Bool.eq_iff_iff.mpr (by simp)
  | .str x, .str y, _, _ => by
    simp only [PyData.eqv, PyData.str.injEq]
    exact Bool.eq_iff_iff.mpr (by simp)
  | .tuple xs, .tuple ys, h, h' => by
    have e := isKs_eqv xs ys h h'
    simp only [PyData.eqv, PyData.tuple.injEq]
    exact e
  | .int i, .str y, _, _ | .str y, .int i, _, _ | .int i, .tuple y, _, _ | .tuple y, .int i, _, _ | .str i, .tuple y, _, _ | .tuple y, .str i, _, _ => by
    simp only [PyData.eqv]
    exact (decide_eq_false (fun e => nomatch e)).symm
  | .none, _, h, _ | .bool _, _, h, _ | .list _, _, h, _ | .dict _, _, h, _ => by simp [isK] at h
  | .int _, .none, _, h | .int _, .bool _, _, h | .int _, .list _, _, h | .int _, .dict _, _, h => by simp [isK] at h
  | .str _, .none, _, h | .str _, .bool _, _, h | .str _, .list _, _, h | .str _, .dict _, _, h => by simp [isK] at h
  | .tuple _, .none, _, h | .tuple _, .bool _, _, h | .tuple _, .list _, _, h | .tuple _, .dict _, _, h => by simp [isK] at h
theorem isKs_eqv : ∀ p q : List PyData, isKs p = true → isKs q = true → PyData.eqvAll p q = decide (p = q)
  | [], [], _, _ => by simp [PyData.eqvAll]
  | [], _ :: _, _, _ => by simp [PyData.eqvAll]
  | _ :: _, [], _, _ => by simp [PyData.eqvAll]
  | x :: xs, y :: ys, h, h' => by
    simp only [isKs, Bool.and_eq_true] at h h'
    simp only [PyData.eqvAll, isK_eqv x y h.1 h'.1, isKs_eqv xs ys h.2 h'.2, List.cons.injEq]
    exact (Bool.decide_and _ _).symm
end
mutual
/-- a key stays while only a dict is written -/
theorem reads_keep {h h' : Heap} {d : Addr} {o : Obj} {es ep} (ho : h.get? d = some o) (hd : o.data = .dict es ep) (hs : Heap.SameBut d h h') :
    ∀ (p : PyData) (v : Value) (as : List Addr), isK p = true → Reads h v p as → Reads h' v p as
  | .int _, _, _, _, r => by cases r; exact .int _ _
  | .str _, _, _, _, r => by cases r; exact .str _ _
  | .tuple xs, _, _, hk, r => by
    cases r with
    | tuple h1 h2 h3 h4 =>
      rename_i a ob vs n
      have hne : a ≠ d := by
        rintro rfl
        obtain rfl : ob = o := Option.some.inj (h1.symm.trans ho)
        rw [hd] at h3; exact nomatch h3
      exact .tuple ((hs.2 _ hne).trans h1) h2 h3 (readsAll_keep ho hd hs xs _ _ hk h4)
  | .none, _, _, h, _ | .bool _, _, _, h, _ | .list _, _, _, h, _ | .dict _, _, _, h, _ => by simp [isK] at h
theorem readsAll_keep {h h' : Heap} {d : Addr} {o : Obj} {es ep} (ho : h.get? d = some o) (hd : o.data = .dict es ep) (hs : Heap.SameBut d h h') :
    ∀ (ps : List PyData) (vs : List Value) (as : List Addr), isKs ps = true → ReadsAll h vs ps as → ReadsAll h' vs ps as
  | [], _, _, _, r => by cases r; exact .nil
  | x :: xs, _, _, hk, r => by
    simp only [isKs, Bool.and_eq_true] at hk
    cases r with
    | cons r1 r2 => exact .cons (reads_keep ho hd hs x _ _ hk.1 r1) (readsAll_keep ho hd hs xs _ _ hk.2 r2)
end
section
variable {prog : Program} {w : World}
mutual
theorem hash_reads : ∀ (p : PyData) (v : Value) (A : Around) (E : Value → Shared → Prop) (s : Shared) (as : List Addr) (Q : Int → Shared → Prop), isK p = true → Reads s.heap v p as → A.units + p.depth < cLine →
    Q (hashK w p) { s with toks := s.toks + drawsK p } → wpAny (model prog w) A (pyHash v) Q E s
  | .int i, _, A, E, s, _, Q, _, r, _, h => by cases r; exact wpAny_pyHash_int h
  | .str x, _, A, E, s, _, Q, _, r, _, h => by cases r; exact wpAny_pyHash_str h
  | .tuple xs, _, A, E, s, _, Q, hk, r, hu, h => by
    cases r with
    | tuple h1 h2 h3 h4 =>
      refine PySem.W.pyHash_slot (T := "tuple") ⟨_, h1, h2⟩ F.slot_tuple_hash F.entry_tuple_hash (F.args_tuple_hash_1 _) (beq_builtin_none _) (.inr (by omega)) ?_
      show wpAny _ _ (Builtin.Tuple.tupleItemsOf (.ref _) >>= _) _ _ s
      refine wpAny_bind (wpAny_tupleItemsOf h1 h3 ?_)
      refine wpAny_bind ?_
      rw [← Array.forIn_toList]
      refine hash_readsAll xs _ A.in1 E s _ #[] _ hk h4 (by simp only [PyData.depth, Around.in1_units] at hu ⊢; omega) fun b hb => ?_
      show wpAny _ _ (retInt (Builtin.Tuple.tupleHashOf b.toList)) _ _ _
      rw [hb]
      exact wpAny_bind (wpAny_mkInt (wpAny_pure ⟨_, _, rfl, h⟩))
  | .none, _, _, _, _, _, _, h, _, _, _ | .bool _, _, _, _, _, _, _, h, _, _, _ | .list _, _, _, _, _, _, _, h, _, _, _ | .dict _, _, _, _, _, _, _, h, _, _, _ => by simp [isK] at h
theorem hash_readsAll : ∀ (ps : List PyData) (vs : List Value) (A : Around) (E : Value → Shared → Prop) (s : Shared) (as : List Addr) (b : Array Int) (Q : Array Int → Shared → Prop), isKs ps = true → ReadsAll s.heap vs ps as → A.units + PyData.depthAll ps < cLine →
    (∀ b', b'.toList = b.toList ++ hashKs w ps → Q b' { s with toks := s.toks + drawsKs ps }) →
    wpAny (model prog w) A (forIn vs b fun x r => do let h ← pyHash x; pure PUnit.unit; pure (ForInStep.yield (r.push h))) Q E s
  | [], _, A, E, s, _, b, Q, _, x, _, h => by cases x; exact wpAny_pure (h b (by simp [hashKs]))
  | k :: xs, _, A, E, s, _, b, Q, hk, x, hu, h => by
    cases x with
    | cons x1 x2 =>
      simp only [isKs, Bool.and_eq_true, PyData.depthAll] at hk hu
      rw [List.forIn_cons]
      refine wpAny_bind (wpAny_bind (hash_reads k _ A E s _ _ hk.1 x1 (by omega) ?_))
      refine wpAny_bind (wpAny_pure (wpAny_pure ?_))
      refine hash_readsAll xs _ A E _ _ _ Q hk.2 x2 (by omega) fun b' hb => ?_
      have := h b' (by simp [hb, hashKs])
      simpa [drawsKs, Nat.add_assoc] using this
end
mutual
theorem quiet_reads : ∀ (p : PyData) (v : Value) (A : Around) (E : Value → Shared → Prop) (s : Shared) (as : List Addr) (n : Nat) (Q : Bool → Shared → Prop), isK p = true → Reads s.heap v p as → p.depth ≤ n →
    Q true s → wpAny (model prog w) A (eqIsQuiet n v) Q E s
  | .int i, _, A, E, s, _, n, Q, _, r, _, h => by cases r; rw [eqIsQuiet_byValue _ rfl]; exact wpAny_pure h
  | .str x, _, A, E, s, _, n, Q, _, r, _, h => by cases r; rw [eqIsQuiet_byValue _ rfl]; exact wpAny_pure h
  | .tuple xs, _, A, E, s, _, n, Q, hk, r, hn, h => by
    cases r with
    | tuple h1 h2 h3 h4 =>
      have hT : s.TypeIs (.ref _) "tuple" := ⟨_, h1, h2⟩
      unfold eqIsQuiet
      refine wpAny_bind (wpAny_specialOf hT F.slot_tuple_eq.lookup ?_)
      show wpAny _ _ (isInstance (.ref _) (.type "tuple") >>= _) _ _ s
      refine wpAny_bind (wpAny_isInstance hT isSubtype_tuple_tuple ?_)
      simp only [Bool.not_true, Bool.false_eq_true, if_false]
      simp only [PyData.depth] at hn
      obtain ⟨n', rfl⟩ : ∃ n', n = n' + 1 := ⟨n - 1, by omega⟩
      refine wpAny_bind (wpAny_seqItems h1 h3 ?_)
      refine wpAny_bind ?_
      show wpAny _ _ (forIn _ _ _) _ _ s
      rw [← Array.forIn_toList]
      refine wpAny_forIn_list _ (fun rest r s' => r.1 = none ∧ s' = s ∧ ∃ ps as, isKs ps = true ∧ PyData.depthAll ps ≤ n' ∧ (∀ q ∈ ps, q ∈ xs) ∧ ReadsAll s.heap rest ps as) _ ?_ ?_ _ _ ⟨rfl, rfl, xs, _, hk, by omega, fun _ z => z, h4⟩
      · rintro v rest r s' ⟨hr, rfl, ps, as', hks, hd, hmem, ra⟩
        cases ra with
        | cons r1 r2 =>
          rename_i q qs as1 as2
          simp only [isKs, Bool.and_eq_true, PyData.depthAll] at hks hd
          have hq : q ∈ xs := hmem q List.mem_cons_self
          have hdep : sizeOf q < sizeOf (PyData.tuple xs) := by have := List.sizeOf_lt_of_mem hq; simp; omega
          refine wpAny_bind (quiet_reads q v A E _ _ _ _ hks.1 r1 (by omega) ?_)
          simp only [Bool.not_true, Bool.false_eq_true, if_false]
          exact wpAny_pure ⟨rfl, rfl, qs, _, hks.2, by omega, fun z hz => hmem z (List.mem_cons_of_mem _ hz), r2⟩
      · rintro ⟨r1, r2⟩ s' ⟨hr, rfl, _⟩
        simp only at hr
        subst hr
        exact wpAny_pure h
  | .none, _, _, _, _, _, _, _, h, _, _, _ | .bool _, _, _, _, _, _, _, _, h, _, _, _ | .list _, _, _, _, _, _, _, _, h, _, _, _ | .dict _, _, _, _, _, _, _, _, h, _, _, _ => by simp [isK] at h
termination_by p => sizeOf p
end
end
noncomputable def nestKind (prog : Program) (w : World) : HeapKind prog w (List PyData) where
  is := fun h ks a => isKs ks = true ∧ PyData.depthAll ks ≤ 6 ∧ ∃ as, Reads h (.ref a) (.tuple ks) as
  hash := fun ks => hashK w (.tuple ks)
  draws := fun ks => drawsK (.tuple ks)
  room := fun A => A.units + 20 < cLine
  inj := fun {h a x y} hx hy => by
    obtain ⟨k1, _, _, r1⟩ := hx
    obtain ⟨k2, _, _, r2⟩ := hy
    have e := SeqAt.Reads.unique _ _ _ _ _ (isK_lay (.tuple x) k1) r1 r2
    exact PyData.tuple.inj e
  keeps := fun x ho hd hs => let ⟨k1, k2, as, r⟩ := x; ⟨k1, k2, as, reads_keep ho hd hs _ _ _ k1 r⟩
  pyHash := fun {A E s k a Q} hu hk h => by
    obtain ⟨k1, k2, as, r⟩ := hk
    exact hash_reads (.tuple k) _ A E s as Q k1 r (by simp only [PyData.depth]; omega) h
  eqBool := fun {A E s x y a b Q} hu hx hy h => by
    obtain ⟨k1, d1, as, r1⟩ := hx
    obtain ⟨k2, d2, bs, r2⟩ := hy
    refine SeqAt.eqAt_reads (.tuple x) (.tuple y) A s _ _ _ _ r1 r2 (isK_lay (.tuple x) k1) (isK_lay (.tuple y) k2) (by simp only [PyData.depth]; omega) prog w E Q ?_
    rw [isK_eqv (.tuple x) (.tuple y) k1 k2]
    have e : decide (PyData.tuple x = PyData.tuple y) = decide (x = y) := by
      simp only [PyData.tuple.injEq]
    rw [e]
    exact h
  quiet := fun {A E s k a Q} hk h => by
    obtain ⟨k1, k2, as, r⟩ := hk
    exact quiet_reads (.tuple k) _ A E s as 8 Q k1 r (by simp only [PyData.depth]; omega) h
end L2
set_option Elab.async false
set_option linter.all false
set_option maxRecDepth 100000
namespace L2
open PySem PySem.Spec PyProof.Rows
abbrev Key := Sum Int Str
def keyIs : Key → Value → Bool
  | .inl k, v => Value.isInt k v
  | .inr x, v => Value.isStrOf x v
def keyH (w : World) : Key → Int
  | .inl k => hashInt k
  | .inr x => hashStr w x
theorem keyIs_shape : ∀ {k : Key} {v : Value}, keyIs k v = true → (∃ i t, k = Sum.inl i ∧ v = Value.int i t) ∨ (∃ x t, k = Sum.inr x ∧ v = Value.str x t)
  | .inl i, v, h => by
    obtain ⟨t, e⟩ := Value.isInt_shape (k := i) (v := v) h
    exact .inl ⟨i, t, rfl, e⟩
  | .inr x, v, h => by
    obtain ⟨t, e⟩ := Value.isStrOf_shape (x := x) (v := v) h
    exact .inr ⟨x, t, rfl, e⟩
theorem keyIs_int (i : Int) (t : Tok) : keyIs (.inl i) (.int i t) = true := by simp [keyIs, Value.isInt]
theorem keyIs_str (x : Str) (t : Tok) : keyIs (.inr x) (.str x t) = true := by simp [keyIs, Value.isStrOf]
theorem key_ll (a b : Int) : decide ((Sum.inl a : Key) = Sum.inl b) = (a == b) := by
  by_cases e : a = b
  · subst e; simp
  · have h : ¬ (Sum.inl a : Key) = Sum.inl b := fun q => e (Sum.inl.inj q)
    rw [decide_eq_false h]
    exact (beq_eq_false_iff_ne.mpr e).symm
theorem key_rr (a b : Str) : decide ((Sum.inr a : Key) = Sum.inr b) = decide (a = b) := by
  by_cases e : a = b
  · subst e; simp
  · have h : ¬ (Sum.inr a : Key) = Sum.inr b := fun q => e (Sum.inr.inj q)
    rw [decide_eq_false h, decide_eq_false e]
theorem key_lr (a : Int) (b : Str) : decide ((Sum.inl a : Key) = Sum.inr b) = false := decide_eq_false (fun q => nomatch q)
theorem key_rl (a : Str) (b : Int) : decide ((Sum.inr a : Key) = Sum.inl b) = false := decide_eq_false (fun q => nomatch q)
def mixKind (prog : Program) (w : World) : PySem.KeyKind prog w Key where
  is := keyIs
  hash := keyH w
  inj := fun v a b ha hb => by
    rcases keyIs_shape ha with ⟨i, t, rfl, rfl⟩ | ⟨x, t, rfl, rfl⟩
    · rcases keyIs_shape hb with ⟨j, u, rfl, e⟩ | ⟨y, u, rfl, e⟩
      · injection e with e1 _; rw [e1]
      · exact nomatch e
    · rcases keyIs_shape hb with ⟨j, u, rfl, e⟩ | ⟨y, u, rfl, e⟩
      · exact nomatch e
      · injection e with e1 _; rw [e1]
  byValue := fun k v h => by
    rcases keyIs_shape h with ⟨i, t, rfl, rfl⟩ | ⟨x, t, rfl, rfl⟩ <;> rfl
  pyHash := fun hv h => by
    rcases keyIs_shape hv with ⟨i, t, rfl, rfl⟩ | ⟨x, t, rfl, rfl⟩
    · exact wpAny_pyHash_int h
    · exact wpAny_pyHash_str h
  eqBool := fun hu hv h => by
    rcases keyIs_shape hu with ⟨i, t, rfl, rfl⟩ | ⟨x, t, rfl, rfl⟩
    · rcases keyIs_shape hv with ⟨j, u, rfl, rfl⟩ | ⟨y, u, rfl, rfl⟩
      · rw [key_ll] at h; exact wpAny_eqBool_int h
      · rw [key_lr] at h; exact SeqAt.EqAt.int_str i t y u _ _ _ _ h
    · rcases keyIs_shape hv with ⟨j, u, rfl, rfl⟩ | ⟨y, u, rfl, rfl⟩
      · rw [key_rl] at h; exact SeqAt.EqAt.str_int x t j u _ _ _ _ h
      · rw [key_rr] at h; exact wpAny_eqBool_str h
  «strs» := fun k x t v h => by
    rcases keyIs_shape h with ⟨i, u, rfl, e⟩ | ⟨y, u, rfl, e⟩
    · exact nomatch e
    · injection e with e1 _
      subst e1
      cases v <;> rfl
theorem mixKind_int (prog : Program) (w : World) (i : Int) (t : Tok) : (mixKind prog w).is (.inl i) (.int i t) = true := keyIs_int i t
theorem mixKind_str (prog : Program) (w : World) (x : Str) (t : Tok) : (mixKind prog w).is (.inr x) (.str x t) = true := keyIs_str x t
end L2
namespace L2
open PySem PySem.Spec PyProof.Rows
inductive V where
  | non | bl (b : Bool) | int (i : Int) | str (x : Str) | byt (b : Array UInt8) | flt (b : UInt64) | ref (a : Addr) | ty (n : String)
  deriving DecidableEq
def RelV : V → Value → Prop
  | .non, u => u = Value.none
  | .bl b, u => u = Value.bool b
  | .int i, u => ∃ t, u = Value.int i t
  | .str x, u => ∃ t, u = Value.str x t
  | .byt b, u => ∃ t, u = Value.bytes b t
  | .flt b, u => ∃ t, u = Value.float b t
  | .ref a, u => u = Value.ref a
  | .ty n, u => u = Value.type n
abbrev Vals : List V → List Value → Prop := Paired RelV
theorem Vals.length {xs : List V} {us : List Value} (r : Vals xs us) : xs.length = us.length := Paired.length r
theorem Vals.get : ∀ {xs : List V} {us : List Value} {i : Nat} {x : V}, Vals xs us → xs[i]? = some x → ∃ u, us[i]? = some u ∧ RelV x u
  | _, _, _, _, .nil, e => by simp at e
  | _, _, 0, _, .cons r _, e => by simp at e; subst e; exact ⟨_, rfl, r⟩
  | _, _, i + 1, x, .cons _ t, e => by
    obtain ⟨u, h1, h2⟩ := Vals.get (i := i) (x := x) t (by simpa using e)
    exact ⟨u, by simpa using h1, h2⟩
theorem Vals.set {x : V} {u : Value} (r : RelV x u) : ∀ {xs : List V} {us : List Value} (i : Nat), Vals xs us → Vals (xs.set i x) (us.set i u)
  | _, _, _, .nil => .nil
  | _, _, 0, .cons _ t => .cons r t
  | _, _, i + 1, .cons q t => .cons q (Vals.set r i t)
theorem Vals.append : ∀ {xs ys : List V} {us ws : List Value}, Vals xs us → Vals ys ws → Vals (xs ++ ys) (us ++ ws)
  | _, _, _, _, .nil, s => s
  | _, _, _, _, .cons r t, s => .cons r (Vals.append t s)
theorem Vals.take : ∀ {xs : List V} {us : List Value} (n : Nat), Vals xs us → Vals (xs.take n) (us.take n)
  | _, _, 0, _ => .nil
  | _, _, _ + 1, .nil => .nil
  | _, _, n + 1, .cons r t => .cons r (Vals.take n t)
theorem Vals.drop : ∀ {xs : List V} {us : List Value} (n : Nat), Vals xs us → Vals (xs.drop n) (us.drop n)
  | _, _, 0, r => r
  | _, _, _ + 1, .nil => .nil
  | _, _, n + 1, .cons _ t => Vals.drop n t
def RelO : Option V → Option Value → Prop
  | some v, some u => RelV v u
  | none, none => True
  | _, _ => False
def KV {κ : Type} : List (κ × V) → List (κ × Value) → Prop := Paired fun (p : κ × V) (q : κ × Value) => p.1 = q.1 ∧ RelV p.2 q.2
def kV : Key → V
  | .inl i => .int i
  | .inr x => .str x
inductive HO where
  /-- a list -/
  | lst (xs : List V)
  /-- a tuple (never changes) -/
  | tup (xs : List V)
  /-- a dict whose keys are ints and texts; one whose keys are tuples of ints and texts (the empty one is both) -/
  | dK (kvs : List (Key × V)) | dT (kvs : List (List Key × V)) | dN (K : PySem.W.Frag) (kvs : List (List PyData × V))
  /-- a set of ints: its members, its size -/
  | set (S : Int → Bool) (n : Nat)
  /-- an instance of the class at C, its dict at dx, its attributes -/
  | ins (C dx : Addr) (fs : List (Str × V))
  /-- the dict of the instance at x -/
  | own (x : Addr)
  /-- the dict of an exception -/
  | xd (fs : List (Str × V))
  /-- a bound method, f of x -/
  | met (f x : Addr)
  /-- a range object lo, lo + 1, .. below hi -/
  | rng (lo hi : Int)
  /-- a thing that is known to the object (the script; a dict while a loop walks it): read, never written while it is so -/
  | frz (o : Obj) (u : HO)
  /-- a code object's table -/
  | tbl (ps : Array Value)
  /-- any other thing, by what is true of its one object (a def of one's own: SetO a S n := HO.ext fun h => ..) -/
  | ext (φ : Heap → Prop)
abbrev Hp := Addr → Option HO
def upd (H : Hp) (a : Addr) (o : HO) : Hp := fun b => if b = a then some o else H b
theorem upd_same {H : Hp} {a : Addr} {o : HO} : upd H a o a = some o := by unfold upd; rw [if_pos rfl]
theorem upd_ne {H : Hp} {a b : Addr} {o : HO} (h : b ≠ a) : upd H a o b = H b := by unfold upd; rw [if_neg h]
theorem ne_of {H : Hp} {a b : Addr} {o u : HO} (h : H a = some o) (h' : H b = some u) (d : o ≠ u) : a ≠ b := by
  intro e; subst e; rw [h] at h'; exact d (Option.some.inj h')
theorem ne_of_none {H : Hp} {a b : Addr} {o : HO} (h : H a = some o) (h' : H b = none) : a ≠ b := by
  intro e; subst e; rw [h] at h'; cases h'
def NoD (h : Heap) (a : Addr) : Prop := ∃ o, h.get? a = some o ∧ o.dict = none
theorem NoD.new (h : Heap) (c : Value) (d : Data) (hf : Obj.isFreed { cls := c, data := d } = false := by rfl) : NoD (h.push { cls := c, data := d }) h.objs.size := ⟨_, Heap.get?_push_size _ hf, rfl⟩
theorem NoD.keep {h h' : Heap} {a : Addr} (x : NoD h a) (k : ∀ o, h.get? a = some o → h'.get? a = some o) : NoD h' a := let ⟨o, e, d⟩ := x; ⟨o, k _ e, d⟩
def TupAt (K : PySem.W.Frag) (H : Hp) (a : Addr) (xs : List V) : Prop := (H a = some (.tup xs) ∨ ∃ o, H a = some (.frz o (.tup xs))) ∨
    ∃ (o : Obj) (its : Array Value) (n : Nat), K.lookup a = some o ∧ (o.cls = .type "tuple" ∧ o.dict = none) ∧ o.data = .seq its n ∧ its.size ≤ sizeLine ∧ Vals xs its.toList
mutual
def NKV (K : PySem.W.Frag) (H : Hp) : PyData → V → Prop
  | .int i, v => v = .int i
  | .str x, v => v = .str x
  | .tuple xs, v => ∃ a vs, v = .ref a ∧ TupAt K H a vs ∧ NKVs K H xs vs
  | .none, _ | .bool _, _ | .list _, _ | .dict _, _ => False
def NKVs (K : PySem.W.Frag) (H : Hp) : List PyData → List V → Prop
  | [], vs => vs = []
  | x :: xs, vs => ∃ v r, vs = v :: r ∧ NKV K H x v ∧ NKVs K H xs r
end
section
variable {K : PySem.W.Frag} {H H' : Hp}
theorem TupAt.stay {a : Addr} {xs : List V} (x : TupAt K H a xs) (ht : ∀ b xs, H b = some (.tup xs) → H' b = some (.tup xs)) (hf : ∀ b o u, H b = some (.frz o u) → H' b = some (.frz o u)) : TupAt K H' a xs := by
  rcases x with (x | ⟨o, x⟩) | x
  · exact .inl (.inl (ht _ _ x))
  · exact .inl (.inr ⟨o, hf _ _ _ x⟩)
  · exact .inr x
mutual
theorem NKV.stay (ht : ∀ b xs, H b = some (.tup xs) → H' b = some (.tup xs)) (hf : ∀ b o u, H b = some (.frz o u) → H' b = some (.frz o u)) : ∀ (p : PyData) (v : V), NKV K H p v → NKV K H' p v
  | .int _, _, x => by simpa only [NKV] using x
  | .str _, _, x => by simpa only [NKV] using x
  | .tuple xs, _, x => by
    simp only [NKV] at x ⊢
    obtain ⟨a, vs, e, x1, x2⟩ := x
    exact ⟨a, vs, e, x1.stay ht hf, NKVs.stay ht hf xs vs x2⟩
  | .none, _, x | .bool _, _, x | .list _, _, x | .dict _, _, x => by simp only [NKV] at x
theorem NKVs.stay (ht : ∀ b xs, H b = some (.tup xs) → H' b = some (.tup xs)) (hf : ∀ b o u, H b = some (.frz o u) → H' b = some (.frz o u)) : ∀ (ps : List PyData) (vs : List V), NKVs K H ps vs → NKVs K H' ps vs
  | [], _, x => by simpa only [NKVs] using x
  | p :: ps, _, x => by
    simp only [NKVs] at x ⊢
    obtain ⟨v, r, e, x1, x2⟩ := x
    exact ⟨v, r, e, NKV.stay ht hf p v x1, NKVs.stay ht hf ps r x2⟩
end
end
section
variable (P : Program) (w : World)
def ObjOk (H : Hp) (h : Heap) (a : Addr) : HO → Prop
  | .lst xs => xs.length ≤ sizeLine ∧ ∃ (its : List Value) (n : Nat), Vals xs its ∧ h.get? a = some { cls := .type "list", data := .seq its.toArray n }
  | .tup xs => (xs.length ≤ sizeLine ∧ NoD h a) ∧ ∃ its : List Value, Vals xs its ∧ IsTup h a its.toArray
  | .dK kvs => kvs.length ≤ sizeLine ∧ (a == sysModules) = false ∧ ∃ vs, KV kvs vs ∧ h.DictOf (mixKind P w) a vs
  | .dT kvs => kvs.length ≤ sizeLine ∧ (a == sysModules) = false ∧ ∃ xs : List (List Key × Addr × Value),
      Paired (fun (p : List Key × V) (q : List Key × Addr × Value) => p.1 = q.1 ∧ H q.2.1 = some (.tup (p.1.map kV)) ∧ RelV p.2 q.2.2) kvs xs ∧
      ∃ o es ep, h.get? a = some o ∧ o.ExactDict ∧ o.data = .dict es ep ∧ es.toList = xs.map (entryOfKey (tupleKind (mixKind P w))) ∧ (xs.map (·.1)).Nodup
  | .dN K kvs => kvs.length ≤ sizeLine ∧ (a == sysModules) = false ∧ ∃ xs : List (List PyData × Addr × Value),
      Paired (fun (p : List PyData × V) (q : List PyData × Addr × Value) => p.1 = q.1 ∧ (isKs p.1 = true ∧ PyData.depthAll p.1 ≤ 6 ∧ NKV K H (.tuple p.1) (.ref q.2.1)) ∧ RelV p.2 q.2.2) kvs xs ∧
      ∃ o es ep, h.get? a = some o ∧ o.ExactDict ∧ o.data = .dict es ep ∧ es.toList = xs.map (entryOfKey (nestKind P w)) ∧ (xs.map (·.1)).Nodup
  | .set S n => h.SetOf (intKind P w) a S n
  | .ins C dx fs => H dx = some (.own a) ∧ fs.length ≤ 1000 ∧ dx ≠ a ∧ h.get? a = some (PySem.W.instObj C dx) ∧
      ∃ mA, h.Ns1 dx mA ∧ (∀ f, RelO (fs.lookup f) (mA f)) ∧ PySem.Within mA (fs.map (·.1))
  | .own _ => ∃ o, h.get? a = some o
  | .xd fs => ∃ mA, h.Ns1 a mA ∧ ∀ f, RelO (fs.lookup f) (mA f)
  | .rng lo hi => ∃ t u v, h.get? a = some { cls := .type "range", data := .fields #[.int lo t, .int hi u, .int 1 v] }
  | .frz o u => h.get? a = some o ∧ ObjOk H h a u
  | .tbl ps => h.get? a = some { cls := .none, data := .fields ps }
  | .met f x => h.get? a = some (PySem.W.methodObj (.ref f) (.ref x))
  | .ext φ => φ h ∧ (∃ o, h.get? a = some o) ∧ ∀ h1 h2 : Heap, φ h1 → (∀ o, h1.get? a = some o → h2.get? a = some o) → φ h2
def HOk (H : Hp) (h : Heap) : Prop := ∀ a o, H a = some o → ObjOk P w H h a o
end
section
variable {P : Program} {w : World} {H H' : Hp} {h h' : Heap} {a : Addr} {o : HO}
theorem ObjOk.lt (x : ObjOk P w H h a o) : a < h.objs.size := by
  cases o with
  | lst xs => obtain ⟨_, _, _, _, e⟩ := x; exact Heap.lt_size e
  | tup xs => obtain ⟨_, _, _, p⟩ := x; exact p.lt
  | dK kvs => obtain ⟨_, _, _, _, o, _, _, e, _⟩ := x; exact Heap.lt_size e
  | dT kvs => obtain ⟨_, _, _, _, o, _, _, e, _⟩ := x; exact Heap.lt_size e
  | dN K kvs => obtain ⟨_, _, _, _, o, _, _, e, _⟩ := x; exact Heap.lt_size e
  | set S n => obtain ⟨o, _, _, _, e, _⟩ := x; exact Heap.lt_size e
  | ins C dx fs => obtain ⟨_, _, _, e, _⟩ := x; exact Heap.lt_size e
  | own y => obtain ⟨_, e⟩ := x; exact Heap.lt_size e
  | xd fs => obtain ⟨_, ⟨_, _, _, e, _⟩, _⟩ := x; exact Heap.lt_size e
  | rng lo hi => obtain ⟨_, _, _, e⟩ := x; exact Heap.lt_size e
  | frz ob u => obtain ⟨e, _⟩ := x; exact Heap.lt_size e
  | tbl ps => exact Heap.lt_size (show h.get? a = some _ from x)
  | met f y => exact Heap.lt_size (show h.get? a = some _ from x)
  | ext φ => obtain ⟨_, ⟨_, e⟩, _⟩ := x; exact Heap.lt_size e
theorem Paired.mapP {α β : Type} {F G : α → β → Prop} : ∀ {l₁ : List α} {l₂ : List β}, Paired F l₁ l₂ → (∀ a b, F a b → G a b) → Paired G l₁ l₂
  | _, _, .nil, _ => .nil
  | _, _, .cons r t, f => .cons (f _ _ r) (Paired.mapP t f)
theorem ObjOk.stay (x : ObjOk P w H h a o) (k : ∀ b u, (b = a ∨ H b = some (.own a)) → h.get? b = some u → h'.get? b = some u)
    (ho : ∀ b, H b = some (.own a) → H' b = some (.own a)) (ht : ∀ b xs, H b = some (.tup xs) → H' b = some (.tup xs)) (hf : ∀ b ob u, H b = some (.frz ob u) → H' b = some (.frz ob u)) : ObjOk P w H' h' a o := by
  induction o with
  | lst xs => obtain ⟨z, its, n, r, e⟩ := x; exact ⟨z, its, n, r, k _ _ (.inl rfl) e⟩
  | tup xs => obtain ⟨z, its, r, ob, e, c⟩ := x; exact ⟨⟨z.1, z.2.keep fun _ e => k _ _ (.inl rfl) e⟩, its, r, ob, k _ _ (.inl rfl) e, c⟩
  | dK kvs => obtain ⟨z, y, vs, r, ob, es, ep, e, c⟩ := x; exact ⟨z, y, vs, r, ob, es, ep, k _ _ (.inl rfl) e, c⟩
  | dT kvs =>
    obtain ⟨z, y, xs, r, ob, es, ep, e, c⟩ := x
    exact ⟨z, y, xs, Paired.mapP r fun p q z => ⟨z.1, ht _ _ z.2.1, z.2.2⟩, ob, es, ep, k _ _ (.inl rfl) e, c⟩
  | dN K kvs =>
    obtain ⟨z, y, xs, r, ob, es, ep, e, c⟩ := x
    exact ⟨z, y, xs, Paired.mapP r fun p q z => ⟨z.1, ⟨z.2.1.1, z.2.1.2.1, NKV.stay ht hf _ _ z.2.1.2.2⟩, z.2.2⟩, ob, es, ep, k _ _ (.inl rfl) e, c⟩
  | set S n => obtain ⟨ob, es, ep, t, e, c⟩ := x; exact ⟨ob, es, ep, t, k _ _ (.inl rfl) e, c⟩
  | ins C dx fs =>
    obtain ⟨d, z, ne, e, mA, ⟨od, es, ep, e2, c⟩, r⟩ := x
    exact ⟨ho _ d, z, ne, k _ _ (.inl rfl) e, mA, ⟨od, es, ep, k _ _ (.inr d) e2, c⟩, r⟩
  | own y => obtain ⟨ob, e⟩ := x; exact ⟨ob, k _ _ (.inl rfl) e⟩
  | xd fs => obtain ⟨mA, ⟨od, es, ep, e, c⟩, r⟩ := x; exact ⟨mA, ⟨od, es, ep, k _ _ (.inl rfl) e, c⟩, r⟩
  | rng lo hi => obtain ⟨t, u, v, e⟩ := x; exact ⟨t, u, v, k _ _ (.inl rfl) e⟩
  | frz ob u ih => obtain ⟨e, q⟩ := x; exact ⟨k _ _ (.inl rfl) e, ih q⟩
  | tbl ps =>
    have e : h.get? a = some { cls := .none, data := .fields ps } := x
    show h'.get? a = some { cls := .none, data := .fields ps }
    exact k a _ (.inl rfl) e
  | met f y =>
    have e : h.get? a = some (PySem.W.methodObj (.ref f) (.ref y)) := x
    show h'.get? a = some (PySem.W.methodObj (.ref f) (.ref y))
    exact k a _ (.inl rfl) e
  | ext φ => obtain ⟨p, ⟨o, e⟩, st⟩ := x; exact ⟨st _ _ p fun o q => k _ _ (.inl rfl) q, ⟨o, k _ _ (.inl rfl) e⟩, st⟩
theorem HOk.lt (x : HOk P w H h) (e : H a = some o) : a < h.objs.size := (x a o e).lt
theorem HOk.fresh (x : HOk P w H h) (e : h.objs.size ≤ a) : H a = none := by
  cases q : H a with
  | none => rfl
  | some u => exact absurd (Nat.lt_of_lt_of_le (x.lt q) e) (Nat.lt_irrefl _)
theorem HOk.kept (x : HOk P w H h) (k : ∀ b u, h.get? b = some u → h'.get? b = some u) : HOk P w H h' := fun a o e =>
  (x a o e).stay (fun b u _ q => k b u q) (fun _ q => q) (fun _ _ q => q) fun _ _ _ q => q
theorem HOk.laid (x : HOk P w H h) (k : ∀ b u, h.get? b = some u → h'.get? b = some u) (hp : h.objs.size ≤ a) (new : ObjOk P w (upd H a o) h' a o) : HOk P w (upd H a o) h' := fun b u e => by
  have hn := x.fresh hp
  by_cases hb : b = a
  · subst hb; rw [upd_same] at e; cases e; exact new
  · rw [upd_ne hb] at e
    exact (x b u e).stay (fun c v _ q => k c v q) (fun c q => by rw [upd_ne (ne_of_none q hn)]; exact q) (fun c xs q => by rw [upd_ne (ne_of_none q hn)]; exact q) fun c ob u q => by rw [upd_ne (ne_of_none q hn)]; exact q
end
def Rd (H : Hp) (a : Addr) (u : HO) : Prop := H a = some u ∨ ∃ o, H a = some (.frz o u)
theorem Rd.of {H : Hp} {a : Addr} {u : HO} (h : H a = some u) : Rd H a u := .inl h
theorem Rd.ok {P : Program} {w : World} {H : Hp} {h : Heap} {a : Addr} {u : HO} (r : Rd H a u) (x : HOk P w H h) : ObjOk P w H h a u := by
  rcases r with r | ⟨o, r⟩
  · exact x a u r
  · obtain ⟨_, q⟩ := x a _ r
    exact q
def Mut : Option HO → Prop
  | some (.lst _) => True
  | some (.dK _) => True
  | some (.dT _) => True
  | some (.dN _ _) => True
  | some (.set _ _) => True
  | some (.ins _ _ _) => True
  | some (.ext _) => True
  | _ => False
section
variable {P : Program} {w : World} {H : Hp} {h h' : Heap} {x e : Addr} {o' : HO}
theorem HOk.write (ok : HOk P w H h) (mu : Mut (H x)) (he : e = x ∨ H e = some (.own x)) (k : ∀ b u, b ≠ e → h.get? b = some u → h'.get? b = some u) (heo : ∃ u, h'.get? e = some u)
    (new : ObjOk P w (upd H x o') h' x o') : HOk P w (upd H x o') h' := fun b u q => by
  have nown : ∀ c y, H c = some (.own y) → c ≠ x := fun c y r z => by subst z; rw [r] at mu; exact mu
  have ntup : ∀ c xs, H c = some (.tup xs) → c ≠ x := fun c xs r z => by subst z; rw [r] at mu; exact mu
  by_cases hb : b = x
  · subst hb; rw [upd_same] at q; cases q; exact new
  · rw [upd_ne hb] at q
    by_cases hbe : b = e
    · have q' : H b = some (.own x) := by
        rcases he with z | z
        · exact absurd (hbe.trans z) hb
        · rw [hbe]; exact z
      rw [q] at q'; cases q'
      obtain ⟨v, hv⟩ := heo
      exact ⟨v, by rw [hbe]; exact hv⟩
    · refine (ok b u q).stay (fun c v hc r => k c v ?_ r) (fun c r => by rw [upd_ne (nown c b r)]; exact r) (fun c xs r => by rw [upd_ne (ntup c xs r)]; exact r) fun c ob u r => by rw [upd_ne (fun z => by subst z; rw [r] at mu; exact mu)]; exact r
      rcases hc with rfl | hc
      · exact hbe
      · rintro rfl
        rcases he with z | z
        · exact nown c b hc z
        · rw [hc] at z; cases z; exact hb rfl
end
structure Un (fs ex : List Addr) (H H' : Hp) (h h' : Heap) : Prop where
  keep : ∀ b o, h.get? b = some o → H b = none → b ∉ fs → b ∉ ex → h'.get? b = some o
  slot : ∀ b o, h.get? b = some o → H b = none → b ∈ fs → b ∉ ex → ∃ sl, h'.get? b = some { o with slots := sl }
  free : ∀ b o, h.get? b = some o → H b = none → b ∉ ex → H' b = none
  there : ∀ b o, h.get? b = some o → b ∉ ex → ∃ o', h'.get? b = some o'
  tups : ∀ b xs, H b = some (.tup xs) → H' b = some (.tup xs)
  frzs : ∀ b o u, H b = some (.frz o u) → H' b = some (.frz o u)
  tbls : ∀ b ps, H b = some (.tbl ps) → ∃ more, H' b = some (.tbl (ps ++ more))
section
variable {fs fs' ex ex' : List Addr} {H H1 H2 : Hp} {h h1 h2 h' : Heap} {a x e : Addr} {o : HO}
theorem Un.any (u : Un fs ex H H1 h h1) {b : Addr} {ob : Obj} (q : h.get? b = some ob) (n : H b = none) (hx : b ∉ ex) : ∃ sl, h1.get? b = some { ob with slots := sl } := by
  by_cases hb : b ∈ fs
  · exact u.slot b ob q n hb hx
  · exact ⟨ob.slots, u.keep b ob q n hb hx⟩
theorem Un.trans (a : Un fs ex H H1 h h1) (b : Un fs ex H1 H2 h1 h2) : Un fs ex H H2 h h2 where
  keep := fun c ob q n hc hx => b.keep c ob (a.keep c ob q n hc hx) (a.free c ob q n hx) hc hx
  slot := fun c ob q n hc hx => by
    obtain ⟨sl, e1⟩ := a.slot c ob q n hc hx
    obtain ⟨sl', e2⟩ := b.slot c _ e1 (a.free c ob q n hx) hc hx
    exact ⟨sl', e2⟩
  free := fun c ob q n hx => by
    obtain ⟨o', e1⟩ := a.there c ob q hx
    exact b.free c o' e1 (a.free c ob q n hx) hx
  there := fun c ob q hx => by
    obtain ⟨o', e1⟩ := a.there c ob q hx
    exact b.there c o' e1 hx
  tups := fun c xs q => b.tups c xs (a.tups c xs q)
  frzs := fun c ob xs q => b.frzs c ob xs (a.frzs c ob xs q)
  tbls := fun c ps q => by
    obtain ⟨m1, e1⟩ := a.tbls c ps q
    obtain ⟨m2, e2⟩ := b.tbls c _ e1
    exact ⟨m1 ++ m2, by rw [e2, Array.append_assoc]⟩
theorem Un.kept (k : ∀ b u, h.get? b = some u → h'.get? b = some u) : Un fs ex H H h h' :=
  ⟨fun b ob q _ _ _ => k b ob q, fun b ob q _ _ _ => ⟨ob.slots, k b ob q⟩, fun _ _ _ n _ => n, fun b ob q _ => ⟨ob, k b ob q⟩, fun _ _ q => q, fun _ _ _ q => q, fun _ ps q => ⟨#[], by rw [q]; simp⟩⟩
theorem Un.refl : Un fs ex H H h h := Un.kept fun _ _ q => q
theorem Un.laid (k : ∀ b u, h.get? b = some u → h'.get? b = some u) (hp : h.objs.size ≤ a) (hn : H a = none) : Un fs ex H (upd H a o) h h' where
  keep := fun b u q _ _ _ => k b u q
  slot := fun b u q _ _ _ => ⟨u.slots, k b u q⟩
  free := fun b u q n _ => by rw [upd_ne (Nat.ne_of_lt (Nat.lt_of_lt_of_le (Heap.lt_size q) hp))]; exact n
  there := fun b u q _ => ⟨u, k b u q⟩
  tups := fun b xs q => by rw [upd_ne (ne_of_none q hn)]; exact q
  frzs := fun b u xs q => by rw [upd_ne (ne_of_none q hn)]; exact q
  tbls := fun b ps q => ⟨#[], by rw [upd_ne (ne_of_none q hn), q]; simp⟩
theorem Un.write (mu : Mut (H x)) (he : e = x ∨ H e = some (.own x)) (k : ∀ b u, b ≠ e → h.get? b = some u → h'.get? b = some u) (heo : ∃ u, h'.get? e = some u) : Un fs ex H (upd H x o) h h' := by
  have hx : ∀ b, H b = none → b ≠ x := fun b n z => by subst z; rw [n] at mu; exact mu
  have hb : ∀ b, H b = none → b ≠ e := fun b n z => by
    subst z
    rcases he with r | r
    · exact hx b n r
    · rw [n] at r; cases r
  have hm : ∀ b u, H b = some u → ¬ Mut (some u) → b ≠ x := fun b u q nm z => by subst z; rw [q] at mu; exact nm mu
  refine ⟨fun b u q n _ _ => k b u (hb b n) q, fun b u q n _ _ => ⟨u.slots, k b u (hb b n) q⟩, fun b u q n _ => by rw [upd_ne (hx b n)]; exact n, fun b u q _ => ?_,
    fun b xs q => by rw [upd_ne (hm b _ q fun z => z)]; exact q, fun b u xs q => by rw [upd_ne (hm b _ q fun z => z)]; exact q, fun b ps q => ⟨#[], by rw [upd_ne (hm b _ q fun z => z), q]; simp⟩⟩
  by_cases hbe : b = e
  · subst hbe; exact heo
  · exact ⟨u, k b u hbe q⟩
theorem Un.mono (u : Un fs ex H H1 h h1) (hs : ∀ b ∈ fs, b ∈ fs') (hx : ∀ b ∈ ex, b ∈ ex') : Un fs' ex' H H1 h h1 :=
  ⟨fun b ob q n hb he => u.keep b ob q n (fun z => hb (hs b z)) fun z => he (hx b z), fun _ _ q n _ he => u.any q n fun z => he (hx _ z), fun b ob q n he => u.free b ob q n fun z => he (hx b z), fun b ob q he => u.there b ob q fun z => he (hx b z), u.tups, u.frzs, u.tbls⟩
end
def trk (h : Heap) (H : Hp) : List Addr := (List.range h.objs.size).filter fun a => (H a).isSome
def hidT (h : Heap) (H : Hp) : Heap := PySem.W.hideAll h (trk h H)
theorem hidT_size (h : Heap) (H : Hp) : (hidT h H).objs.size = h.objs.size := PySem.W.hideAll_size _ _
theorem hidT_get {h : Heap} {H : Hp} {b : Addr} {o : Obj} (e : h.get? b = some o) (n : H b = none) : (hidT h H).get? b = some o :=
  PySem.W.hideAll_get _ e fun hm => by
    have q : (H b).isSome = true := (List.mem_filter.mp hm).2
    rw [n] at q; simp at q
theorem of_hidT {h : Heap} {H : Hp} {b : Addr} {o : Obj} (e : (hidT h H).get? b = some o) : h.get? b = some o ∧ H b = none := by
  have e' : h.get? b = some o := PySem.W.of_hideAll (trk h H) e
  refine ⟨e', ?_⟩
  cases q : H b with
  | none => rfl
  | some x =>
    have hm : b ∈ trk h H := List.mem_filter.mpr ⟨List.mem_range.mpr (Heap.lt_size e'), by simp [q]⟩
    have z : (hidT h H).get? b = none := PySem.W.hideAll_none (trk h H) hm
    rw [z] at e; cases e
def allNews (g h : Heap) (L : Addr) : List (Addr × Obj) := (List.range h.objs.size).filterMap fun a => if a = L ∨ (g.get? a).isSome = true then none else (h.get? a).map fun o => (a, o)
def rest (g h : Heap) (L d : Addr) : List (Addr × Obj) := (allNews g h L).filter fun p => decide (p.1 ≠ d)
end L2
namespace L2
open PySem PySem.Spec PyProof.Rows
structure Mod (K : PySem.W.Frag) (mg : Str → Option Value) (base : Heap) : Prop where
  kin : K.In base
  glob : base.Ns mainGlobals mg
  blt : ∃ mb, base.Ns builtinsNs mb ∧ ∀ x : Str, x ≠ "__name__" → mb x = bootBuiltins x
  nolimit : base.NoLimit
structure Cx where
  prog : Program
  w : World
  K : PySem.W.Frag
  mg : Str → Option Value
  base : Heap
  A : Around
  N : List Str
  s₀ : Shared
  H₀ : Hp
  env : Env
  outer : List Env
  stack : List Env
  ex : List Addr
  fn : Str → Bool
  calm : Bool
  pn : List (Addr × Obj)
  xe : Value → Shared → Prop
def frs (l : List Env) : List Addr := l.filterMap (·.frame)
abbrev Cx.fs (X : Cx) : List Addr := frs X.outer
def Vis (sc : Scope) (x : Str) : Prop := sc.names.lookup x = some .local ∨ sc.names.lookup x = some .cell ∨ sc.names.lookup x = some .free
def Loc (sc : Scope) (x : Str) : Prop := sc.names.lookup x = some .local ∨ sc.names.lookup x = some .cell
def Look (env : Env) (h : Heap) (m : Str → Option Value) (x : Str) (u : Value) : Prop :=
  (env.kindOf x = some .local ∧ m x = some u) ∨ ((env.kindOf x = some .cell ∨ env.kindOf x = some .free) ∧ ∃ c, env.cells.lookup x = some c ∧ h.IsCell c (some u))
structure Cx.Ok (X : Cx) : Prop where
  mod : Mod X.K X.mg X.base
  kind : X.env.scope.kind = .function
  glob : X.env.globals = mainGlobals
  blt : X.env.builtins = builtinsNs
  above : X.s₀.heap.objs.size ≤ X.env.locals
  inj : ∀ x y c, X.env.cells.lookup x = some c → X.env.cells.lookup y = some c → x = y
  has : ∀ x, (X.env.kindOf x = some .cell ∨ X.env.kindOf x = some .free) → ∃ c, X.env.cells.lookup x = some c
  cab : ∀ x c, X.fn x = true → X.env.cells.lookup x = some c → X.s₀.heap.objs.size ≤ c
  hd : X.calm = true → X.A.handled = none
  frames : X.A.frames = some X.stack
  stk : X.stack = X.outer ∨ (X.stack = X.env :: X.outer ∧ X.env.frame = some X.env.locals)
  exf : ∀ b ∈ X.ex, b ≠ X.env.locals ∧ ∀ x c, X.env.cells.lookup x = some c → c ≠ b
  bs : ∀ b o, X.base.get? b = some o → X.s₀.heap.get? b = some o ∧ X.H₀ b = none
  bsz : X.base.objs.size ≤ X.s₀.heap.objs.size
  noex : ∀ b o, X.base.get? b = some o → b ∉ X.ex
  exfs : ∀ b ∈ X.ex, b ∉ X.fs
  funs : X.s₀.heap.FunFrames X.base X.outer
  frf : ∀ b ∈ X.fs, X.H₀ b = none
structure Inv (X : Cx) (pins : List (Addr × Obj)) (σ : List (Option V)) (H : Hp) (s : Shared) : Prop where
  ok : X.Ok
  os : s.os = X.s₀.os
  bare : AllBare s.gens
  base : Un X.fs X.ex X.H₀ H X.s₀.heap s.heap
  loc : ∃ m, s.heap.Ns X.env.locals m ∧ ∀ (i : Nat) (x : Str) (v : V), X.N[i]? = some x → σ[i]? = some (some v) → Vis X.env.scope x → ∃ u, RelV v u ∧ Look X.env s.heap m x u
  cell : ∀ x c, X.env.cells.lookup x = some c → ∃ v, s.heap.IsCell c v
  free : H X.env.locals = none
  freeC : ∀ x c, X.env.cells.lookup x = some c → H c = none
  pin : ∀ p ∈ X.pn ++ pins, s.heap.get? p.1 = some p.2 ∧ H p.1 = none ∧ p.1 ≠ X.env.locals ∧ p.1 ∉ X.fs ∧ ∀ v, p.2.data ≠ .cell v
  hok : HOk X.prog X.w H s.heap
  len : σ.length = X.N.length
section
variable {X : Cx} {pins : List (Addr × Obj)} {σ : List (Option V)} {H H' : Hp} {s : Shared} {h' : Heap}
theorem Cx.Ok.nofr (ok : X.Ok) {b : Addr} {o : Obj} (e : X.base.get? b = some o) : b ∉ X.fs := fun hb => by
  have := (ok.funs.mem hb).1
  rw [e] at this; cases this
theorem Inv.bs (I : Inv X pins σ H s) : ∀ b o, X.base.get? b = some o → s.heap.get? b = some o ∧ H b = none := fun b o e =>
  ⟨I.base.keep b o (I.ok.bs b o e).1 (I.ok.bs b o e).2 (I.ok.nofr e) (I.ok.noex b o e), I.base.free b o (I.ok.bs b o e).1 (I.ok.bs b o e).2 (I.ok.noex b o e)⟩
theorem Inv.bk (I : Inv X pins σ H s) : ∀ b o, X.base.get? b = some o → s.heap.get? b = some o := fun b o e => (I.bs b o e).1
theorem Inv.mod (I : Inv X pins σ H s) : Mod X.K X.mg X.base := I.ok.mod
theorem Inv.kIn (I : Inv X pins σ H s) : X.K.In s.heap := I.ok.mod.kin.keeps I.bk
theorem Inv.nolimit (I : Inv X pins σ H s) : s.heap.NoLimit := I.ok.mod.nolimit.keeps I.bk
theorem Inv.lt (I : Inv X pins σ H s) : X.env.locals < s.heap.objs.size := let ⟨_, hn, _⟩ := I.loc; hn.lt
theorem Inv.sz (I : Inv X pins σ H s) : X.s₀.heap.objs.size ≤ s.heap.objs.size := Nat.le_trans I.ok.above (Nat.le_of_lt I.lt)
theorem Inv.nofs (I : Inv X pins σ H s) {a : Addr} (h : s.heap.objs.size ≤ a) : a ∉ X.fs := fun hb => by
  obtain ⟨_, o, ho, _⟩ := I.ok.funs.mem hb
  exact absurd (Nat.lt_of_lt_of_le (Heap.lt_size ho) (Nat.le_trans I.sz h)) (Nat.lt_irrefl _)
theorem Inv.cne (I : Inv X pins σ H s) : ∀ x c, X.env.cells.lookup x = some c → c ≠ X.env.locals := fun x c e z => by
  obtain ⟨v, o, ho, hd⟩ := I.cell x c e
  obtain ⟨m, ⟨o', es, ep, ho', hd', _⟩, _⟩ := I.loc
  rw [z, ho'] at ho; cases ho; rw [hd'] at hd; cases hd
theorem Inv.funs (I : Inv X pins σ H s) : s.heap.FunFrames X.base X.outer := by
  have all : ∀ (l : List Env), (∀ b ∈ frs l, b ∈ X.fs) → X.s₀.heap.FunFrames X.base l → s.heap.FunFrames X.base l := by
    intro l
    induction l with
    | nil => intro _ _; trivial
    | cons env r ih =>
      intro hs hl
      obtain ⟨hk, ⟨L, o, hf, hn, ho, hd⟩, hr⟩ := hl
      have hL : L ∈ X.fs := hs L (by unfold frs; rw [List.filterMap_cons, hf]; exact List.mem_cons_self)
      obtain ⟨sl, e⟩ := I.base.slot L o ho (I.ok.frf L hL) hL fun z => I.ok.exfs L z hL
      exact ⟨hk, ⟨L, _, hf, hn, e, hd⟩, ih (fun b hb => hs b (by unfold frs; rw [List.filterMap_cons, hf]; exact List.mem_cons_of_mem _ hb)) hr⟩
  exact all X.outer (fun _ hb => hb) I.ok.funs
theorem Inv.stack (I : Inv X pins σ H s) : s.heap.FunFrames X.base X.stack := by
  rcases I.ok.stk with e | ⟨e, hf⟩
  · rw [e]; exact I.funs
  · rw [e]
    obtain ⟨m, hn, _⟩ := I.loc
    refine .cons (by rw [I.ok.kind]; decide) hf hn ?_ I.funs
    exact Heap.get?_none_of_le (Nat.le_trans I.ok.bsz I.ok.above)
theorem Inv.stkSub (I : Inv X pins σ H s) : ∀ b ∈ frs X.stack, b ∈ X.env.locals :: X.fs := fun b hb => by
  rcases I.ok.stk with e | ⟨e, hf⟩
  · rw [e] at hb; exact List.mem_cons_of_mem _ hb
  · rw [e] at hb
    unfold frs at hb
    rw [List.filterMap_cons, hf] at hb
    exact hb
theorem Inv.stkFree (I : Inv X pins σ H s) : ∀ b ∈ frs X.stack, H b = none := fun b hb => by
  rcases List.mem_cons.mp (I.stkSub b hb) with e | hb
  · rw [e]; exact I.free
  · obtain ⟨_, o, ho, _⟩ := I.ok.funs.mem hb
    exact I.base.free b o ho (I.ok.frf b hb) fun z => I.ok.exfs b z hb
theorem Inv.step {g' : Array GenState} {t' : Nat} {d' : Drawn} {ch : List Addr} (I : Inv X pins σ H s)
    (hch : ∀ b ∈ ch, (b ∈ X.ex ∨ X.s₀.heap.objs.size ≤ b) ∧ b ≠ X.env.locals ∧ (∀ x c, X.env.cells.lookup x = some c → c ≠ b) ∧ ∀ p ∈ X.pn ++ pins, p.1 ≠ b)
    (keep : ∀ b o, b ≠ X.env.locals → b ∉ X.fs → b ∉ ch → s.heap.get? b = some o → H b = none → h'.get? b = some o)
    (slot : ∀ b o, b ≠ X.env.locals → b ∈ X.fs → b ∉ ch → s.heap.get? b = some o → H b = none → ∃ sl, h'.get? b = some { o with slots := sl }) (free : ∀ b o, b ∉ ch → s.heap.get? b = some o → H b = none → H' b = none)
    (there : ∀ b o, b ∉ ch → s.heap.get? b = some o → ∃ o', h'.get? b = some o')
    (tups : ∀ b xs, H b = some (.tup xs) → H' b = some (.tup xs)) (frzs : ∀ b o u, H b = some (.frz o u) → H' b = some (.frz o u)) (tbls : ∀ b ps, H b = some (.tbl ps) → ∃ more, H' b = some (.tbl (ps ++ more)))
    (ns : ∀ m, s.heap.Ns X.env.locals m → h'.Ns X.env.locals m) (hok : HOk X.prog X.w H' h') (hg : AllBare g') :
    Inv X pins σ H' { s with heap := h', gens := g', drawn := d', toks := t' } := by
  have neL : ∀ b o, X.s₀.heap.get? b = some o → b ≠ X.env.locals := fun b o e => Nat.ne_of_lt (Nat.lt_of_lt_of_le (Heap.lt_size e) I.ok.above)
  have neC : ∀ b o, X.s₀.heap.get? b = some o → b ∉ X.ex → b ∉ ch := fun b o e hx hb => by
    rcases (hch b hb).1 with z | z
    · exact hx z
    · exact absurd (Nat.lt_of_lt_of_le (Heap.lt_size e) z) (Nat.lt_irrefl _)
  have cellK : ∀ x c, X.env.cells.lookup x = some c → ∀ v, s.heap.IsCell c v → h'.IsCell c v := fun x c e v ⟨o, ho, hd⟩ => by
    have nch : c ∉ ch := fun z => (hch c z).2.2.1 x c e rfl
    by_cases hc : c ∈ X.fs
    · obtain ⟨sl, q⟩ := slot c o (I.cne x c e) hc nch ho (I.freeC x c e)
      exact ⟨_, q, hd⟩
    · exact ⟨o, keep c o (I.cne x c e) hc nch ho (I.freeC x c e), hd⟩
  refine ⟨I.ok, I.os, hg, ⟨fun b o e n hb hx => ?_, fun b o e n hb hx => ?_, fun b o e n hx => ?_, fun b o e hx => ?_, fun b xs e => tups b xs (I.base.tups b xs e), fun b o xs e => frzs b o xs (I.base.frzs b o xs e), fun b ps e => ?_⟩, ?_, fun x c e => ?_, ?_, fun x c e => ?_, fun p hp => ?_, hok, I.len⟩
  · exact keep b o (neL b o e) hb (neC b o e hx) (I.base.keep b o e n hb hx) (I.base.free b o e n hx)
  · obtain ⟨sl, e1⟩ := I.base.slot b o e n hb hx
    obtain ⟨sl', e2⟩ := slot b _ (neL b o e) hb (neC b o e hx) e1 (I.base.free b o e n hx)
    exact ⟨sl', e2⟩
  · obtain ⟨o', e1⟩ := I.base.there b o e hx
    exact free b o' (neC b o e hx) e1 (I.base.free b o e n hx)
  · obtain ⟨o', e1⟩ := I.base.there b o e hx
    exact there b o' (neC b o e hx) e1
  · obtain ⟨m1, e1⟩ := I.base.tbls b ps e
    obtain ⟨m2, e2⟩ := tbls b _ e1
    exact ⟨m1 ++ m2, by rw [e2, Array.append_assoc]⟩
  · obtain ⟨m, hn, hl⟩ := I.loc
    refine ⟨m, ns m hn, fun i x v e1 e2 e3 => ?_⟩
    obtain ⟨u, r, l⟩ := hl i x v e1 e2 e3
    refine ⟨u, r, ?_⟩
    rcases l with l | ⟨k, c, e, z⟩
    · exact .inl l
    · exact .inr ⟨k, c, e, cellK x c e _ z⟩
  · obtain ⟨v, z⟩ := I.cell x c e
    exact ⟨v, cellK x c e v z⟩
  · obtain ⟨m, ⟨o, _, _, ho, _⟩, _⟩ := I.loc
    exact free _ o (fun z => (hch _ z).2.1 rfl) ho I.free
  · obtain ⟨v, o, ho, hd⟩ := I.cell x c e
    exact free c o (fun z => (hch c z).2.2.1 x c e rfl) ho (I.freeC x c e)
  · obtain ⟨e, n, ne, nf, d⟩ := I.pin p hp
    have nch : p.1 ∉ ch := fun z => (hch p.1 z).2.2.2 p hp rfl
    exact ⟨keep p.1 p.2 ne nf nch e n, free p.1 p.2 nch e n, ne, nf, d⟩
theorem Inv.un {t' : Nat} (I : Inv X pins σ H s) (u : Un X.fs [] H H' s.heap h') (hok : HOk X.prog X.w H' h') : Inv X pins σ H' { s with heap := h', toks := t' } := by
  obtain ⟨m, ⟨o, es, ep, ho, r⟩, _⟩ := id I.loc
  obtain ⟨sl, hL⟩ := u.any ho I.free (by simp)
  exact I.step (g' := s.gens) (d' := s.drawn) (ch := []) (fun _ z => nomatch z) (fun b o _ hb _ e n => u.keep b o e n hb (by simp)) (fun b o _ hb _ e n => u.slot b o e n hb (by simp)) (fun b o _ e n => u.free b o e n (by simp)) (fun b o _ e => u.there b o e (by simp)) u.tups u.frzs u.tbls (fun m' hm => by
    obtain ⟨o', es', ep', ho', r'⟩ := hm
    rw [ho] at ho'; cases ho'
    exact ⟨_, es', ep', hL, r'⟩) hok I.bare
theorem Inv.call {g' : Array GenState} {t' : Nat} {d' : Drawn} {ch : List Addr} (I : Inv X pins σ H s) (u : Un (frs X.stack) ch H H' s.heap h') (hok : HOk X.prog X.w H' h') (hg : AllBare g')
    (hch : ∀ b ∈ ch, (b ∈ X.ex ∨ X.s₀.heap.objs.size ≤ b) ∧ b ≠ X.env.locals ∧ (∀ x c, X.env.cells.lookup x = some c → c ≠ b) ∧ ∀ p ∈ X.pn ++ pins, p.1 ≠ b) :
    Inv X pins σ H' { s with heap := h', gens := g', drawn := d', toks := t' } := by
  obtain ⟨m, ⟨o, es, ep, ho, r⟩, _⟩ := id I.loc
  obtain ⟨sl, hL⟩ := u.any ho I.free fun z => (hch _ z).2.1 rfl
  exact I.step (ch := ch) hch (fun b o hL hb hc e n => u.keep b o e n (fun z => (List.mem_cons.mp (I.stkSub b z)).elim hL hb) hc) (fun b o _ _ hc e n => u.any e n hc) (fun b o hc e n => u.free b o e n hc) (fun b o hc e => u.there b o e hc) u.tups u.frzs u.tbls (fun m' hm => by
    obtain ⟨o', es', ep', ho', r'⟩ := hm
    rw [ho] at ho'; cases ho'
    exact ⟨_, es', ep', hL, r'⟩) hok hg
theorem Inv.turned {t' : Nat} {it : Addr} (I : Inv X pins σ H s) (k : ∀ b o, b ≠ it → s.heap.get? b = some o → h'.get? b = some o) (hn : H it = none) (hL : it ≠ X.env.locals)
    (h1 : it ∈ X.ex ∨ X.s₀.heap.objs.size ≤ it) (h2 : ∀ x c, X.env.cells.lookup x = some c → c ≠ it) (h3 : ∀ p ∈ X.pn ++ pins, p.1 ≠ it) : Inv X pins σ H { s with heap := h', toks := t' } := by
  have nit : ∀ b u, H b = some u → b ≠ it := fun b u e z => by rw [z, hn] at e; cases e
  refine I.step (g' := s.gens) (d' := s.drawn) (ch := [it]) (fun b hb => ?_) (fun b o _ _ hc e _ => k b o (fun z => hc (by simp [z])) e) (fun b o _ _ hc e _ => ⟨o.slots, k b o (fun z => hc (by simp [z])) e⟩) (fun _ _ _ _ n => n)
    (fun b o hc e => ⟨o, k b o (fun z => hc (by simp [z])) e⟩) (fun _ _ e => e) (fun _ _ _ e => e) (fun b ps e => ⟨#[], by rw [e]; simp⟩) (fun m hm => ?_) (fun b u e => ?_) I.bare
  · have e : b = it := by simpa using hb
    subst e
    exact ⟨h1, hL, h2, h3⟩
  · obtain ⟨o, es, ep, ho, r⟩ := hm
    exact ⟨o, es, ep, k _ o (Ne.symm hL) ho, r⟩
  · refine (I.hok b u e).stay (fun c v hc q => k c v ?_ q) (fun _ q => q) (fun _ _ q => q) fun _ _ _ q => q
    rcases hc with z | z
    · rw [z]; exact nit b u e
    · exact nit c _ z
theorem Inv.tok (I : Inv X pins σ H s) (t : Nat) : Inv X pins σ H { s with toks := t } := I.un (h' := s.heap) (t' := t) Un.refl I.hok
theorem Inv.kept {t' : Nat} (I : Inv X pins σ H s) (k : ∀ b u, s.heap.get? b = some u → h'.get? b = some u) : Inv X pins σ H { s with heap := h', toks := t' } := I.un (Un.kept k) (I.hok.kept k)
theorem Inv.laid {a : Addr} {o : HO} {t' : Nat} (I : Inv X pins σ H s) (k : ∀ b u, s.heap.get? b = some u → h'.get? b = some u) (hp : s.heap.objs.size ≤ a) (new : ObjOk X.prog X.w (upd H a o) h' a o) :
    Inv X pins σ (upd H a o) { s with heap := h', toks := t' } := I.un (Un.laid k hp (I.hok.fresh hp)) (I.hok.laid k hp new)
theorem Inv.write {x e : Addr} {o : HO} {t' : Nat} (I : Inv X pins σ H s) (mu : Mut (H x)) (he : e = x ∨ H e = some (.own x)) (k : ∀ b u, b ≠ e → s.heap.get? b = some u → h'.get? b = some u) (heo : ∃ u, h'.get? e = some u)
    (new : ObjOk X.prog X.w (upd H x o) h' x o) : Inv X pins σ (upd H x o) { s with heap := h', toks := t' } := I.un (Un.write mu he k heo) (I.hok.write mu he k heo new)
theorem Inv.pins_of {pins' : List (Addr × Obj)} (I : Inv X pins σ H s) (h : ∀ p ∈ pins', s.heap.get? p.1 = some p.2 ∧ H p.1 = none ∧ p.1 ≠ X.env.locals ∧ p.1 ∉ X.fs ∧ ∀ v, p.2.data ≠ .cell v) : Inv X pins' σ H s :=
  ⟨I.ok, I.os, I.bare, I.base, I.loc, I.cell, I.free, I.freeC, fun p hp => (List.mem_append.mp hp).elim (fun z => I.pin p (List.mem_append_left _ z)) (h p), I.hok, I.len⟩
theorem nodup_ix {N : List Str} (hN : N.Nodup) {i j : Nat} {x : Str} (a : N[i]? = some x) (b : N[j]? = some x) : i = j := by
  obtain ⟨h1, e1⟩ := List.getElem?_eq_some_iff.mp a
  obtain ⟨h2, e2⟩ := List.getElem?_eq_some_iff.mp b
  exact (List.getElem_inj hN).mp (e1.trans e2.symm)
theorem store_ok2 {M : Model} {A : Around} {E : Value → Shared → Prop} {i : Nat} {x : Str} {v : V} {u : Value} {Q : Unit → Shared → Prop} (I : Inv X pins σ H s) (hN : X.N.Nodup) (hi : X.N[i]? = some x) (hx : Loc X.env.scope x) (r : RelV v u)
    (h : ∀ s', Inv X pins (σ.set i (some v)) H s' → (∃ a, Heap.SameBut a s.heap s'.heap ∧ (a = X.env.locals ∨ X.env.cells.lookup x = some a)) → Q () s') (hf : X.fn x = true ∨ X.env.scope.names.lookup x = some .local := by first | exact .inl rfl | exact .inr rfl | assumption) : wpAny M A (storeName X.env x u) Q E s := by
  obtain ⟨m, hn, hl⟩ := id I.loc
  have hcls : (X.env.scope.kind == .class || (X.env.scope.kind == .module && X.env.locals != X.env.globals)) = false := by rw [I.ok.kind]; rfl
  have hiσ : i < σ.length := by rw [I.len]; exact (List.getElem?_eq_some_iff.mp hi).1
  have cne := I.cne
  have tracked : ∀ {a : Addr} {h' : Heap}, (∃ o, s.heap.get? a = some o ∧ H a = none) → Heap.SameBut a s.heap h' → HOk X.prog X.w H h' := fun {a h'} ha hs b ob e => by
    obtain ⟨_, _, hfree⟩ := ha
    refine (I.hok b ob e).stay (fun c w' hc q => (hs.2 c ?_).trans q) (fun _ q => q) (fun _ _ q => q) fun _ _ _ q => q
    rintro rfl
    rcases hc with rfl | hc
    · rw [hfree] at e; cases e
    · rw [hfree] at hc; cases hc
  rcases hx with hk | hk
  · refine wpAny_storeName_local hk hn (fun h' hn' hs => ?_) hcls
    obtain ⟨oL, _, _, hoL, _⟩ := id hn
    refine h _ ⟨I.ok, I.os, I.bare, ⟨fun b o e n hb hx => ?_, fun b o e n hb hx => ?_, I.base.free, fun b o e hx => ?_, I.base.tups, I.base.frzs, I.base.tbls⟩, ⟨_, hn', fun j y v' e1 e2 e3 => ?_⟩, fun y c e => ?_, I.free, I.freeC, fun p hp => ?_, tracked ⟨oL, hoL, I.free⟩ hs, by simpa using I.len⟩ ⟨_, hs, .inl rfl⟩
    · exact (hs.2 b (Nat.ne_of_lt (Nat.lt_of_lt_of_le (Heap.lt_size e) I.ok.above))).trans (I.base.keep b o e n hb hx)
    · obtain ⟨sl, e1⟩ := I.base.slot b o e n hb hx
      exact ⟨sl, (hs.2 b (Nat.ne_of_lt (Nat.lt_of_lt_of_le (Heap.lt_size e) I.ok.above))).trans e1⟩
    · obtain ⟨o', e1⟩ := I.base.there b o e hx
      exact ⟨o', (hs.2 b (Nat.ne_of_lt (Nat.lt_of_lt_of_le (Heap.lt_size e) I.ok.above))).trans e1⟩
    · by_cases hj : j = i
      · subst hj
        rw [hi] at e1; cases e1
        rw [List.getElem?_set_self hiσ] at e2
        cases e2
        exact ⟨u, r, .inl ⟨hk, by simp⟩⟩
      · rw [List.getElem?_set_ne (Ne.symm hj)] at e2
        obtain ⟨u', r', q⟩ := hl j y v' e1 e2 e3
        refine ⟨u', r', ?_⟩
        rcases q with ⟨k, e⟩ | ⟨k, c, e, z⟩
        · refine .inl ⟨k, ?_⟩
          have : y ≠ x := fun e => hj (nodup_ix hN e1 (e ▸ hi))
          simp [this, e]
        · exact .inr ⟨k, c, e, z.sameBut hs (cne y c e)⟩
    · obtain ⟨w', z⟩ := I.cell y c e
      exact ⟨w', z.sameBut hs (cne y c e)⟩
    · obtain ⟨e, n, ne, nf, d⟩ := I.pin p hp
      exact ⟨(hs.2 p.1 ne).trans e, n, ne, nf, d⟩
  · have hfn : X.fn x = true := by
      rcases hf with z | z
      · exact z
      · rw [z] at hk; cases hk
    obtain ⟨c, hc⟩ := I.ok.has x (.inl hk)
    obtain ⟨w', z⟩ := I.cell x c hc
    refine wpAny_storeName_cell I.ok.kind hk hc z (fun h' hc' hs => ?_)
    obtain ⟨oc, hoc, hocd⟩ := id z
    refine h { s with heap := h' } ⟨I.ok, I.os, I.bare, ⟨fun b o e n hb hx => ?_, fun b o e n hb hx => ?_, I.base.free, fun b o e hx => ?_, I.base.tups, I.base.frzs, I.base.tbls⟩, ⟨m, hn.sameBut hs (Ne.symm (cne x c hc)), fun j y v' e1 e2 e3 => ?_⟩, fun y c' e => ?_, I.free, I.freeC, fun p hp => ?_, tracked ⟨oc, hoc, I.freeC x c hc⟩ hs, by simpa using I.len⟩ ⟨c, hs, .inr hc⟩
    · exact (hs.2 b (Nat.ne_of_lt (Nat.lt_of_lt_of_le (Heap.lt_size e) (I.ok.cab x c hfn hc)))).trans (I.base.keep b o e n hb hx)
    · obtain ⟨sl, e1⟩ := I.base.slot b o e n hb hx
      exact ⟨sl, (hs.2 b (Nat.ne_of_lt (Nat.lt_of_lt_of_le (Heap.lt_size e) (I.ok.cab x c hfn hc)))).trans e1⟩
    · obtain ⟨o', e1⟩ := I.base.there b o e hx
      exact ⟨o', (hs.2 b (Nat.ne_of_lt (Nat.lt_of_lt_of_le (Heap.lt_size e) (I.ok.cab x c hfn hc)))).trans e1⟩
    · by_cases hj : j = i
      · subst hj
        rw [hi] at e1; cases e1
        rw [List.getElem?_set_self hiσ] at e2
        cases e2
        exact ⟨u, r, .inr ⟨.inl hk, c, hc, hc'⟩⟩
      · rw [List.getElem?_set_ne (Ne.symm hj)] at e2
        obtain ⟨u', r', q⟩ := hl j y v' e1 e2 e3
        refine ⟨u', r', ?_⟩
        rcases q with q | ⟨k, c', e, z'⟩
        · exact .inl q
        · refine .inr ⟨k, c', e, z'.sameBut hs ?_⟩
          rintro rfl
          exact hj (nodup_ix hN e1 (I.ok.inj _ _ _ e hc ▸ hi))
    · by_cases hcc : c' = c
      · subst hcc; exact ⟨_, hc'⟩
      · obtain ⟨w2, z2⟩ := I.cell y c' e
        exact ⟨w2, z2.sameBut hs hcc⟩
    · obtain ⟨e, n, ne, nf, d⟩ := I.pin p hp
      refine ⟨(hs.2 p.1 ?_).trans e, n, ne, nf, d⟩
      intro q
      rw [q, hoc] at e
      have q' : oc = p.2 := Option.some.inj e
      exact d w' (by rw [← q']; exact hocd)
theorem store_ok {M : Model} {A : Around} {E : Value → Shared → Prop} {i : Nat} {x : Str} {v : V} {u : Value} {Q : Unit → Shared → Prop} (I : Inv X pins σ H s) (hN : X.N.Nodup) (hi : X.N[i]? = some x) (hx : Loc X.env.scope x) (r : RelV v u)
    (h : ∀ s', Inv X pins (σ.set i (some v)) H s' → Q () s') (hf : X.fn x = true ∨ X.env.scope.names.lookup x = some .local := by first | exact .inl rfl | exact .inr rfl | assumption) : wpAny M A (storeName X.env x u) Q E s :=
  store_ok2 I hN hi hx r (fun s' I' _ => h s' I') hf
theorem Inv.call' {s' : Shared} {ch : List Addr} (I : Inv X pins σ H s) (ho : s'.os = s.os) (u : Un (frs X.stack) ch H H' s.heap s'.heap) (hok : HOk X.prog X.w H' s'.heap) (hg : AllBare s'.gens)
    (hch : ∀ b ∈ ch, (b ∈ X.ex ∨ X.s₀.heap.objs.size ≤ b) ∧ b ≠ X.env.locals ∧ (∀ x c, X.env.cells.lookup x = some c → c ≠ b) ∧ ∀ p ∈ X.pn ++ pins, p.1 ≠ b) : Inv X pins σ H' s' := by
  obtain ⟨h', g', d', t', o'⟩ := s'
  have e : o' = s.os := ho
  subst e
  exact I.call (g' := g') (t' := t') (d' := d') u hok hg hch
end
abbrev XK := Value → Option Addr → Hp → Prop
abbrev St := List (Option V)
abbrev VK := V → Hp → Prop
abbrev TE := St → Hp → VK → Prop
abbrev TT := St → Hp → (Bool → Hp → Prop) → Prop
abbrev TA := St → Hp → (List V → Hp → Prop) → Prop
structure Ends where
  nx : St → Hp → Prop
  rt : VK
  bk : St → Hp → Prop := fun _ _ => False
  ct : St → Hp → Prop := fun _ _ => False
abbrev TS := Ends → St → Hp → Prop
def EP (X : Cx) (pins : List (Addr × Obj)) (σ : St) (Q : VK) (u : Value) (s' : Shared) : Prop := ∃ v H', Inv X pins σ H' s' ∧ RelV v u ∧ Q v H'
def TP (X : Cx) (pins : List (Addr × Obj)) (σ : St) (Q : Bool → Hp → Prop) (b : Bool) (s' : Shared) : Prop := ∃ H', Inv X pins σ H' s' ∧ Q b H'
def AP (X : Cx) (pins : List (Addr × Obj)) (σ : St) (Q : List V → Hp → Prop) (us : List Value) (s' : Shared) : Prop := ∃ vs H', Inv X pins σ H' s' ∧ Vals vs us ∧ Q vs H'
def SP (X : Cx) (pins : List (Addr × Obj)) (D : Ends) (f : Flow) (s' : Shared) : Prop :=
  match f with
  | .next => ∃ σ' H', Inv X pins σ' H' s' ∧ D.nx σ' H'
  | .brk => ∃ σ' H', Inv X pins σ' H' s' ∧ D.bk σ' H'
  | .cont => ∃ σ' H', Inv X pins σ' H' s' ∧ D.ct σ' H'
  | .ret u => ∃ v σ' H', Inv X pins σ' H' s' ∧ RelV v u ∧ D.rt v H'
def PE (X : Cx) (e : Expr) (t : TE) : Prop :=
  ∀ (pins : List (Addr × Obj)) (s : Shared) (σ : St) (H : Hp) (Q : VK), Inv X pins σ H s → t σ H Q → wpAny (model X.prog X.w) X.A (eval e X.env) (EP X pins σ Q) X.xe s
def PT (X : Cx) (e : Expr) (t : TT) : Prop :=
  ∀ (pins : List (Addr × Obj)) (s : Shared) (σ : St) (H : Hp) (Q : Bool → Hp → Prop), Inv X pins σ H s → t σ H Q → wpAny (model X.prog X.w) X.A (isTrue e X.env (eval e X.env)) (TP X pins σ Q) X.xe s
def PW (X : Cx) (e : Expr) (t : TT) : Prop :=
  ∀ (whole : Sem Value) (pins : List (Addr × Obj)) (s : Shared) (σ : St) (H : Hp) (Q : Bool → Hp → Prop), Inv X pins σ H s → t σ H Q → wpAny (model X.prog X.w) X.A (isTrue e X.env whole) (TP X pins σ Q) X.xe s
theorem PW.pt {X : Cx} {e : Expr} {t : TT} (h : PW X e t) : PT X e t := h _
def PA (X : Cx) (es : List Expr) (t : TA) : Prop :=
  ∀ (pos : Pos) (pins : List (Addr × Obj)) (s : Shared) (σ : St) (H : Hp) (Q : List V → Hp → Prop), Inv X pins σ H s → t σ H Q → wpAny (model X.prog X.w) X.A (spliced (backTo pos (starEach es X.env))) (AP X pins σ Q) X.xe s
def PS (X : Cx) (st : Stmt) (t : TS) : Prop :=
  ∀ (pins : List (Addr × Obj)) (s : Shared) (σ : St) (H : Hp) (D : Ends), Inv X pins σ H s → t D σ H → wpAny (model X.prog X.w) X.A (exec st X.env) (SP X pins D) X.xe s
def PSs (X : Cx) (st : List Stmt) (t : TS) : Prop :=
  ∀ (pins : List (Addr × Obj)) (s : Shared) (σ : St) (H : Hp) (D : Ends), Inv X pins σ H s → t D σ H → wpAny (model X.prog X.w) X.A (execs st X.env) (SP X pins D) X.xe s
theorem thn {α : Type} {t : Sem α} {Q Q' : α → Shared → Prop} {M : Model} {A : Around} {E : Value → Shared → Prop} {s : Shared} (h : wpAny M A t Q E s) (hQ : ∀ a s, Q a s → Q' a s) : wpAny M A t Q' E s := wpAny_mono h hQ fun _ _ x => x
end L2
namespace L2
open PySem PySem.Spec PyProof.Rows
section
variable {X : Cx}
def tVar (i : Nat) : TE := fun σ H Q => ∃ v, σ[i]? = some (some v) ∧ Q v H
def tC (v : V) : TE := fun _ H Q => Q v H
theorem pe_var {i : Nat} {x : Str} {pos : Pos} (hN : X.N[i]? = some x) (hv : Vis X.env.scope x) (hd : (x == ("__debug__" : Str)) = false := by decide) (hcd : (x == ("__classdict__" : Str)) = false := by decide) : PE X (.Name x pos) (tVar i) := by
  intro pins s σ H Q I h
  obtain ⟨v, e, h⟩ := h
  obtain ⟨m, hn, hl⟩ := I.loc
  obtain ⟨u, r, l⟩ := hl i x v hN e hv
  have fin : EP X pins σ Q u s := ⟨v, H, I, r, h⟩
  rcases l with ⟨hk, hm⟩ | ⟨hk, c, hc, hcell⟩
  · exact wpAny_Name (wpAny_loadName_local I.ok.kind hk hn hm fin) hd
  · rcases hk with hk | hk
    · exact wpAny_Name (wpAny_loadName_cell I.ok.kind hk hc hcell fin) hd
    · exact wpAny_Name (wpAny_loadName_free I.ok.kind hk hc hcell fin hcd) hd
theorem pe_int {i j pos} : PE X (.Constant (.int i) j pos) (tC (.int i)) := fun _ _ _ H _ I h => wpAny_Constant_int ⟨.int i, H, I.tok _, ⟨_, rfl⟩, h⟩
theorem pe_bl {b j pos} : PE X (.Constant (.bool b) j pos) (tC (.bl b)) := fun _ _ _ H _ I h => Constant_bool ⟨.bl b, H, I, rfl, h⟩
theorem pe_str {x j pos} : PE X (.Constant (.str x) j pos) (tC (.str x)) := fun _ _ _ H _ I h => Calls.Constant_str ⟨.str x, H, I.tok _, ⟨_, rfl⟩, h⟩
def Gl (X : Cx) (x : Str) : Prop := X.env.kindOf x = some .globalImplicit
theorem ld_glob {E : Value → Shared → Prop} {pins : List (Addr × Obj)} {s : Shared} {σ : St} {H : Hp} {x : Str} {u : Value} {pos : Pos} {Q : Value → Shared → Prop} (I : Inv X pins σ H s) (hg : Gl X x) (hm : X.mg x = some u) (h : Q u s)
    (hd : (x == ("__debug__" : Str)) = false := by decide) : wpAny (model X.prog X.w) X.A (eval (.Name x pos) X.env) Q E s :=
  Calls.Name_function_global I.ok.kind hg (Calls.loadGlobal_global (by rw [I.ok.glob]; exact I.mod.glob.keeps I.bk) hm h) hd
theorem ld_blt {E : Value → Shared → Prop} {pins : List (Addr × Obj)} {s : Shared} {σ : St} {H : Hp} {x : Str} {u : Value} {pos : Pos} {Q : Value → Shared → Prop} (I : Inv X pins σ H s) (hg : Gl X x) (hm : X.mg x = none) (hv : bootBuiltins x = some u) (h : Q u s)
    (hn : x ≠ "__name__" := by decide) (hd : (x == ("__debug__" : Str)) = false := by decide) : wpAny (model X.prog X.w) X.A (eval (.Name x pos) X.env) Q E s := by
  obtain ⟨mb, h1, h2⟩ := I.mod.blt
  exact Calls.Name_function_global I.ok.kind hg (Calls.loadGlobal_builtin (by rw [I.ok.glob]; exact I.mod.glob.keeps I.bk) hm (by rw [I.ok.blt]; exact h1.keeps I.bk) ((h2 x hn).trans hv) h) hd
theorem pe_glob {x : Str} {v : V} {u : Value} {pos : Pos} (hg : Gl X x) (hm : X.mg x = some u) (r : RelV v u) (hd : (x == ("__debug__" : Str)) = false := by decide) : PE X (.Name x pos) (tC v) :=
  fun _ _ _ H _ I h => ld_glob I hg hm ⟨v, H, I, r, h⟩ hd
variable {a b : Expr} {ta tb : TE} {pos : Pos}
def tB (t : TE) : TT := fun σ H Q => t σ H fun x H1 => ∃ c, x = .bl c ∧ Q c H1
theorem pt_val {e : Expr} {t : TE} (h : PE X e t) (he : ∀ whole, isTrue e X.env whole = (do let v ← whole; standAt e.pos; holding [v] (truthy v)) := by intro _; rfl) : PT X e (tB t) := by
  intro pins s σ H Q I hw
  refine isTrue_plain (thn (h pins s σ H _ I hw) fun v s1 ⟨x, H1, I1, r1, q1⟩ => ?_) (he _)
  obtain ⟨d, rfl, q⟩ := q1
  cases r1
  exact wpAny_truthy_bool ⟨H1, I1, q⟩
variable {tA tB' : TT} {rest : List Expr}
def tAnd (t u : TT) : TT := fun σ H Q => t σ H fun c H1 => if c = true then u σ H1 Q else Q false H1
def tOr (t u : TT) : TT := fun σ H Q => t σ H fun c H1 => if c = true then Q true H1 else u σ H1 Q
theorem pw_and1 (ha : PT X a tA) : PW X (.BoolOp .And [a] pos) tA := by
  intro wh pins s σ H Q I h
  refine isTrue_and (thn (ha pins s σ H Q I h) fun c s1 e => ?_)
  cases c with
  | true => exact isTrue_and_nil e
  | false => exact e
theorem pw_or1 (ha : PT X a tA) : PW X (.BoolOp .Or [a] pos) tA := by
  intro wh pins s σ H Q I h
  refine isTrue_or (thn (ha pins s σ H Q I h) fun c s1 e => ?_)
  cases c with
  | false => exact isTrue_or_nil e
  | true => exact e
theorem pw_and (ha : PT X a tA) (hb : PW X (.BoolOp .And (b :: rest) pos) tB') : PW X (.BoolOp .And (a :: b :: rest) pos) (tAnd tA tB') := by
  intro wh pins s σ H Q I h
  refine isTrue_and (thn (ha pins s σ H _ I h) fun c s1 ⟨H1, I1, q1⟩ => ?_)
  cases c with
  | true => exact hb wh pins s1 σ H1 Q I1 q1
  | false => exact ⟨H1, I1, q1⟩
theorem pw_or (ha : PT X a tA) (hb : PW X (.BoolOp .Or (b :: rest) pos) tB') : PW X (.BoolOp .Or (a :: b :: rest) pos) (tOr tA tB') := by
  intro wh pins s σ H Q I h
  refine isTrue_or (thn (ha pins s σ H _ I h) fun c s1 ⟨H1, I1, q1⟩ => ?_)
  cases c with
  | true => exact ⟨H1, I1, q1⟩
  | false => exact hb wh pins s1 σ H1 Q I1 q1
def tAndV (ta tb : TE) : TE := fun σ H Q => ta σ H fun x H1 => ∃ c, x = .bl c ∧ if c = true then tb σ H1 Q else Q (.bl false) H1
theorem pe_one {op} {t : TE} (h : PE X a t) : PE X (.BoolOp op [a] pos) t := fun pins s σ H Q I hw => BoolOp_one (h pins s σ H Q I hw)
theorem pe_and (ha : PE X a ta) (hb : PE X (.BoolOp .And (b :: rest) pos) tb) : PE X (.BoolOp .And (a :: b :: rest) pos) (tAndV ta tb) := by
  intro pins s σ H Q I h
  refine BoolOp_and (thn (ha pins s σ H _ I h) fun v s1 ⟨x, H1, I1, r1, q1⟩ => ?_)
  obtain ⟨c, rfl, q1⟩ := q1
  cases r1
  refine wpAny_truthy_bool ?_
  cases c with
  | true => exact hb pins s1 σ H1 Q I1 q1
  | false => exact ⟨.bl false, H1, I1, rfl, q1⟩
def tIf (t : TT) (ta tb : TE) : TE := fun σ H Q => t σ H fun c H1 => if c = true then ta σ H1 Q else tb σ H1 Q
theorem pe_ifExp {c : Expr} (hc : PT X c tA) (ha : PE X a ta) (hb : PE X b tb) : PE X (.IfExp c a b pos) (tIf tA ta tb) := by
  intro pins s σ H Q I h
  refine wpAny_IfExp (thn (hc pins s σ H _ I h) fun d s1 ⟨H1, I1, q1⟩ => ?_)
  cases d with
  | true => exact ha pins s1 σ H1 Q I1 q1
  | false => exact hb pins s1 σ H1 Q I1 q1
end
end L2
namespace L2
open PySem PySem.Spec PyProof.Rows
def SqL (K : PySem.W.Frag) (H : Hp) (a : Addr) (xs : List V) : Prop :=
  Rd H a (.lst xs) ∨
    ∃ (o : Obj) (its : Array Value) (n : Nat), K.lookup a = some o ∧ o.cls = .type "list" ∧ o.dict = none ∧ o.data = .seq its n ∧ its.size ≤ sizeLine ∧ Vals xs its.toList
def SqT (K : PySem.W.Frag) (H : Hp) (a : Addr) (xs : List V) : Prop :=
  Rd H a (.tup xs) ∨
    ∃ (o : Obj) (its : Array Value) (n : Nat), K.lookup a = some o ∧ (o.cls = .type "tuple" ∧ o.dict = none) ∧ o.data = .seq its n ∧ its.size ≤ sizeLine ∧ Vals xs its.toList
def absV : Value → Option V
  | .none => some .non
  | .bool b => some (.bl b)
  | .int i _ => some (.int i)
  | .str x _ => some (.str x)
  | .bytes b _ => some (.byt b)
  | .float b _ => some (.flt b)
  | .ref a => some (.ref a)
  | .type n => some (.ty n)
  | _ => none
theorem RelV.abs {x : V} {u : Value} (r : RelV x u) : absV u = some x := by
  cases x with
  | non => cases r; rfl
  | bl _ => cases r; rfl
  | int _ => obtain ⟨t, rfl⟩ := r; rfl
  | str _ => obtain ⟨t, rfl⟩ := r; rfl
  | byt _ => obtain ⟨t, rfl⟩ := r; rfl
  | flt _ => obtain ⟨t, rfl⟩ := r; rfl
  | ref _ => cases r; rfl
  | ty _ => cases r; rfl
theorem RelV.inj {x y : V} {u : Value} (r : RelV x u) (q : RelV y u) : x = y := Option.some.inj (r.abs.symm.trans q.abs)
theorem Vals.inj : ∀ {xs ys : List V} {us : List Value}, Vals xs us → Vals ys us → xs = ys
  | _, _, _, .nil, .nil => rfl
  | _, _, _, .cons r t, .cons r' t' => by rw [r.inj r', Vals.inj t t']
section
variable {X : Cx} {pins : List (Addr × Obj)} {σ : St} {H : Hp} {s : Shared} {a : Addr} {xs ys : List V}
theorem SqL.of {K : PySem.W.Frag} (h : H a = some (.lst xs)) : SqL K H a xs := .inl (.inl h)
theorem SqT.of {K : PySem.W.Frag} (h : H a = some (.tup xs)) : SqT K H a xs := .inl (.inl h)
theorem Inv.list (I : Inv X pins σ H s) (h : SqL X.K H a xs) : ∃ its : List Value, Vals xs its ∧ PlainL s.heap a its.toArray ∧ xs.length ≤ sizeLine := by
  rcases h with h | ⟨o, its, n, hk, hc, hd, hs, hz, r⟩
  · obtain ⟨z, its, n, r, e⟩ := h.ok I.hok
    exact ⟨its, r, ⟨_, n, e, rfl, rfl, rfl⟩, z⟩
  · refine ⟨its.toList, r, ⟨o, n, I.kIn a o hk, hc, hd, by simpa using hs⟩, ?_⟩
    have e := r.length
    simp only [Array.length_toList] at e
    omega
theorem Inv.tuple (I : Inv X pins σ H s) (h : SqT X.K H a xs) : ∃ its : List Value, Vals xs its ∧ IsTup s.heap a its.toArray ∧ xs.length ≤ sizeLine := by
  rcases h with h | ⟨o, its, n, hk, hc, hs, hz, r⟩
  · obtain ⟨z, its, r, p⟩ := h.ok I.hok
    exact ⟨its, r, p, z.1⟩
  · refine ⟨its.toList, r, ⟨o, I.kIn a o hk, hc.1, n, by simpa using hs⟩, ?_⟩
    have e := r.length
    simp only [Array.length_toList] at e
    omega
theorem Inv.list_inj (I : Inv X pins σ H s) (h : SqL X.K H a xs) (h' : SqL X.K H a ys) : xs = ys := by
  obtain ⟨its, r, ⟨o, n, e, _, _, d⟩, _⟩ := I.list h
  obtain ⟨its', r', ⟨o', n', e', _, _, d'⟩, _⟩ := I.list h'
  rw [e] at e'; cases e'
  rw [d] at d'
  injection d' with d1 _
  have : its = its' := by simpa using congrArg Array.toList d1
  subst this
  exact r.inj r'
theorem Inv.tuple_inj (I : Inv X pins σ H s) (h : SqT X.K H a xs) (h' : SqT X.K H a ys) : xs = ys := by
  obtain ⟨its, r, ⟨o, e, _, n, d⟩, _⟩ := I.tuple h
  obtain ⟨its', r', ⟨o', e', _, n', d'⟩, _⟩ := I.tuple h'
  rw [e] at e'; cases e'
  rw [d] at d'
  injection d' with d1 _
  have : its = its' := by simpa using congrArg Array.toList d1
  subst this
  exact r.inj r'
end
abbrev Cx.wish (X : Cx) (E : Value → Shared → Prop) : Cx := { X with xe := E }
abbrev Cx.nox (X : Cx) : Cx := X.wish fun _ _ => False
theorem Cx.Ok.wish {X : Cx} (ok : X.Ok) (E : Value → Shared → Prop) : (X.wish E).Ok :=
  ⟨ok.mod, ok.kind, ok.glob, ok.blt, ok.above, ok.inj, ok.has, ok.cab, ok.hd, ok.frames, ok.stk, ok.exf, ok.bs, ok.bsz, ok.noex, ok.exfs, ok.funs, ok.frf⟩
theorem Cx.Ok.unwish {X : Cx} {E : Value → Shared → Prop} (ok : (X.wish E).Ok) : X.Ok :=
  ⟨ok.mod, ok.kind, ok.glob, ok.blt, ok.above, ok.inj, ok.has, ok.cab, ok.hd, ok.frames, ok.stk, ok.exf, ok.bs, ok.bsz, ok.noex, ok.exfs, ok.funs, ok.frf⟩
section
variable {X : Cx} {pins : List (Addr × Obj)} {σ : St} {H : Hp} {s : Shared} {E : Value → Shared → Prop}
theorem Inv.wish (I : Inv X pins σ H s) (E : Value → Shared → Prop) : Inv (X.wish E) pins σ H s := ⟨I.ok.wish E, I.os, I.bare, I.base, I.loc, I.cell, I.free, I.freeC, I.pin, I.hok, I.len⟩
theorem Inv.unwish (I : Inv (X.wish E) pins σ H s) : Inv X pins σ H s := ⟨I.ok.unwish, I.os, I.bare, I.base, I.loc, I.cell, I.free, I.freeC, I.pin, I.hok, I.len⟩
theorem SP.unwish {D : Ends} {f : Flow} {s' : Shared} (h : SP (X.wish E) pins D f s') : SP X pins D f s' := by
  cases f with
  | next => obtain ⟨σ', H', I, q⟩ := h; exact ⟨σ', H', I.unwish, q⟩
  | brk => obtain ⟨σ', H', I, q⟩ := h; exact ⟨σ', H', I.unwish, q⟩
  | cont => obtain ⟨σ', H', I, q⟩ := h; exact ⟨σ', H', I.unwish, q⟩
  | ret u => obtain ⟨v, σ', H', I, r, q⟩ := h; exact ⟨v, σ', H', I.unwish, r, q⟩
theorem PE.nox {e : Expr} {t : TE} (h : PE X.nox e t) : PE X e t := fun pins s σ H Q I hw =>
  wpAny_mono (h pins s σ H Q (I.wish _) hw) (fun _ _ ⟨v, H', I', r, q⟩ => ⟨v, H', I'.unwish, r, q⟩) fun _ _ z => False.elim z
theorem PT.nox {e : Expr} {t : TT} (h : PT X.nox e t) : PT X e t := fun pins s σ H Q I hw =>
  wpAny_mono (h pins s σ H Q (I.wish _) hw) (fun _ _ ⟨H', I', q⟩ => ⟨H', I'.unwish, q⟩) fun _ _ z => False.elim z
theorem PSs.nox {st : List Stmt} {t : TS} (h : PSs X.nox st t) : PSs X st t := fun pins s σ H D I hw =>
  wpAny_mono (h pins s σ H D (I.wish _) hw) (fun _ _ q => q.unwish) fun _ _ z => False.elim z
end
section
variable {X : Cx} {st : Stmt} {rest : List Stmt} {t u : TS} {e : Expr} {te : TE} {pos : Pos}
def tNext : TS := fun D σ H => D.nx σ H
def tSeq (t u : TS) : TS := fun D σ H => t { D with nx := u D } σ H
theorem pss_nil : PSs X [] tNext := fun _ _ σ H _ I h => wpAny_execs_nil ⟨σ, H, I, h⟩
theorem pss_cons (h1 : PS X st t) (h2 : PSs X rest u) : PSs X (st :: rest) (tSeq t u) := by
  intro pins s σ H D I h
  refine wpAny_execs_cons (thn (h1 pins s σ H { D with nx := u D } I h) fun f s1 q => ?_)
  cases f with
  | next =>
    obtain ⟨σ', H', I', q⟩ := q
    exact h2 pins s1 σ' H' D I' q
  | ret v => exact q
  | brk => exact q
  | cont => exact q
theorem Inv.quiet {pins : List (Addr × Obj)} {σ : St} {H : Hp} {s : Shared} (I : Inv X pins σ H s) : interactive X.env = false := by simp [interactive, I.ok.kind]
def tDrop (te : TE) : TS := fun D σ H => te σ H fun _ H1 => D.nx σ H1
theorem ps_expr (he : PE X e te) (hs : swapsWith e none pos.line X.env = pure false := by rfl) : PS X (.Expr e pos) (tDrop te) := by
  intro pins s σ H D I h
  exact wpAny_Expr_any (thn (he pins s σ H _ I h) fun v s1 ⟨x, H1, I1, r1, q1⟩ => ⟨σ, H1, I1, q1⟩) I.quiet hs
def tRet (te : TE) : TS := fun D σ H => te σ H D.rt
theorem ps_ret (he : PE X e te) : PS X (.Return (some e) pos) (tRet te) := by
  intro pins s σ H D I h
  exact wpAny_Return_some (thn (he pins s σ H _ I h) fun v s1 ⟨x, H1, I1, r1, q1⟩ => ⟨x, σ, H1, I1, r1, q1⟩)
def tIfS (c : TT) (t u : TS) : TS := fun D σ H => c σ H fun b H1 => if b = true then t D σ H1 else u D σ H1
theorem ps_if {c : Expr} {a b : List Stmt} {tc : TT} (hc : PT X c tc) (ha : PSs X a t) (hb : PSs X b u) : PS X (.If c a b pos) (tIfS tc t u) := by
  intro pins s σ H D I h
  refine wpAny_If (thn (hc pins s σ H _ I h) fun d s1 ⟨H1, I1, q1⟩ => ?_)
  cases d with
  | true => exact ha pins s1 σ H1 D I1 q1
  | false => exact hb pins s1 σ H1 D I1 q1
end
abbrev TG := V → St → Hp → (St → Hp → Prop) → Prop
abbrev TGs := List V → St → Hp → (St → Hp → Prop) → Prop
def PG (X : Cx) (target : Expr) (t : TG) : Prop :=
  ∀ (pins : List (Addr × Obj)) (s : Shared) (σ : St) (H : Hp) (v : V) (u : Value) (Q : St → Hp → Prop), Inv X pins σ H s → RelV v u → t v σ H Q →
    wpAny (model X.prog X.w) X.A (assign target X.env u) (fun _ s' => ∃ σ' H', Inv X pins σ' H' s' ∧ Q σ' H') X.xe s
def PGs (X : Cx) (ts : List Expr) (t : TGs) : Prop :=
  ∀ (pins : List (Addr × Obj)) (s : Shared) (σ : St) (H : Hp) (vs : List V) (us : List Value) (Q : St → Hp → Prop), Inv X pins σ H s → Vals vs us → t vs σ H Q →
    wpAny (model X.prog X.w) X.A (assignInOrder ((assignEach ts X.env).map (·.2)) us) (fun _ s' => ∃ σ' H', Inv X pins σ' H' s' ∧ Q σ' H') X.xe s
abbrev TSet := V → V → V → Hp → (Hp → Prop) → Prop
section
variable {X : Cx} {pos : Pos}
def gName (i : Nat) : TG := fun v σ H Q => Q (σ.set i (some v)) H
theorem pg_name {i : Nat} {x : Str} (hN : X.N.Nodup) (hi : X.N[i]? = some x) (hx : Loc X.env.scope x) (hf : X.fn x = true ∨ X.env.scope.names.lookup x = some .local := by first | exact .inl rfl | exact .inr rfl | assumption) : PG X (.Name x pos) (gName i) := by
  intro pins s σ H v u Q I r h
  exact wpAny_assign_Name (store_ok I hN hi hx r (fun s' I' => ⟨_, H, I', h⟩) hf)
def gNil : TGs := fun vs σ H Q => vs = [] ∧ Q σ H
def gCons (t : TG) (u : TGs) : TGs := fun vs σ H Q => ∃ v r, vs = v :: r ∧ t v σ H fun σ' H' => u r σ' H' Q
theorem pgs_nil : PGs X [] gNil := by
  intro pins s σ H vs us Q I r h
  obtain ⟨e, h⟩ := h
  subst e
  cases r
  exact assignInOrder_nil ⟨σ, H, I, h⟩
theorem pgs_cons {e : Expr} {es : List Expr} {t : TG} {u : TGs} (h1 : PG X e t) (h2 : PGs X es u)
    (hs : (assignEach (e :: es) X.env).map (·.2) = assign e X.env :: (assignEach es X.env).map (·.2) := by rfl) : PGs X (e :: es) (gCons t u) := by
  intro pins s σ H vs us Q I r h
  obtain ⟨v, vr, e1, h⟩ := h
  subst e1
  cases r with
  | cons r rr =>
    rw [hs]
    refine assignInOrder_cons (thn (h1 pins s σ H _ _ _ I r h) fun _ s1 ⟨σ1, H1, I1, q1⟩ => ?_)
    exact h2 pins s1 σ1 H1 _ _ Q I1 rr q1
def gTup (K : PySem.W.Frag) (n : Nat) (t : TGs) : TG := fun v σ H Q => ∃ a xs, v = .ref a ∧ SqT K H a xs ∧ xs.length = n ∧ t xs σ H Q
theorem pg_tup {es : List Expr} {k : Nat} {t : TGs} {n : Nat} (hc : X.calm = true) (h : PGs X es t)
    (hn : (assignEach es X.env).length = n := by rfl) (hst : (assignEach es X.env).findIdx? (·.1) = none := by rfl) : PG X (.Tuple es k pos) (gTup X.K n t) := by
  intro pins s σ H v u Q I r hw
  obtain ⟨a, xs, e1, hq, hl, hw⟩ := hw
  subst e1
  cases r
  obtain ⟨its, rv, ht, hz⟩ := I.tuple hq
  refine assign_Tuple_tuple (I.ok.hd hc) ht (by simp [hn, ← hl, rv.length]) hst fun h' hx => ?_
  have I1 : Inv X pins σ H { s with heap := h' } := I.kept (t' := s.toks) fun b o e => hx b o (Nat.ne_of_lt (Heap.lt_size e)) e
  exact h pins _ σ H xs _ Q I1 (by simpa using rv) hw
def tAsg (te : TE) (g : TG) : TS := fun D σ H => te σ H fun x H1 => g x σ H1 D.nx
theorem ps_set {i : Nat} {x : Str} {e : Expr} {te : TE} {pos' : Pos} (hN : X.N.Nodup) (hi : X.N[i]? = some x) (hx : Loc X.env.scope x) (he : PE X e te) (hs : swapsWith e (some (.Name x pos')) pos.line X.env = pure false := by rfl) (hf : X.fn x = true ∨ X.env.scope.names.lookup x = some .local := by first | exact .inl rfl | exact .inr rfl | assumption) :
    PS X (.Assign [.Name x pos'] e pos) (tAsg te (gName i)) := by
  intro pins s σ H D I h
  refine wpAny_Assign_Name (thn (he pins s σ H _ I h) fun v s1 ⟨y, H1, I1, r1, q1⟩ => ?_) hs
  exact store_ok I1 hN hi hx r1 (fun s2 I2 => ⟨_, H1, I2, q1⟩) hf
end
section
variable {X : Cx} {pos : Pos}
end
structure It where
  go : Nat → Hp → Prop
  yld : Nat → Hp → V → Hp → Prop
  stop : Nat → Hp → Prop
def FpOk (X : Cx) (pins : List (Addr × Obj)) (H : Hp) (b : Addr) : Prop :=
  H b = none ∧ b ≠ X.env.locals ∧ b ∉ X.fs ∧ (b ∈ X.ex ∨ X.s₀.heap.objs.size ≤ b) ∧ (∀ x c, X.env.cells.lookup x = some c → c ≠ b) ∧ ∀ p ∈ X.pn ++ pins, p.1 ≠ b
theorem Inv.fpOk {X : Cx} {pins : List (Addr × Obj)} {σ : St} {H H' : Hp} {s : Shared} {b : Addr} (I : Inv X pins σ H s) (hb : s.heap.objs.size ≤ b) (hn : H' b = none) : FpOk X pins H' b := by
  refine ⟨hn, Nat.ne_of_gt (Nat.lt_of_lt_of_le I.lt hb), I.nofs hb, .inr (Nat.le_trans I.sz hb), fun x c e z => ?_, fun p hp z => ?_⟩
  · obtain ⟨v, q⟩ := I.cell x c e
    exact absurd (Nat.lt_of_lt_of_le q.lt (by rw [z]; exact hb)) (Nat.lt_irrefl _)
  · exact absurd (Nat.lt_of_lt_of_le (Heap.lt_size (I.pin p hp).1) (by rw [z]; exact hb)) (Nat.lt_irrefl _)
structure Turn (P : Program) (w : World) (K : PySem.W.Frag) (tg : Expr) (J : It) (fp : List Addr) (it : Addr) (tn : Nat → Heap → Prop) : Prop where
  mem : it ∈ fp
  obj : ∀ i h, tn i h → ∀ b ∈ fp, ∃ o, h.get? b = some o ∧ ∀ v, o.data ≠ .cell v
  keep : ∀ i h h', tn i h → (∀ b ∈ fp, ∀ o, h.get? b = some o → h'.get? b = some o) → tn i h'
  item : ∀ (X : Cx), X.prog = P → X.w = w → X.K = K → X.calm = true → ∀ (i : Nat) (pins : List (Addr × Obj)) (s : Shared) (σ : St) (H : Hp) (E : Value → Shared → Prop), Inv X pins σ H s → (∀ b ∈ fp, FpOk X pins H b) → tn i s.heap → J.go i H →
    wpAny (model P w) X.A (pyNext (.ref it)) (fun r s1 => ∃ u, r = some u ∧
      wpAny (model P w) X.A (letOwnedTupleGo tg (.ref it) u) (fun _ s2 => ∃ x H', Inv X pins σ H' s2 ∧ RelV x u ∧ J.yld i H x H' ∧ tn (i + 1) s2.heap ∧ ∀ b ∈ fp, H' b = none) E s1) E s
  done : ∀ (X : Cx), X.prog = P → X.w = w → X.K = K → X.calm = true → ∀ (i : Nat) (pins : List (Addr × Obj)) (s : Shared) (σ : St) (H : Hp) (E : Value → Shared → Prop), Inv X pins σ H s → (∀ b ∈ fp, FpOk X pins H b) → tn i s.heap → J.stop i H →
    wpAny (model P w) X.A (pyNext (.ref it)) (fun r s1 => r = none ∧ Inv X pins σ H s1) E s
  self : ∀ (A : Around) (i : Nat) (s : Shared) (Q : Value → Shared → Prop) (E : Value → Shared → Prop), tn i s.heap → Q (.ref it) s → wpAny (model P w) A (pyIter (.ref it)) Q E s
abbrev TI := St → Hp → (It → Hp → Prop) → Prop
def PIE (X : Cx) (pins : List (Addr × Obj)) (σ : St) (tg : Expr) (R : It → Hp → Prop) (itv : Value) (s2 : Shared) : Prop :=
  ∃ (it : Addr) (fp : List Addr) (tn : Nat → Heap → Prop) (J : It) (H' : Hp), itv = .ref it ∧ Inv X pins σ H' s2 ∧ Turn X.prog X.w X.K tg J fp it tn ∧ tn 0 s2.heap ∧ (∀ b ∈ fp, FpOk X pins H' b) ∧ R J H'
def PI (X : Cx) (tg iter : Expr) (wi : TI) : Prop :=
  ∀ (pins : List (Addr × Obj)) (s : Shared) (σ : St) (H : Hp) (R : It → Hp → Prop), Inv X pins σ H s → wi σ H R →
    wpAny (model X.prog X.w) X.A (eval iter X.env) (fun v s1 => wpAny (model X.prog X.w) X.A (pyIter v) (PIE X pins σ tg R) X.xe s1) X.xe s
theorem go_of {M : Model} {A : Around} {E : Value → Shared → Prop} {s : Shared} {tg : Expr} {it : Addr} {u : Value} {o : Obj} {n : String} {vs : Array Value} {Q : Unit → Shared → Prop} (ho : s.heap.get? it = some o) (hc : o.cls = .type n) (hd : o.data = .fields vs)
    (hn : ["enumerate", "zip", "dict_itemiterator", "dict_reverseitemiterator", "odict_iterator", "itertools.zip_longest", "itertools.pairwise"].contains n = false) (hQ : Q () s) : wpAny M A (letOwnedTupleGo tg (.ref it) u) Q E s := by
  unfold letOwnedTupleGo
  cases tg <;> first
    | exact wpAny_pure hQ
    | (cases u <;> first
        | exact wpAny_pure hQ
        | (refine wpAny_bind (wpAny_load ho ?_)
           rw [hc, hd]
           show wpAny M A (if (["enumerate", "zip", "dict_itemiterator", "dict_reverseitemiterator", "odict_iterator", "itertools.zip_longest", "itertools.pairwise"].contains n && vs[0]? == some (rawInt _)) = true then _ else _) Q E s
           rw [if_neg (by intro h; rw [hn, Bool.false_and] at h; cases h)]
           exact wpAny_pure hQ))
def Itl (K : PySem.W.Frag) (a : Addr) : It :=
  ⟨fun i H => ∃ xs x, SqL K H a xs ∧ xs[i]? = some x, fun i H x H' => H' = H ∧ ∀ xs, SqL K H a xs → xs[i]? = some x, fun i H => ∃ xs, SqL K H a xs ∧ xs.length ≤ i⟩
def Itt (K : PySem.W.Frag) (a : Addr) : It :=
  ⟨fun i H => ∃ xs x, SqT K H a xs ∧ xs[i]? = some x, fun i H x H' => H' = H ∧ ∀ xs, SqT K H a xs → xs[i]? = some x, fun i H => ∃ xs, SqT K H a xs ∧ xs.length ≤ i⟩
def Itr (lo : Int) (n : Nat) : It := ⟨fun i _ => i < n, fun i H x H' => H' = H ∧ x = .int (lo + i), fun i _ => n ≤ i⟩
theorem turn_list {P : Program} {w : World} {K : PySem.W.Frag} {tg : Expr} (a it : Addr) : Turn P w K tg (Itl K a) [it] it (fun i h => h.IsListIter it a i) where
  mem := by simp
  obj := fun i h st b hb => by
    have e : b = it := by simpa using hb
    subst e
    obtain ⟨o, e, c, d⟩ := st
    exact ⟨o, e, fun v z => by rw [d] at z; cases z⟩
  keep := fun i h h' st k => st.at fun o e => k it (by simp) o e
  item := by
    intro X hP hw hK hc i pins s σ H E I hf st hg
    subst hP hw hK
    obtain ⟨xs, x, hq, hx⟩ := hg
    obtain ⟨its, rv, p, hz⟩ := I.list hq
    obtain ⟨u, hu, ru⟩ := rv.get hx
    obtain ⟨f0, f1, f2, f3, f4, f5⟩ := hf it (by simp)
    refine wpAny_pyNext_list_item st p.isList (x := u) (by simpa using hu) fun h' st' sb => ?_
    have I1 : Inv X pins σ H { s with heap := h' } := I.turned (t' := s.toks) (fun b o hb e => (sb.2 b hb).trans e) f0 f1 f3 f4 f5
    obtain ⟨o, e, c, d⟩ := id st'
    exact ⟨u, rfl, go_of (s := { s with heap := h' }) e c d (by decide) ⟨x, H, I1, ru, ⟨rfl, fun ys hy => by rw [I.list_inj hy hq]; exact hx⟩, st', fun b hb => (hf b hb).1⟩⟩
  done := by
    intro X hP hw hK hc i pins s σ H E I hf st hg
    subst hP hw hK
    obtain ⟨xs, hq, hx⟩ := hg
    obtain ⟨its, rv, p, hz⟩ := I.list hq
    obtain ⟨f0, f1, f2, f3, f4, f5⟩ := hf it (by simp)
    have hl := rv.length
    exact wpAny_pyNext_list_end (I.ok.hd hc) st p.isList (by simp; omega) fun h' eb => ⟨rfl, I.turned (t' := s.toks) (fun b o hb e => eb b o hb e) f0 f1 f3 f4 f5⟩
  self := fun _ _ _ _ _ st h => wpAny_pyIter_listiter st h
theorem turn_tuple {P : Program} {w : World} {K : PySem.W.Frag} {tg : Expr} (a it : Addr) : Turn P w K tg (Itt K a) [it] it (fun i h => h.IsTupleIter it a i) where
  mem := by simp
  obj := fun i h st b hb => by
    have e : b = it := by simpa using hb
    subst e
    obtain ⟨o, e, c, d⟩ := st
    exact ⟨o, e, fun v z => by rw [d] at z; cases z⟩
  keep := fun i h h' st k => st.at fun o e => k it (by simp) o e
  item := by
    intro X hP hw hK hc i pins s σ H E I hf st hg
    subst hP hw hK
    obtain ⟨xs, x, hq, hx⟩ := hg
    obtain ⟨its, rv, p, hz⟩ := I.tuple hq
    obtain ⟨u, hu, ru⟩ := rv.get hx
    obtain ⟨f0, f1, f2, f3, f4, f5⟩ := hf it (by simp)
    refine wpAny_pyNext_tuple_item st (show s.heap.IsTuple a its.toArray from p) (x := u) (by simpa using hu) fun h' st' sb => ?_
    have I1 : Inv X pins σ H { s with heap := h' } := I.turned (t' := s.toks) (fun b o hb e => (sb.2 b hb).trans e) f0 f1 f3 f4 f5
    obtain ⟨o, e, c, d⟩ := id st'
    exact ⟨u, rfl, go_of (s := { s with heap := h' }) e c d (by decide) ⟨x, H, I1, ru, ⟨rfl, fun ys hy => by rw [I.tuple_inj hy hq]; exact hx⟩, st', fun b hb => (hf b hb).1⟩⟩
  done := by
    intro X hP hw hK hc i pins s σ H E I hf st hg
    subst hP hw hK
    obtain ⟨xs, hq, hx⟩ := hg
    obtain ⟨its, rv, p, hz⟩ := I.tuple hq
    obtain ⟨f0, f1, f2, f3, f4, f5⟩ := hf it (by simp)
    have hl := rv.length
    exact wpAny_pyNext_tuple_end (I.ok.hd hc) st (show s.heap.IsTuple a its.toArray from p) (by simp; omega) fun h' eb => ⟨rfl, I.turned (t' := s.toks) (fun b o hb e => eb b o hb e) f0 f1 f3 f4 f5⟩
  self := fun _ _ _ _ _ st h => wpAny_pyIter_tupleiter st h
theorem turn_range {P : Program} {w : World} {K : PySem.W.Frag} {tg : Expr} (it : Addr) (lo : Int) (n : Nat) : Turn P w K tg (Itr lo n) [it] it (fun i h => IsRangeIter h it (lo + (i : Nat) * 1) ((n : Int) - (i : Nat)) 1) where
  mem := by simp
  obj := fun i h st b hb => by
    have e : b = it := by simpa using hb
    subst e
    exact ⟨_, st, fun v z => by
      have z' : Data.fields _ = Data.cell v := z
      cases z'⟩
  keep := fun i h h' st k => k it (by simp) _ st
  item := by
    intro X hP hw hK hc i pins s σ H E I hf st hg
    subst hP hw hK
    obtain ⟨f0, f1, f2, f3, f4, f5⟩ := hf it (by simp)
    have W := Walks.range (prog := X.prog) (w := X.w) (I.ok.hd hc) it lo 1 n
    refine W.item i s _ _ hg st fun v h' tk hv st' kk => ?_
    obtain ⟨t, rfl⟩ := hv
    have I1 : Inv X pins σ H { s with heap := h', toks := tk } := I.turned (fun b o hb e => kk b o (by simpa using hb) e) f0 f1 f3 f4 f5
    refine ⟨_, rfl, go_of (s := { s with heap := h', toks := tk }) (n := "range_iterator") st' rfl rfl (by decide) ⟨.int (lo + i), H, I1, ⟨t, ?_⟩, ⟨rfl, rfl⟩, st', fun b hb => (hf b hb).1⟩⟩
    rw [Int.mul_one]
  done := by
    intro X hP hw hK hc i pins s σ H E I hf st hg
    subst hP hw hK
    obtain ⟨f0, f1, f2, f3, f4, f5⟩ := hf it (by simp)
    exact wpAny_pyNext_range_end (I.ok.hd hc) st (by have : n ≤ i := hg; omega) fun h' eb => ⟨rfl, I.turned (t' := s.toks) (fun b o hb e => eb b o hb e) f0 f1 f3 f4 f5⟩
  self := fun _ _ _ _ _ st h => wpAny_pyIter_rangeiter st h
end L2
namespace L2
open PySem PySem.Spec PyProof.Rows
section
variable {X : Cx} {tg : Expr}
theorem range_it {pins : List (Addr × Obj)} {σ : St} {H : Hp} {s : Shared} {R : It → Hp → Prop} {E : Value → Shared → Prop} {lo hi : Int} {t u v : Tok} {tk : Nat} (I : Inv X pins σ H s) (h1 : -(2 ^ 62) ≤ lo) (h2 : lo < 2 ^ 62) (h3 : -(2 ^ 62) ≤ hi) (h4 : hi < 2 ^ 62)
    (q : R (Itr lo (hi - lo).toNat) H) : wpAny (model X.prog X.w) X.A (pyIter (.ref s.heap.objs.size)) (PIE X pins σ tg R) E { s with heap := s.heap.push { cls := .type "range", data := .fields #[.int lo t, .int hi u, .int 1 v] }, toks := tk } := by
  refine wpAny_pyIter_range (IsRange.new ..) (small_one h1 h2 h3 h4) ?_
  have I1 : Inv X pins σ H { s with heap := s.heap.push { cls := .type "range", data := .fields #[.int lo t, .int hi u, .int 1 v] }, toks := tk } := I.kept fun b o e => Heap.get?_push_of_some _ e
  refine ⟨(s.heap.push { cls := .type "range", data := .fields #[.int lo t, .int hi u, .int 1 v] }).objs.size, [(s.heap.push { cls := .type "range", data := .fields #[.int lo t, .int hi u, .int 1 v] }).objs.size], _, _, H, rfl,
    I1.kept (t' := tk) fun b o e => Heap.get?_push_of_some _ e, turn_range _ lo (hi - lo).toNat, ?_, fun b hb => ?_, q⟩
  · have e1 : lo + ((0 : Nat) : Int) * 1 = lo := by simp
    have e2 : (((hi - lo).toNat : Nat) : Int) - ((0 : Nat) : Int) = Builtin.Range.rangeSize lo hi 1 := by rw [rangeSize_one]; split <;> omega
    show IsRangeIter _ _ (lo + ((0 : Nat) : Int) * 1) ((((hi - lo).toNat : Nat) : Int) - ((0 : Nat) : Int)) 1
    rw [e1, e2]
    exact Heap.get?_push_size _ rfl
  · have e : b = (s.heap.push { cls := .type "range", data := .fields #[.int lo t, .int hi u, .int 1 v] }).objs.size := by simpa using hb
    subst e
    exact I1.fpOk (Nat.le_refl _) (I1.hok.fresh (Nat.le_refl _))
def iRng1 (ta : TA) : TI := fun σ H R => ta σ H fun vs H1 => ∃ j : Int, vs = [.int j] ∧ -(2 ^ 62) ≤ j ∧ j < 2 ^ 62 ∧ R (Itr 0 j.toNat) H1
theorem pi_range1 {a : Expr} {ta : TA} {p pos : Pos} (hg : Gl X "range") (hm : X.mg "range" = none) (ha : PA X [a] ta) (hs : starEach [a] X.env = [(false, eval a X.env)] := by rfl) : PI X tg (.Call (.Name "range" p) [a] [] pos) (iRng1 ta) := by
  intro pins s σ H R I h
  refine Call_ (ld_blt I hg hm boot_range (PyProof.Rows.callWith_type1 (thn (ha pos pins s σ H _ I h) fun us s1 ⟨vs, H1, I1, r1, q1⟩ => ?_) hs rfl))
  obtain ⟨j, e, q1, q2, q⟩ := q1
  subst e
  cases r1 with
  | cons r rr =>
    cases rr
    obtain ⟨t, rfl⟩ := r
    exact call_range_1 (range_it I1 (by omega) (by omega) q1 q2 (by simpa using q))
def tFor (wi : TI) (g : TG) (tb : TS) : TS := fun D σ H => wi σ H fun J H1 => ∃ W : Nat → Nat → St → Hp → Prop, (∃ m, W 0 m σ H1) ∧ ∀ i m σ H, W i m σ H →
  (J.stop i H ∧ D.nx σ H) ∨ (J.go i H ∧ ∃ N : St → Hp → Prop, (∀ σ' H', N σ' H' → ∃ m', m' < m ∧ W (i + 1) m' σ' H') ∧ ∀ x H', J.yld i H x H' → g x σ H' fun σ2 H2 => tb { D with nx := N, ct := N, bk := D.nx } σ2 H2)
def pinsAt (fp : List Addr) (h : Heap) : List (Addr × Obj) := fp.filterMap fun b => (h.get? b).map fun o => (b, o)
theorem mem_pinsAt {fp : List Addr} {h : Heap} {b : Addr} {o : Obj} (hb : b ∈ fp) (e : h.get? b = some o) : (b, o) ∈ pinsAt fp h := List.mem_filterMap.mpr ⟨b, hb, by rw [e]; rfl⟩
theorem of_pinsAt {fp : List Addr} {h : Heap} {p : Addr × Obj} (hp : p ∈ pinsAt fp h) : p.1 ∈ fp ∧ h.get? p.1 = some p.2 := by
  obtain ⟨b, hb, e⟩ := List.mem_filterMap.mp hp
  cases q : h.get? b with
  | none => rw [q] at e; cases e
  | some o =>
    rw [q] at e
    have e' : (b, o) = p := Option.some.inj e
    subst e'
    exact ⟨hb, q⟩
theorem Inv.pinned {pins : List (Addr × Obj)} {σ : St} {H : Hp} {s : Shared} {fp : List Addr} (I : Inv X pins σ H s) (hf : ∀ b ∈ fp, FpOk X pins H b) (ho : ∀ b ∈ fp, ∃ o, s.heap.get? b = some o ∧ ∀ v, o.data ≠ .cell v) : Inv X (pins ++ pinsAt fp s.heap) σ H s :=
  I.pins_of fun p hp => (List.mem_append.mp hp).elim (fun z => I.pin p (List.mem_append_right _ z)) fun z => by
    obtain ⟨hb, e⟩ := of_pinsAt z
    obtain ⟨f0, f1, f2, _⟩ := hf p.1 hb
    obtain ⟨o, e', d⟩ := ho p.1 hb
    rw [e] at e'; cases e'
    exact ⟨e, f0, f1, f2, d⟩
theorem Inv.unpinned {pins pl : List (Addr × Obj)} {σ : St} {H : Hp} {s : Shared} (I : Inv X (pins ++ pl) σ H s) : Inv X pins σ H s := I.pins_of fun p hp => I.pin p (List.mem_append_right _ (List.mem_append_left _ hp))
theorem ps_for {iter : Expr} {body : List Stmt} {wi : TI} {g : TG} {tb : TS} {pos : Pos} (hp : PassesOwn (model X.prog X.w) X.A X.env X.xe) (hc : X.calm = true) (hi : PI X tg iter wi) (hg : PG X tg g) (hb : PSs X body tb)
    (hs : ∀ x, foldedSetIterable iter X.env x = pure x := by intro _; rfl) : PS X (.For tg iter body [] pos) (tFor wi g tb) := by
  intro pins s σ H D I h
  refine wpAny_For (thn (hi pins s σ H _ I h) fun v s1 h1 => thn h1 fun itv s2 h2 => ?_) hs
  obtain ⟨it, fp, tn, J, H2, e, I2, T, st2, f2, W, ⟨m0, w0⟩, turn⟩ := h2
  subst e
  -- what stays true of the iterator's objects through the loop
  have stat : ∀ {H' : Hp}, (∀ b ∈ fp, H' b = none) → ∀ b ∈ fp, FpOk X pins H' b := fun hn b hb => ⟨hn b hb, (f2 b hb).2⟩
  refine codeAny_forLoop_any (fun n s' => ∃ i σ' H', Inv X pins σ' H' s' ∧ tn i s'.heap ∧ (∀ b ∈ fp, H' b = none) ∧ W i n σ' H') ?_ m0 ⟨0, σ, H2, I2, st2, fun b hb => (f2 b hb).1, w0⟩
  rintro n s3 ⟨i, σ3, H3, I3, st3, fr3, w3⟩
  rcases turn i n σ3 H3 w3 with ⟨stop, qn⟩ | ⟨go, N, hN, step⟩
  · refine wpAny_passesOwn hp (thn (T.done X rfl rfl rfl hc i pins s3 σ3 H3 X.xe I3 (stat fr3) st3 stop) fun r s4 ⟨hr, I4⟩ => ?_)
    subst hr
    exact wpAny_execs_nil ⟨σ3, H3, I4, qn⟩
  · refine wpAny_passesOwn hp (thn (T.item X rfl rfl rfl hc i pins s3 σ3 H3 X.xe I3 (stat fr3) st3 go) fun r s4 ⟨u, hr, h4⟩ => ?_)
    subst hr
    refine wpAny_passesOwn hp (thn h4 fun _ s5 ⟨x, H5, I5, r5, y5, st5, fr5⟩ => ?_)
    have I5' := I5.pinned (stat fr5) (T.obj _ _ st5)
    refine wpAny_passesOwn hp (thn (hg _ s5 σ3 H5 x u _ I5' r5 (step x H5 y5)) fun _ s6 ⟨σ6, H6, I6, q6⟩ => ?_)
    refine wpAny_passesOwn hp (thn (hb _ s6 σ6 H6 _ I6 q6) fun f s7 q7 => ?_)
    have again : ∀ {σ7 : St} {H7 : Hp}, Inv X (pins ++ pinsAt fp s5.heap) σ7 H7 s7 → N σ7 H7 → ∃ m, m < n ∧ ∃ i σ' H', Inv X pins σ' H' s7 ∧ tn i s7.heap ∧ (∀ b ∈ fp, H' b = none) ∧ W i m σ' H' := fun {σ7 H7} I7 n7 => by
      obtain ⟨m', hm, w7⟩ := hN σ7 H7 n7
      refine ⟨m', hm, i + 1, σ7, H7, I7.unpinned, T.keep _ _ _ st5 fun b hb o e => (I7.pin (b, o) (List.mem_append_right _ (List.mem_append_right _ (mem_pinsAt hb e)))).1, fun b hb => ?_, w7⟩
      obtain ⟨o, e, d⟩ := T.obj _ _ st5 b hb
      exact (I7.pin (b, o) (List.mem_append_right _ (List.mem_append_right _ (mem_pinsAt hb e)))).2.1
    cases f with
    | next => obtain ⟨σ7, H7, I7, n7⟩ := q7; exact again I7 n7
    | cont => obtain ⟨σ7, H7, I7, n7⟩ := q7; exact again I7 n7
    | brk => obtain ⟨σ7, H7, I7, q7⟩ := q7; exact ⟨σ7, H7, I7.unpinned, q7⟩
    | ret v => obtain ⟨x7, σ7, H7, I7, r7, q7⟩ := q7; exact ⟨x7, σ7, H7, I7.unpinned, r7, q7⟩
end
end L2
namespace L2
open PySem PySem.Spec PyProof.Rows
abbrev R2 := V → V → Hp → VK → Prop
def OpR (X : Cx) (f : Value → Value → Sem Value) (r : R2) : Prop :=
  ∀ (pins : List (Addr × Obj)) (s : Shared) (σ : St) (H : Hp) (x y : V) (v u : Value) (Q : VK), Inv X pins σ H s → RelV x v → RelV y u → r x y H Q →
    wpAny (model X.prog X.w) X.A (f v u) (EP X pins σ Q) X.xe s
def CallR (X : Cx) (f : Value) (r : List V → Hp → VK → Prop) : Prop :=
  ∀ (pins : List (Addr × Obj)) (s : Shared) (σ : St) (H : Hp) (xs : List V) (us : List Value) (Q : VK), Inv X pins σ H s → Vals xs us → r xs H Q →
    wpAny (model X.prog X.w) X.A (call f us) (EP X pins σ Q) X.xe s
def tOp (r : R2) (ta tb : TE) : TE := fun σ H Q => ta σ H fun x H1 => tb σ H1 fun y H2 => r x y H2 Q
def rI (C : Int → Int → Prop) (g : Int → Int → V) : R2 := fun x y H Q => ∃ i j, x = .int i ∧ y = .int j ∧ C i j ∧ Q (g i j) H
def rI0 (g : Int → Int → V) : R2 := fun x y H Q => ∃ i j, x = .int i ∧ y = .int j ∧ Q (g i j) H
section
variable {X : Cx} {a b c : Expr} {ta tb tc : TE} {pos : Pos}
theorem binT (ha : PE X a ta) (hb : PE X b tb) {pins : List (Addr × Obj)} {s : Shared} {σ : St} {H : Hp} {R : V → V → Hp → Prop} (I : Inv X pins σ H s)
    (h : ta σ H fun x H1 => tb σ H1 fun y H2 => R x y H2) {Q : Value → Shared → Prop} {f : Value → Value → Sem Value}
    (hf : ∀ v u s2 x y H2, Inv X pins σ H2 s2 → RelV x v → RelV y u → R x y H2 → wpAny (model X.prog X.w) X.A (f v u) Q X.xe s2) :
    wpAny (model X.prog X.w) X.A (eval a X.env) (fun v s₁ => wpAny (model X.prog X.w) X.A (eval b X.env) (fun u s₂ => wpAny (model X.prog X.w) X.A (f v u) Q X.xe s₂) X.xe s₁) X.xe s := by
  refine thn (ha pins s σ H _ I h) fun v s1 ⟨x, H1, I1, r1, q1⟩ => ?_
  refine thn (hb pins s1 σ H1 _ I1 q1) fun u s2 ⟨y, H2, I2, r2, q2⟩ => ?_
  exact hf v u s2 x y H2 I2 r1 r2 q2
theorem opI {f : Value → Value → Sem Value} {C : Int → Int → Prop} {g : Int → Int → Int}
    (rule : ∀ (i j : Int) (t u : Tok) (s : Shared) (Q : Value → Shared → Prop) (E : Value → Shared → Prop), C i j → Q (.int (g i j) s.toks) { s with toks := s.toks + 1 } → wpAny (model X.prog X.w) X.A (f (.int i t) (.int j u)) Q E s) :
    OpR X f (rI C fun i j => .int (g i j)) := by
  intro pins s σ H x y v u Q I rx ry h
  obtain ⟨i, j, rfl, rfl, hc, q⟩ := h
  obtain ⟨t, rfl⟩ := rx
  obtain ⟨t', rfl⟩ := ry
  exact rule i j t t' s _ _ hc ⟨.int (g i j), H, I.tok _, ⟨_, rfl⟩, q⟩
theorem opI0 {f : Value → Value → Sem Value} {g : Int → Int → Int}
    (rule : ∀ (i j : Int) (t u : Tok) (s : Shared) (Q : Value → Shared → Prop) (E : Value → Shared → Prop), Q (.int (g i j) s.toks) { s with toks := s.toks + 1 } → wpAny (model X.prog X.w) X.A (f (.int i t) (.int j u)) Q E s) :
    OpR X f (rI0 fun i j => .int (g i j)) := by
  intro pins s σ H x y v u Q I rx ry h
  obtain ⟨i, j, rfl, rfl, q⟩ := h
  obtain ⟨t, rfl⟩ := rx
  obtain ⟨t', rfl⟩ := ry
  exact rule i j t t' s _ _ ⟨.int (g i j), H, I.tok _, ⟨_, rfl⟩, q⟩
theorem opB0 {f : Value → Value → Sem Value} {g : Int → Int → Bool}
    (rule : ∀ (i j : Int) (t u : Tok) (s : Shared) (Q : Value → Shared → Prop) (E : Value → Shared → Prop), Q (.bool (g i j)) s → wpAny (model X.prog X.w) X.A (f (.int i t) (.int j u)) Q E s) :
    OpR X f (rI0 fun i j => .bl (g i j)) := by
  intro pins s σ H x y v u Q I rx ry h
  obtain ⟨i, j, rfl, rfl, q⟩ := h
  obtain ⟨t, rfl⟩ := rx
  obtain ⟨t', rfl⟩ := ry
  exact rule i j t t' s _ _ ⟨.bl (g i j), H, I, rfl, q⟩
def CPow (i j : Int) : Prop := 0 ≤ j ∧ j ≤ 1000000 ∧ i.natAbs < 2 ^ 64
def CMul (i j : Int) : Prop := (-(2 ^ 64) < i ∧ i < 2 ^ 64) ∨ (-(2 ^ 64) < j ∧ j < 2 ^ 64)
theorem CMul.ok {i j : Int} (h : CMul i j) : IntMulOk i j := by
  rcases h with ⟨h1, h2⟩ | ⟨h1, h2⟩
  · exact .of_left (intBits_le_64 h1 h2)
  · exact .of_right (intBits_le_64 h1 h2)
theorem op_add : OpR X (binaryOp .Add) (rI0 fun i j => .int (i + j)) := opI0 fun _ _ _ _ _ _ _ q => add_int q
theorem op_sub : OpR X (binaryOp .Sub) (rI0 fun i j => .int (i - j)) := opI0 fun _ _ _ _ _ _ _ q => sub_int q
theorem op_modN : OpR X (binaryOp .Mod) (rI (fun _ j => j ≠ 0) fun i j => .int (i.fmod j)) := opI fun _ _ _ _ _ _ _ hc q => mod_int' hc q
theorem op_pow : OpR X (binaryOp .Pow) (rI CPow fun i j => .int (i ^ j.toNat)) := opI fun _ _ _ _ _ _ _ hc q => pow_int_small hc.1 hc.2.1 hc.2.2 q
end
def scal : V → V → Bool
  | .non, .non => true | .non, .int _ => true | .int _, .non => true | .non, .bl _ => true | .bl _, .non => true | .non, .str _ => true | .str _, .non => true
  | .int _, .int _ => true | .bl _, .bl _ => true | .str _, .str _ => true | .byt _, .byt _ => true
  | .int _, .str _ => true | .str _, .int _ => true | .bl _, .str _ => true | .str _, .bl _ => true
  | _, _ => false
def rEq : R2 := fun x y H Q => scal x y = true ∧ Q (.bl (decide (x = y))) H
def rNe : R2 := fun x y H Q => scal x y = true ∧ Q (.bl (!decide (x = y))) H
theorem dec_int {i j : Int} : decide (V.int i = V.int j) = (i == j) := by
  rw [Bool.eq_iff_iff]
  simp
theorem dec_bl {i j : Bool} : decide (V.bl i = V.bl j) = (i == j) := by
  rw [Bool.eq_iff_iff]
  simp
theorem dec_str {i j : Str} : decide (V.str i = V.str j) = (i == j) := by
  rw [Bool.eq_iff_iff]
  simp
theorem dec_byt {i j : Array UInt8} : decide (V.byt i = V.byt j) = (i.toList == j.toList) := by
  rw [Bool.eq_iff_iff]
  cases i
  cases j
  simp
section
variable {X : Cx} {a b c : Expr} {ta tb tc : TE} {pos : Pos}
theorem fin_bl {pins : List (Addr × Obj)} {σ : St} {H : Hp} {s : Shared} {Q : VK} {k k' : Bool} (I : Inv X pins σ H s) (q : Q (.bl k) H) (e : k = k') : EP X pins σ Q (.bool k') s := by
  subst e
  exact ⟨.bl k, H, I, rfl, q⟩
theorem op_eq : OpR X (compareOp .Eq) rEq := by
  intro pins s σ H x y v u Q I rx ry h
  obtain ⟨hs, q⟩ := h
  cases x with
  | non =>
    cases rx
    cases y with
    | non => cases ry; exact PySem.EqNone.eq_none_none (fin_bl I q (by simp))
    | bl j => cases ry; exact PySem.EqNone.eq_none_bool (fin_bl I q (by simp))
    | int j => obtain ⟨t', rfl⟩ := ry; exact PySem.EqNone.eq_none_int (fin_bl I q (by simp))
    | str j => obtain ⟨t', rfl⟩ := ry; exact PySem.EqNone.eq_none_str (fin_bl I q (by simp))
    | _ => exact absurd (show false = true from hs) Bool.false_ne_true
  | bl i =>
    cases rx
    cases y with
    | non => cases ry; exact PySem.EqNone.eq_bool_none (fin_bl I q (by simp))
    | bl j => cases ry; exact eq_bool (fin_bl I q dec_bl)
    | str j => obtain ⟨t', rfl⟩ := ry; exact PySem.EqMixed.eq_bool_str (fin_bl I q (by simp))
    | _ => exact absurd (show false = true from hs) Bool.false_ne_true
  | int i =>
    obtain ⟨t, rfl⟩ := rx
    cases y with
    | non => cases ry; exact PySem.EqNone.eq_int_none (fin_bl I q (by simp))
    | int j => obtain ⟨t', rfl⟩ := ry; exact eq_int (fin_bl I q dec_int)
    | str j => obtain ⟨t', rfl⟩ := ry; exact PySem.EqMixed.eq_int_str (fin_bl I q (by simp))
    | _ => exact absurd (show false = true from hs) Bool.false_ne_true
  | str i =>
    obtain ⟨t, rfl⟩ := rx
    cases y with
    | non => cases ry; exact PySem.EqNone.eq_str_none (fin_bl I q (by simp))
    | bl j => cases ry; exact PySem.EqMixed.eq_str_bool (fin_bl I q (by simp))
    | int j => obtain ⟨t', rfl⟩ := ry; exact PySem.EqMixed.eq_str_int (fin_bl I q (by simp))
    | str j => obtain ⟨t', rfl⟩ := ry; exact eq_str (fin_bl I q dec_str)
    | _ => exact absurd (show false = true from hs) Bool.false_ne_true
  | byt i =>
    obtain ⟨t, rfl⟩ := rx
    cases y with
    | byt j => obtain ⟨t', rfl⟩ := ry; exact PySem.W.eq_bytes (fin_bl I q dec_byt)
    | _ => exact absurd (show false = true from hs) Bool.false_ne_true
  | _ => cases y <;> exact absurd (show false = true from hs) Bool.false_ne_true
theorem op_ne : OpR X (compareOp .NotEq) rNe := by
  intro pins s σ H x y v u Q I rx ry h
  obtain ⟨hs, q⟩ := h
  cases x with
  | non =>
    cases rx
    cases y with
    | non => cases ry; exact PySem.EqNone.ne_none_none (fin_bl I q (by simp))
    | bl j => cases ry; exact PySem.EqNone.ne_none_bool (fin_bl I q (by simp))
    | int j => obtain ⟨t', rfl⟩ := ry; exact PySem.EqNone.ne_none_int (fin_bl I q (by simp))
    | str j => obtain ⟨t', rfl⟩ := ry; exact PySem.EqNone.ne_none_str (fin_bl I q (by simp))
    | _ => exact absurd (show false = true from hs) Bool.false_ne_true
  | bl i =>
    cases rx
    cases y with
    | non => cases ry; exact PySem.EqNone.ne_bool_none (fin_bl I q (by simp))
    | bl j => cases ry; exact ne_bool (fin_bl I q (congrArg not dec_bl))
    | str j => obtain ⟨t', rfl⟩ := ry; exact PySem.EqMixed.ne_bool_str (fin_bl I q (by simp))
    | _ => exact absurd (show false = true from hs) Bool.false_ne_true
  | int i =>
    obtain ⟨t, rfl⟩ := rx
    cases y with
    | non => cases ry; exact PySem.EqNone.ne_int_none (fin_bl I q (by simp))
    | int j => obtain ⟨t', rfl⟩ := ry; exact ne_int (fin_bl I q (congrArg not dec_int))
    | str j => obtain ⟨t', rfl⟩ := ry; exact PySem.EqMixed.ne_int_str (fin_bl I q (by simp))
    | _ => exact absurd (show false = true from hs) Bool.false_ne_true
  | str i =>
    obtain ⟨t, rfl⟩ := rx
    cases y with
    | non => cases ry; exact PySem.EqNone.ne_str_none (fin_bl I q (by simp))
    | bl j => cases ry; exact PySem.EqMixed.ne_str_bool (fin_bl I q (by simp))
    | int j => obtain ⟨t', rfl⟩ := ry; exact PySem.EqMixed.ne_str_int (fin_bl I q (by simp))
    | str j => obtain ⟨t', rfl⟩ := ry; exact ne_str (fin_bl I q (congrArg not dec_str))
    | _ => exact absurd (show false = true from hs) Bool.false_ne_true
  | byt i =>
    obtain ⟨t, rfl⟩ := rx
    cases y with
    | byt j => obtain ⟨t', rfl⟩ := ry; exact PySem.W.ne_bytes (fin_bl I q (congrArg not dec_byt))
    | _ => exact absurd (show false = true from hs) Bool.false_ne_true
  | _ => cases y <;> exact absurd (show false = true from hs) Bool.false_ne_true
theorem op_lt : OpR X (compareOp .Lt) (rI0 fun i j => .bl (decide (i < j))) := opB0 fun _ _ _ _ _ _ _ q => lt_int q
theorem op_le : OpR X (compareOp .LtE) (rI0 fun i j => .bl (decide (i ≤ j))) := opB0 fun _ _ _ _ _ _ _ q => le_int q
theorem op_gt : OpR X (compareOp .Gt) (rI0 fun i j => .bl (decide (j < i))) := opB0 fun _ _ _ _ _ _ _ q => gt_int q
theorem op_ge : OpR X (compareOp .GtE) (rI0 fun i j => .bl (decide (j ≤ i))) := opB0 fun _ _ _ _ _ _ _ q => ge_int q
theorem OpR.or {f : Value → Value → Sem Value} {r r' : R2} (h : OpR X f r) (h' : OpR X f r') : OpR X f (fun x y H Q => r x y H Q ∨ r' x y H Q) := by
  intro pins s σ H x y v u Q I rx ry q
  rcases q with q | q
  · exact h pins s σ H x y v u Q I rx ry q
  · exact h' pins s σ H x y v u Q I rx ry q
theorem nomark (b : Expr) {op : CmpOp} (h : op ≠ .In := by decide) (h2 : op ≠ .NotIn := by decide) : behindInMarks op b = false := by
  have e1 : (op == CmpOp.In) = false := by cases op <;> first | rfl | exact absurd rfl h
  have e2 : (op == CmpOp.NotIn) = false := by cases op <;> first | rfl | exact absurd rfl h2
  cases b <;> simp [behindInMarks, e1, e2]
theorem line63 : (sizeLine : Nat) < 2 ^ 63 := by rw [sizeLine_eq]; decide
theorem op_add_str : OpR X (binaryOp .Add) (fun x y H Q => ∃ i j, x = .str i ∧ y = .str j ∧ i.length + j.length ≤ sizeLine ∧ Q (.str (i ++ j)) H) := by
  intro pins s σ H x y v u Q I rx ry h
  obtain ⟨i, j, rfl, rfl, hz, q⟩ := h
  obtain ⟨t, rfl⟩ := rx
  obtain ⟨t', rfl⟩ := ry
  exact add_str (fun t' tk => ⟨.str (i ++ j), H, I.tok _, ⟨_, rfl⟩, q⟩) hz
theorem vals1 {x : V} {us : List Value} (r : Vals [x] us) : ∃ u, us = [u] ∧ RelV x u := by
  cases r with
  | cons r1 r2 => cases r2; exact ⟨_, rfl, r1⟩
theorem vals2 {x y : V} {us : List Value} (r : Vals [x, y] us) : ∃ u w', us = [u, w'] ∧ RelV x u ∧ RelV y w' := by
  cases r with
  | cons r1 r2 =>
    cases r2 with
    | cons r3 r4 => cases r4; exact ⟨_, _, rfl, r1, r3⟩
theorem call_min2 (hc : X.calm = true) : CallR X (.builtin "min") (fun xs H Q => ∃ i j, xs = [.int i, .int j] ∧ Q (.int (if j < i then j else i)) H) := by
  intro pins s σ H xs us Q I r h
  obtain ⟨i, j, rfl, q⟩ := h
  obtain ⟨u, w', rfl, ⟨t, rfl⟩, ⟨t', rfl⟩⟩ := vals2 r
  refine min_two_ints (I.ok.hd hc) fun h' tk k => ⟨_, H, I.kept k, ?_, q⟩
  by_cases hj : j < i
  · rw [if_pos hj, if_pos hj]; exact ⟨_, rfl⟩
  · rw [if_neg hj, if_neg hj]; exact ⟨_, rfl⟩
theorem call_int1 : CallR X (.type "int") (fun xs H Q => (∃ i, xs = [.int i] ∧ Q (.int i) H) ∨ ∃ k, xs = [.bl k] ∧ Q (.int (if k then 1 else 0)) H) := by
  intro pins s σ H xs us Q I r h
  rcases h with ⟨i, rfl, q⟩ | ⟨k, rfl, q⟩
  · obtain ⟨u, rfl, t, rfl⟩ := vals1 r
    exact call_int_int ⟨.int i, H, I, ⟨_, rfl⟩, q⟩
  · obtain ⟨u, rfl, r1⟩ := vals1 r
    cases r1
    exact call_int_bool ⟨.int (if k then 1 else 0), H, I.tok _, ⟨_, rfl⟩, q⟩
end
end L2
namespace L2
open PySem PySem.Spec PyProof.Rows
structure ObjM (h : Heap) (x dx C : Addr) (mA : Str → Option Value) : Prop where
  obj : h.get? x = some (PySem.W.instObj C dx)
  ns : h.Ns1 dx mA
  ne : dx ≠ x
theorem lookIn_ns {h : Heap} {dx : Addr} {mA : Str → Option Value} (n : h.Ns1 dx mA) : ∃ od, h.get? dx = some od ∧ ∀ name, PySem.W.lookIn name od = some (mA name) := by
  obtain ⟨o, es, ep, ho, hd, hk, _, hm⟩ := n
  refine ⟨o, ho, fun name => ?_⟩
  have e := hm name
  unfold nsFind findBy at e
  rw [← Array.find?_toList] at e
  unfold PySem.W.lookIn
  rw [hd]
  dsimp only
  split
  · rename_i y q
    rw [q] at e
    exact congrArg some e
  · rename_i q
    rw [q] at e
    have a : es.toList.any (·.refKey) = false := by
      rw [List.any_eq_false]
      intro y hy
      obtain ⟨z, t, hkey⟩ := hk y (Array.mem_toList_iff.mp hy)
      simp [DictEntry.refKey, hkey]
    have a' : ¬ es.toList.any (·.refKey) = true := by rw [a]; exact Bool.false_ne_true
    rw [if_neg a']
    exact congrArg some e
theorem ObjM.look {h : Heap} {x dx C : Addr} {mA : Str → Option Value} (I : ObjM h x dx C mA) : ∃ od, PySem.W.InstAt h x (PySem.W.instObj C dx) C (some od) ∧ ∀ name, PySem.W.lookIn name od = some (mA name) :=
  let ⟨od, ho, hl⟩ := lookIn_ns I.ns
  ⟨od, ⟨I.obj, rfl, rfl, ho⟩, hl⟩
section
variable {prog : Program} {w : World} {A : Around} {E : Value → Shared → Prop} {s : Shared} {K : PySem.W.Frag} {x dx C f : Addr} {mA : Str → Option Value} {name : Str} {v : Value}
theorem get_map {expr : Bool} {Q : Value → Shared → Prop} (X : K.In s.heap) (I : ObjM s.heap x dx C mA) (hg : PySem.W.plainGet K C name = true) (hh : PySem.W.hasDictIn K C = true)
    (ha : PySem.W.findIn K (.ref C) name = some none) (hv : mA name = some v) (hv' : PySem.W.handedIn v = true) (h : Q v { s with toks := s.toks + 1 }) :
    wpAny (model prog w) A (getAttr (.ref x) name expr) Q E s := by
  obtain ⟨od, J, hl⟩ := I.look
  exact PySem.W.get_value X J (PySem.W.plainGet_of hg).1 (PySem.W.findObj_own hh ha rfl (by rw [hl, hv])) hv' h
end
theorem RelO.some_of {v : V} {o : Option Value} (r : RelO (some v) o) : ∃ u, o = some u ∧ RelV v u := by
  cases o with
  | none => exact (show False from r).elim
  | some u => exact ⟨u, rfl, r⟩
section
variable {P : Program} {w : World} {H H' : Hp} {h h' : Heap} {a C dx : Addr} {fs fs' : List (Str × V)}
end
structure Cls (K : PySem.W.Frag) (C : Addr) : Prop where
  pg : PySem.W.plainGet K C Str.empty = true
  hd : PySem.W.hasDictIn K C = true
  po : PySem.W.plainOver K C = true
  sa : PySem.W.findIn K (.ref C) "__setattr__" = some (some (.builtin "object.__setattr__"))
theorem Cls.get {K : PySem.W.Frag} {C : Addr} (c : Cls K C) (f : Str) : PySem.W.plainGet K C f = true := c.pg
section
variable {X : Cx} {pins : List (Addr × Obj)} {σ : St} {H : Hp} {s : Shared} {a C dx : Addr} {fs : List (Str × V)} {f : Str} {v : V} {A : Around} {E : Value → Shared → Prop}
theorem Inv.made (I : Inv X pins σ H s) : Inv X pins σ (upd (upd H s.heap.objs.size (.own (s.heap.objs.size + 1))) (s.heap.objs.size + 1) (.ins C s.heap.objs.size []))
    { s with heap := (s.heap.push PySem.W.emptyDict).push (PySem.W.instObj C s.heap.objs.size) } := by
  have e1 : (s.heap.push PySem.W.emptyDict).get? s.heap.objs.size = some PySem.W.emptyDict := Heap.get?_push_size s.heap rfl
  have e2 : ((s.heap.push PySem.W.emptyDict).push (PySem.W.instObj C s.heap.objs.size)).get? (s.heap.objs.size + 1) = some (PySem.W.instObj C s.heap.objs.size) := by
    have := Heap.get?_push_size (s.heap.push PySem.W.emptyDict) (o := PySem.W.instObj C s.heap.objs.size) rfl
    rwa [Heap.size_push] at this
  have e3 : (s.heap.push PySem.W.emptyDict).Ns s.heap.objs.size (fun _ => none) := ⟨PySem.W.emptyDict, #[], _, e1, rfl, (fun e he => absurd he (by simp)), fun _ => rfl⟩
  have I1 := I.laid (a := s.heap.objs.size) (o := .own (s.heap.objs.size + 1)) (h' := s.heap.push PySem.W.emptyDict) (t' := s.toks) (fun b u q => Heap.get?_push_of_some _ q) (Nat.le_refl _) ⟨_, e1⟩
  refine I1.laid (a := s.heap.objs.size + 1) (o := .ins C s.heap.objs.size []) (t' := s.toks) (fun b u q => Heap.get?_push_of_some _ q) (Nat.le_of_eq (Heap.size_push _ _)) ?_
  have ne : s.heap.objs.size ≠ s.heap.objs.size + 1 := Nat.ne_of_lt (Nat.lt_succ_self _)
  refine ⟨by rw [upd_ne ne, upd_same], Nat.zero_le _, ne, e2, fun _ => none, (Heap.Ns1.of_empty e3).at fun o q => Heap.get?_push_of_some _ q, fun _ => True.intro, fun y hy => absurd rfl hy⟩
end
section
variable {X : Cx} {o e value : Expr} {f : Str} {pos pos' tpos : Pos} {ta tv : TE}
end
section
variable {X : Cx} {pins : List (Addr × Obj)} {σ : St} {H : Hp} {s : Shared} {A : Around} {E : Value → Shared → Prop} {Q : Value → Shared → Prop} {c : Value} {b : Bool}
end
end L2
namespace L2
open PySem PySem.Spec PyProof.Rows
structure Room (k : Nat) (A : Around) : Prop where
  hd : A.handled = none
  gd : A.guards = some []
  dp : A.depth + 3 * k + 5 < recursionLimit
  un : A.units + 16 * k + 200 < cLine
theorem Room.mono {j k : Nat} {A : Around} (r : Room k A) (h : j ≤ k) : Room j A := ⟨r.hd, r.gd, by have := r.dp; omega, by have := r.un; omega⟩
theorem Room.deeper {k : Nat} {A : Around} (r : Room (k + 1) A) (env : Env) : Room k (A.deeper env) :=
  ⟨r.hd, r.gd, by have := r.dp; show A.depth + 1 + 3 * k + 5 < _; omega, by have := r.un; show A.units + 3 + 16 * k + 200 < _; omega⟩
theorem Room.in1 {k : Nat} {A : Around} (r : Room (k + 1) A) : Room k A.in1 :=
  ⟨r.hd, r.gd, by have := r.dp; show A.depth + 3 * k + 5 < _; omega, by have := r.un; show A.units + 1 + 16 * k + 200 < _; omega⟩
theorem Room.depth {k : Nat} {A : Around} (r : Room k A) : A.depth < recursionLimit := by have := r.dp; omega
theorem Room.units {k : Nat} {A : Around} (r : Room k A) : A.units + 64 < cLine := by have := r.un; omega
def tNil : TA := fun _ H Q => Q [] H
def tCons (ta : TE) (tr : TA) : TA := fun σ H Q => ta σ H fun x H1 => tr σ H1 fun xs H2 => Q (x :: xs) H2
section
variable {X : Cx} {e : Expr} {es : List Expr} {te : TE} {t : TA} {pos : Pos}
theorem pa_nil : PA X [] tNil := fun _ _ _ _ H Q I h => Calls.spliced_nil ⟨[], H, I, .nil, h⟩
theorem pa_cons (ha : PE X e te) (hr : PA X es t) (hs : starEach (e :: es) X.env = (false, eval e X.env) :: starEach es X.env := by rfl) : PA X (e :: es) (tCons te t) := by
  intro pos pins s σ H Q I h
  rw [hs]
  show wpAny _ _ (spliced ((false, eval e X.env) :: backTo pos (starEach es X.env))) _ _ s
  refine Calls.spliced_cons (thn (ha pins s σ H _ I h) fun u s1 ⟨x, H1, I1, r1, q1⟩ => ?_)
  exact thn (hr pos pins s1 σ H1 _ I1 q1) fun us s2 ⟨xs, H2, I2, r2, q2⟩ => ⟨x :: xs, H2, I2, .cons r1 r2, q2⟩
def tTup (t : TA) : TE := fun σ H Q => t σ H fun xs H1 => xs.length ≤ sizeLine ∧ ∀ p, H1 p = none → Q (.ref p) (upd H1 p (.tup xs))
theorem pe_tup {x1} (h : PA X es t) : PE X (.Tuple es x1 pos) (tTup t) := by
  intro pins s σ H Q I hq
  refine wpAny_Tuple_spliced (thn (h pos pins s σ H _ I hq) fun us s1 ⟨xs, H1, I1, r, z, q⟩ => ⟨by rw [← r.length]; exact z, ?_⟩)
  have hf : H1 s1.heap.objs.size = none := I1.hok.fresh (Nat.le_refl _)
  refine ⟨.ref s1.heap.objs.size, upd H1 s1.heap.objs.size (.tup xs), I1.laid (t' := s1.toks) (fun b u e => Heap.get?_push_of_some _ e) (Nat.le_refl _) ?_, rfl, q _ hf⟩
  exact ⟨⟨z, NoD.new _ _ _⟩, us, r, ⟨_, Heap.get?_push_size _ rfl, rfl, _, rfl⟩⟩
end
abbrev Sp := List V → Hp → VK → XK → Prop
abbrev CXT := List Env → Hp → Shared → XK → Value → Shared → Prop
structure Env0 (P : Program) (w : World) (K : PySem.W.Frag) (mg : Str → Option Value) (base : Heap) (A : Around) (outer : List Env) (s : Shared) (H : Hp) : Prop where
  frames : A.frames = some outer
  mod : Mod K mg base
  bs : ∀ b o, base.get? b = some o → s.heap.get? b = some o ∧ H b = none
  bsz : base.objs.size ≤ s.heap.objs.size
  funs : s.heap.FunFrames base outer
  frf : ∀ b ∈ frs outer, H b = none
  hok : HOk P w H s.heap
  bare : AllBare s.gens
def CE (outer : List Env) (P : Program) (w : World) (H : Hp) (s : Shared) (Q : VK) (u : Value) (s' : Shared) : Prop :=
  ∃ v H', s'.os = s.os ∧ AllBare s'.gens ∧ Un (frs outer) [] H H' s.heap s'.heap ∧ HOk P w H' s'.heap ∧ RelV v u ∧ Q v H'
def CR (CX : CXT) (outer : List Env) (P : Program) (w : World) (H : Hp) (s : Shared) (Q : VK) (E : XK) (r : Result) (s' : Shared) : Prop :=
  match r with
  | .ok (.ret u) => CE outer P w H s Q u s'
  | .ok _ => False
  | .error e => CX outer H s E e s'
structure FnOk (P : Program) (w : World) (K : PySem.W.Frag) (mg : Str → Option Value) (base : Heap) (CX : CXT) (k : Nat) (f : Addr) (fd : FuncData) (ps : List Str) (sp : Sp) : Prop where
  len : ∀ vs H Q E, sp vs H Q E → vs.length = ps.length
  run : ∀ (A : Around) (outer : List Env) (s : Shared) (H : Hp) (args : Args) (us : List Value) (vs : List V) (Q : VK) (E : XK), Room k A → Env0 P w K mg base A outer s H → BindsTo s fd args (ps.zip us) → Vals vs us → sp vs H Q E →
    codeAny (model P w) A (.call (.ref f) args) (CR CX outer P w H s Q E) s
theorem FnOk.mono {P : Program} {w : World} {K : PySem.W.Frag} {mg : Str → Option Value} {base : Heap} {CX : CXT} {j k : Nat} {f : Addr} {fd : FuncData} {ps : List Str} {sp : Sp} (F : FnOk P w K mg base CX j f fd ps sp) (h : j ≤ k) :
    FnOk P w K mg base CX k f fd ps sp := ⟨F.len, fun A outer s H args us vs Q E hr => F.run A outer s H args us vs Q E (hr.mono h)⟩
theorem FnOk.imp {P : Program} {w : World} {K : PySem.W.Frag} {mg : Str → Option Value} {base : Heap} {CX : CXT} {k : Nat} {f : Addr} {fd : FuncData} {ps : List Str} {sp sp' : Sp} (F : FnOk P w K mg base CX k f fd ps sp)
    (h : ∀ vs H Q E, sp' vs H Q E → sp vs H Q E) : FnOk P w K mg base CX k f fd ps sp' :=
  ⟨fun vs H Q E q => F.len vs H Q E (h _ _ _ _ q), fun A outer s H args us vs Q E hr he hb hv hs => F.run A outer s H args us vs Q E hr he hb hv (h _ _ _ _ hs)⟩
theorem Env0.in1 {P : Program} {w : World} {K : PySem.W.Frag} {mg : Str → Option Value} {base : Heap} {A : Around} {outer : List Env} {s : Shared} {H : Hp} (e : Env0 P w K mg base A outer s H) :
    Env0 P w K mg base A.in1 outer s H := ⟨e.frames, e.mod, e.bs, e.bsz, e.funs, e.frf, e.hok, e.bare⟩
section
variable {X : Cx} {pins : List (Addr × Obj)} {σ : St} {H : Hp} {s s' : Shared}
theorem Inv.env0 (I : Inv X pins σ H s) : Env0 X.prog X.w X.K X.mg X.base X.A X.stack s H :=
  ⟨I.ok.frames, I.ok.mod, I.bs, Nat.le_trans I.ok.bsz I.sz, I.stack, I.stkFree, I.hok, I.bare⟩
theorem Inv.after {Q : VK} {u : Value} (I : Inv X pins σ H s) (h : CE X.stack X.prog X.w H s Q u s') : EP X pins σ Q u s' := by
  obtain ⟨v, H', os, bare, un, hok, r, q⟩ := h
  obtain ⟨hh, g, d, t, os'⟩ := s'
  obtain rfl : os' = s.os := os
  exact ⟨v, H', I.call (h' := hh) (g' := g) (d' := d) (t' := t) (ch := []) un hok bare (fun b z => absurd z (by simp)), r, q⟩
end
def tCall (sp : Sp) (dvs : List V) (E : XK) (t : TA) : TE := fun σ H Q => t σ H fun vs H1 => sp (vs ++ dvs) H1 Q E
def Binds (K : PySem.W.Frag) (fd : FuncData) (ps : List Str) (ds : List Value) : Prop :=
  ∀ (s : Shared) (us : List Value), K.In s.heap → (us ++ ds).length = ps.length → BindsTo s fd ⟨us, []⟩ (ps.zip (us ++ ds))
theorem Binds.all {K : PySem.W.Frag} {fd : FuncData} {ps : List Str} (h : ∀ us : List Value, us.length = ps.length → bindArgs fd ⟨us, []⟩ = pure (ps.zip us)) : Binds K fd ps [] := fun s us _ hl => by
  rw [List.append_nil] at hl ⊢
  exact .of_eq (h us hl)
def Passes (CX : CXT) (X : Cx) (E : XK) : Prop := ∀ (pins : List (Addr × Obj)) (σ : St) (H : Hp) (s : Shared) (e : Value) (s' : Shared), Inv X pins σ H s → CX X.stack H s E e s' → X.xe e s'
section
variable {X : Cx} {CX : CXT} {k : Nat} {f C : Addr} {fd : FuncData} {ps : List Str} {sp : Sp} {dvs : List V} {ds : List Value} {E : XK} {x m : Str} {p pos apos : Pos} {e o : Expr} {es : List Expr} {ta : TE} {t : TA}
theorem run_fn {pins : List (Addr × Obj)} {σ : St} {H : Hp} {s : Shared} {Q : VK} {us : List Value} {vs : List V} (F : FnOk X.prog X.w X.K X.mg X.base CX k f fd ps sp) (hr : Room k X.A) (hb : Binds X.K fd ps ds) (hd : Vals dvs ds) (hx : Passes CX X E)
    (I : Inv X pins σ H s) (r : Vals vs us) (h : sp (vs ++ dvs) H Q E) : wpAny (model X.prog X.w) X.A (call (.ref f) us) (EP X pins σ Q) X.xe s := by
  have r2 : Vals (vs ++ dvs) (us ++ ds) := r.append hd
  have hl : (us ++ ds).length = ps.length := by rw [← r2.length]; exact F.len _ _ _ _ h
  refine wpAny_call (codeAny_mono (F.run X.A X.stack s H ⟨us, []⟩ (us ++ ds) (vs ++ dvs) Q E hr I.env0 (hb s us I.kIn hl) r2 h) fun r s' hq => ?_)
  cases r with
  | error e => exact hx pins σ H s e s' I hq
  | ok fl =>
    cases fl with
    | ret u => exact I.after hq
    | next => exact False.elim hq
    | brk => exact False.elim hq
    | cont => exact False.elim hq
theorem pe_call (F : FnOk X.prog X.w X.K X.mg X.base CX k f fd ps sp) (hr : Room k X.A) (hg : Gl X x) (hm : X.mg x = some (.ref f)) (hk : PySem.W.keepIn X.K (.ref f) = true) (hb : Binds X.K fd ps ds) (hd : Vals dvs ds) (hx : Passes CX X E)
    (ha : PA X (e :: es) t) (hdb : (x == ("__debug__" : Str)) = false := by decide) (he : starEach (e :: es) X.env = (false, eval e X.env) :: starEach es X.env := by rfl) (hpl : (backTo pos (starEach es X.env)).any (·.1) = false := by rfl) :
    PE X (.Call (.Name x p) (e :: es) [] pos) (tCall sp dvs E t) := by
  intro pins s σ H Q I h
  refine wpAny_Call_Name_kw (ld_glob I hg hm ?_ hdb)
  refine PySem.W.callWith_K (h₀ := X.base) I.ok.mod.kin hk (thn (ha pos pins s σ H _ I h) fun us s1 ⟨vs, H1, I1, r, q⟩ => ⟨I1.kIn, ?_⟩) he hpl
  exact run_fn F hr hb hd hx I1 r q
theorem pe_call0 (F : FnOk X.prog X.w X.K X.mg X.base CX k f fd ps sp) (hr : Room k X.A) (hg : Gl X x) (hm : X.mg x = some (.ref f)) (hk : PySem.W.keepIn X.K (.ref f) = true) (hb : Binds X.K fd ps ds) (hd : Vals dvs ds) (hx : Passes CX X E)
    (hdb : (x == ("__debug__" : Str)) = false := by decide) : PE X (.Call (.Name x p) [] [] pos) (tCall sp dvs E tNil) := by
  intro pins s σ H Q I h
  refine wpAny_Call_Name_kw (ld_glob I hg hm ?_ hdb)
  exact PySem.W.callWith_K0 I.kIn hk (run_fn (us := []) F hr hb hd hx I .nil h)
end
section
variable {X : Cx} {CX : CXT} {k : Nat} {f C : Addr} {fd : FuncData} {ps ks : List Str} {sp : Sp} {E : XK} {x m : Str} {p pos apos kpos : Pos} {e o : Expr} {es : List Expr} {kws : List Keyword} {te ta : TE} {t tk : TA} {nm : Option Str}
variable {g : List Value → List Value → List Value} {gV : List V → List V → List V}
end
structure FnScope (N P : List Str) (sc : Scope) : Prop where
  kind : sc.kind = .function
  co : sc.isCoroutine = false
  gen : sc.isGenerator = false
  nd : N.Nodup
  pre : N.take P.length = P
  par : ∀ x ∈ P, sc.names.lookup x = some .local ∨ sc.names.lookup x = some .cell
  nofree : ∀ y ∈ sc.names, y.2 ≠ .free
theorem bindL_out {kindOf : Str → Option NameKind} {x : Str} : ∀ {binds : List (Str × Value)} {m : Str → Option Value}, (∀ v, (x, v) ∉ binds) → bindL kindOf binds m x = m x
  | [], _, _ => rfl
  | (n, v) :: r, m, h => by
    unfold bindL
    rw [bindL_out fun w hw => h w (List.mem_cons_of_mem _ hw)]
    split
    · have : x ≠ n := by rintro rfl; exact h v List.mem_cons_self
      simp [this]
    · rfl
theorem bindC_out {kindOf : Str → Option NameKind} {x : Str} : ∀ {binds : List (Str × Value)} {m : Str → Option Value}, (∀ v, (x, v) ∉ binds) → bindC kindOf binds m x = m x
  | [], _, _ => rfl
  | (n, v) :: r, m, h => by
    unfold bindC
    rw [bindC_out fun w hw => h w (List.mem_cons_of_mem _ hw)]
    split
    · rfl
    · have : x ≠ n := by rintro rfl; exact h v List.mem_cons_self
      simp [this]
theorem bindL_get {kindOf : Str → Option NameKind} {x : Str} {v : Value} : ∀ {P : List Str} {vs : List Value} {i : Nat} {m : Str → Option Value}, P.Nodup → P[i]? = some x → vs[i]? = some v → kindOf x = some .local →
    bindL kindOf (P.zip vs) m x = some v
  | [], _, _, _, _, h, _, _ => by simp at h
  | _ :: _, [], _, _, _, _, h, _ => by simp at h
  | p :: P, w :: vs, 0, m, nd, h1, h2, hk => by
    simp at h1 h2; subst h1; subst h2
    show bindL kindOf ((p, w) :: P.zip vs) m p = _
    unfold bindL
    rw [bindL_out fun v hv => (List.nodup_cons.mp nd).1 (List.of_mem_zip hv).1, if_pos hk]
    simp
  | p :: P, w :: vs, i + 1, m, nd, h1, h2, hk => by
    show bindL kindOf ((p, w) :: P.zip vs) m x = _
    unfold bindL
    exact bindL_get (i := i) (List.nodup_cons.mp nd).2 (by simpa using h1) (by simpa using h2) hk
theorem bindC_get {kindOf : Str → Option NameKind} {x : Str} {v : Value} : ∀ {P : List Str} {vs : List Value} {i : Nat} {m : Str → Option Value}, P.Nodup → P[i]? = some x → vs[i]? = some v → kindOf x ≠ some .local →
    bindC kindOf (P.zip vs) m x = some v
  | [], _, _, _, _, h, _, _ => by simp at h
  | _ :: _, [], _, _, _, _, h, _ => by simp at h
  | p :: P, w :: vs, 0, m, nd, h1, h2, hk => by
    simp at h1 h2; subst h1; subst h2
    show bindC kindOf ((p, w) :: P.zip vs) m p = _
    unfold bindC
    rw [bindC_out fun v hv => (List.nodup_cons.mp nd).1 (List.of_mem_zip hv).1, if_neg hk]
    simp
  | p :: P, w :: vs, i + 1, m, nd, h1, h2, hk => by
    show bindC kindOf ((p, w) :: P.zip vs) m x = _
    unfold bindC
    exact bindC_get (i := i) (List.nodup_cons.mp nd).2 (by simpa using h1) (by simpa using h2) hk
def start (N : List Str) (vs : List V) : St := vs.map some ++ List.replicate (N.length - vs.length) none
def cxOf (CX : CXT) (P : Program) (w : World) (K : PySem.W.Frag) (mg : Str → Option Value) (base : Heap) (N : List Str) (qual : Str) (scope : Scope) (f : Addr) (cd : Value) (A : Around) (outer : List Env) (s : Shared) (H : Hp) (E : XK) : Cx where
  prog := P
  w := w
  K := K
  mg := mg
  base := base
  A := A.deeper (envOfC qual scope s.heap.objs.size f cd)
  N := N
  s₀ := s
  H₀ := H
  env := envOfC qual scope s.heap.objs.size f cd
  outer := outer
  stack := envOfC qual scope s.heap.objs.size f cd :: outer
  ex := []
  calm := true
  fn := fun _ => true
  pn := []
  xe := fun e s' => wpAny (model P w) (A.deeper (envOfC qual scope s.heap.objs.size f cd)) (leaving (envOfC qual scope s.heap.objs.size f cd) e) (fun _ s'' => CX outer H s E e s'') (fun e' s'' => CX outer H s E e' s'') s'
theorem cell_has {sc : Scope} {n : Nat} {x : Str} (h : sc.names.lookup x = some .cell) : ∃ c, (cellsFrom n sc.names []).lookup x = some c := by
  have q := PySem.W.cellsFrom_some sc.names n [] (.inl h)
  exact Option.isSome_iff_exists.mp q
theorem inv_start {CX : CXT} {P : Program} {w : World} {K : PySem.W.Frag} {mg : Str → Option Value} {base : Heap} {N ps : List Str} {qual : Str} {scope : Scope} {f : Addr} {cd : Value} {A : Around} {outer : List Env} {s s1 : Shared} {H : Hp} {E : XK} {us : List Value} {vs : List V}
    (S : FnScope N ps scope) (hd : A.handled = none) (e0 : Env0 P w K mg base A outer s H) (hl : vs.length = ps.length) (r : Vals vs us)
    (x : InCallC s s.heap.objs.size (bindL (envOfC qual scope s.heap.objs.size f cd).kindOf (ps.zip us) fun _ => none) (cellsFrom (s.heap.objs.size + 1) scope.names []) (bindC (envOfC qual scope s.heap.objs.size f cd).kindOf (ps.zip us) fun _ => none) s1) :
    Inv (cxOf CX P w K mg base N qual scope f cd A outer s H E) [] (start N vs) H s1 := by
  have hpl : ps.length ≤ N.length := by have := congrArg List.length S.pre; rw [List.length_take] at this; omega
  obtain ⟨h1, tk, rfl, hk⟩ := x.done
  have noA : ∀ b : Addr, b ∉ (cxOf CX P w K mg base N qual scope f cd A outer s H E).ex := fun b z => absurd (show b ∈ ([] : List Addr) from z) (by simp)
  refine ⟨⟨e0.mod, S.kind, rfl, rfl, Nat.le_refl _, fun y z c h1 h2 => ?_, fun y hy => ?_, fun y c _ h => ?_, fun _ => hd, Around.frames_deeper e0.frames, .inr ⟨rfl, rfl⟩, fun b z => absurd z (noA b), e0.bs, e0.bsz, fun b _ _ => noA b, fun b z => absurd z (noA b), e0.funs, e0.frf⟩,
    rfl, e0.bare, Un.kept hk, ⟨_, x.toInCall.ns, fun i y v h1 h2 h3 => ?_⟩, fun y c h => ⟨_, x.cell y c h⟩, e0.hok.fresh (Nat.le_refl _), fun y c h => ?_, fun p hp => absurd (show p ∈ ([] : List (Addr × Obj)) from hp) (by simp), e0.hok.kept hk, ?_⟩
  · exact name_of_addr x.apart (PySem.mem_of_lookup h1) (PySem.mem_of_lookup h2)
  · have hy : scope.names.lookup y = some .cell ∨ scope.names.lookup y = some .free := hy
    rcases hy with hy | hy
    · exact cell_has hy
    · exact absurd rfl (S.nofree _ (PySem.mem_of_lookup hy))
  · exact Nat.le_of_lt (x.above y c (PySem.mem_of_lookup h))
  · have hi : i < vs.length := by
      unfold start at h2
      by_cases hi : i < vs.length
      · exact hi
      · rw [List.getElem?_append_right (by simpa using hi)] at h2
        rw [List.getElem?_replicate] at h2
        split at h2 <;> cases h2
    have ha : vs[i]? = some v := by
      unfold start at h2
      rw [List.getElem?_append_left (by simpa using hi), List.getElem?_map] at h2
      cases e : vs[i]? with
      | none => rw [e] at h2; cases h2
      | some a => rw [e] at h2; cases h2; rfl
    obtain ⟨u, hu, rv⟩ := r.get ha
    have hp : ps[i]? = some y := by
      rw [← S.pre, List.getElem?_take_of_lt (by omega)]; exact h1
    have ndP : ps.Nodup := by rw [← S.pre]; exact S.nd.sublist (List.take_sublist _ _)
    refine ⟨u, rv, ?_⟩
    rcases S.par y (List.mem_of_getElem? hp) with k | k
    · exact .inl ⟨k, bindL_get ndP hp hu k⟩
    · obtain ⟨c, e⟩ := cell_has (n := s.heap.objs.size + 1) k
      refine .inr ⟨.inl k, c, e, ?_⟩
      have q := x.cell y c e
      rw [bindC_get ndP hp hu (by show scope.names.lookup y ≠ _; rw [k]; decide)] at q
      exact q
  · exact e0.hok.fresh (Nat.le_of_lt (x.above y c (PySem.mem_of_lookup h)))
  · unfold start
    show _ = N.length
    rw [List.length_append, List.length_map, List.length_replicate]
    omega
theorem fn_of {CX : CXT} {P : Program} {w : World} {K : PySem.W.Frag} {mg : Str → Option Value} {base : Heap} {k : Nat} {f : Addr} {name qual : Str} {params : Arguments} {body : List Stmt} {scope : Scope} {dV kV doc pm cdv ct oc : Value} {an od : Option Addr}
    {osl : Array (Option Value)} {N ps : List Str} {sp : Sp} (lk : K.lookup f = some ⟨oc, od, .func (PySem.W.fnOf name qual params body scope dV kV doc pm an cdv ct), osl⟩) (hcd : PySem.W.codeIn K cdv qual = true) (S : FnScope N ps scope)
    (len : ∀ vs H Q E, sp vs H Q E → vs.length = ps.length)
    (hbody : ∀ (A : Around) (outer : List Env) (s : Shared) (H : Hp) (vs : List V) (Q : VK) (E : XK), Room k (A.deeper (envOfC qual scope s.heap.objs.size f cdv)) → sp vs H Q E →
      ∃ t, PSs (cxOf CX P w K mg base N qual scope f cdv A outer s H E) body t ∧ t { nx := fun _ H' => Q .non H', rt := Q } (start N vs) H) :
    FnOk P w K mg base CX (k + 1) f (PySem.W.fnOf name qual params body scope dV kV doc pm an cdv ct) ps sp := by
  refine ⟨len, fun A outer s H args us vs Q E hr e0 hb r hsp => ?_⟩
  have hl := len _ _ _ _ hsp
  have KX : K.In s.heap := e0.mod.kin.keeps fun b o e => (e0.bs b o e).1
  have lim : s.heap.NoLimit := e0.mod.nolimit.keeps fun b o e => (e0.bs b o e).1
  have hkind : ∀ y ∈ ps.zip us, scope.names.lookup y.1 = some .local ∨ (scope.names.lookup y.1 = some .cell ∧ ((cellsFrom (s.heap.objs.size + 1) scope.names []).lookup y.1).isSome = true) := fun ⟨n, v⟩ hy => by
    rcases S.par n (List.of_mem_zip hy).1 with q | q
    · exact .inl q
    · exact .inr ⟨q, PySem.W.cellsFrom_some _ _ _ (.inl q)⟩
  refine codeAny_call_function hr.depth (KX _ _ lk) rfl S.co S.gen rfl (PySem.W.codeRec_of KX hcd) (hb _ _ _ _ ?_)
  refine wpAny_newFunctionEnv_cells S.kind hkind fun env he s1 x => ?_
  subst he
  refine ⟨lim.keeps x.toInCall.keep, codeAny_func ?_⟩
  obtain ⟨t, ht, hq⟩ := hbody A outer s H vs Q E (hr.deeper _) hsp
  have I : Inv (cxOf CX P w K mg base N qual scope f cdv A outer s H E) [] (start N vs) H s1 := inv_start S hr.hd e0 hl r x
  refine wpAny_mono (ht [] s1 (start N vs) H _ I hq) (fun fl s' hs => ?_) fun e s' hs => hs
  have fin : ∀ {σ' : St} {H' : Hp} {v : V} {u : Value}, Inv (cxOf CX P w K mg base N qual scope f cdv A outer s H E) [] σ' H' s' → RelV v u → Q v H' → CE outer P w H s Q u s' :=
    fun {σ' H' v u} J rv q => ⟨v, H', J.os, J.bare, J.base, J.hok, rv, q⟩
  cases fl with
  | ret u =>
    obtain ⟨v, σ', H', J, rv, q⟩ := hs
    exact fin J rv q
  | next =>
    obtain ⟨σ', H', J, q⟩ := hs
    exact fin (v := V.non) (u := Value.none) J rfl q
  | brk =>
    obtain ⟨_, _, _, q⟩ := hs
    exact False.elim q
  | cont =>
    obtain ⟨_, _, _, q⟩ := hs
    exact False.elim q
end L2
namespace L2
open PySem PySem.Spec PyProof.Rows
section
variable {X : Cx} {x : Str} {p pos : Pos} {e : Expr} {es : List Expr} {t : TA} {id T : String} {r : List V → Hp → VK → Prop}
def tCB (r : List V → Hp → VK → Prop) (t : TA) : TE := fun σ H Q => t σ H fun vs H1 => r vs H1 Q
theorem pe_callB (hc : CallR X (.builtin id) r) (hg : Gl X x) (hm : X.mg x = none) (hv : bootBuiltins x = some (.builtin id)) (ha : PA X (e :: es) t) (hn : x ≠ "__name__" := by decide) (hdb : (x == ("__debug__" : Str)) = false := by decide)
    (he : starEach (e :: es) X.env = (false, eval e X.env) :: starEach es X.env := by rfl) (hpl : (backTo pos (starEach es X.env)).any (·.1) = false := by rfl) : PE X (.Call (.Name x p) (e :: es) [] pos) (tCB r t) := by
  intro pins s σ H Q I h
  refine wpAny_Call_Name_kw (ld_blt I hg hm hv ?_ hn hdb)
  exact PyProof.Rows.callWith_builtin1 (thn (ha pos pins s σ H _ I h) fun us s1 ⟨vs, H1, I1, r1, q1⟩ => hc pins s1 σ H1 vs us Q I1 r1 q1) he hpl
theorem pe_callTy (hc : CallR X (.type T) r) (hg : Gl X x) (hm : X.mg x = none) (hv : bootBuiltins x = some (.type T)) (ha : PA X (e :: es) t) (hn : x ≠ "__name__" := by decide) (hdb : (x == ("__debug__" : Str)) = false := by decide)
    (he : starEach (e :: es) X.env = (false, eval e X.env) :: starEach es X.env := by rfl) (hpl : (backTo pos (starEach es X.env)).any (·.1) = false := by rfl) : PE X (.Call (.Name x p) (e :: es) [] pos) (tCB r t) := by
  intro pins s σ H Q I h
  refine wpAny_Call_Name_kw (ld_blt I hg hm hv ?_ hn hdb)
  exact PyProof.Rows.callWith_type1 (thn (ha pos pins s σ H _ I h) fun us s1 ⟨vs, H1, I1, r1, q1⟩ => hc pins s1 σ H1 vs us Q I1 r1 q1) he hpl
end
end L2
namespace HT
open PySem PyProof.Rows
section
open PySem.SeqAt
open PySem.AutoSeq1 (wpAny_loadPart')
open PySem.MeetsSeq PySem.MeetsSeq2 PySem.MeetsSeq3
end
section
variable {prog : Program} {w : World} {A : Around} {E : Value → Shared → Prop} {s : Shared}
theorem cat_tup {t b : Addr} {vs ws : List Value} {Q : Value → Shared → Prop} (ht : IsTup s.heap t vs.toArray) (hb : IsTup s.heap b ws.toArray) (hv : vs ≠ [])
    (h1 : ws = [] → Q (.ref t) s) (h2 : ws ≠ [] → Q (.ref s.heap.objs.size) { s with heap := s.heap.push { cls := .type "tuple", data := .seq (vs ++ ws).toArray } })
    (hsz : vs.length + ws.length ≤ sizeLine) : wpAny (model prog w) A (binaryOp .Add (.ref t) (.ref b)) Q E s := by
  obtain ⟨⟨cls, dd, data, sl⟩, ho, hc, n, hd⟩ := id ht
  obtain ⟨⟨cls2, dd2, data2, sl2⟩, ho2, hc2, n2, hd2⟩ := id hb
  simp only at hc hd hc2 hd2
  subst hc hd hc2 hd2
  have e : vs.toArray ++ ws.toArray = (vs ++ ws).toArray := by simp
  by_cases hw : ws = []
  · exact concat_meets ⟨_, ho, rfl⟩ ⟨_, ho2, rfl⟩ noFill_tuple_add seq_tuple_add PySem.F.slot_tuple_add PySem.F.entry_tuple_add (PySem.F.args_tuple_add_2 _ _)
      (tuple_addW1 t b vs.toArray ws.toArray n n2 dd dd2 sl sl2 (by simpa using hv) (by simp [hw])) ⟨ho, ho2, h1 hw⟩
  · refine concat_meets ⟨_, ho, rfl⟩ ⟨_, ho2, rfl⟩ noFill_tuple_add seq_tuple_add PySem.F.slot_tuple_add PySem.F.entry_tuple_add (PySem.F.args_tuple_add_2 _ _)
      (tuple_addW2 t b vs.toArray ws.toArray n n2 dd dd2 sl sl2 (by simpa using hv) (by simpa using hw) (by rw [List.size_toArray, List.size_toArray]; exact hsz)) ⟨ho, ho2, ?_⟩
    rw [e]
    exact h2 hw
def sIx (n d : Nat) : Option Int → Nat
  | none => d
  | some v => if v < 0 then (v + (n : Int)).toNat else min v.toNat n
theorem sIx_le (n d : Nat) (hd : d ≤ n) (o : Option Int) : sIx n d o ≤ n := by
  cases o with
  | none => exact hd
  | some v =>
    show (if v < 0 then (v + (n : Int)).toNat else min v.toNat n) ≤ n
    by_cases hv : v < 0
    · rw [if_pos hv]; omega
    · rw [if_neg hv]; exact Nat.min_le_right _ _
theorem clip_eq (v : Int) (n d : Nat) : (if v < 0 then max (v + (n : Int)) 0 else min v (n : Int)) = ((sIx n d (some v) : Nat) : Int) := by
  show (if v < 0 then max (v + (n : Int)) 0 else min v (n : Int)) = (((if v < 0 then (v + (n : Int)).toNat else min v.toNat n) : Nat) : Int)
  by_cases hv : v < 0
  · simp only [if_pos hv]; omega
  · simp only [if_neg hv]; omega
theorem adjust_gen (lo hi : Option Int) (n : Nat) : Builtin.Slice.sliceAdjust lo hi 1 (n : Int) = (((sIx n 0 lo : Nat) : Int), ((sIx n n hi : Nat) : Int)) := by
  have h1 : ¬ ((1 : Int) < 0) := by omega
  unfold Builtin.Slice.sliceAdjust
  simp only [h1, if_false]
  refine Prod.ext ?_ ?_
  · cases lo with
    | none => rfl
    | some v => exact clip_eq v n 0
  · cases hi with
    | none => rfl
    | some v => exact clip_eq v n n
theorem places_gen (i j : Nat) : Builtin.Slice.slicePlaces (i : Int) (j : Int) 1 = j - i := by
  unfold Builtin.Slice.slicePlaces
  have h1 : (1 : Int) > 0 := by omega
  simp only [h1, if_true, Int.ediv_one]
  split <;> omega
theorem slicePart_ {v : Value} {o : Option Int} {Q : Option Int → Shared → Prop} (p : IsPart v o) (h : Q o s) : wpAny (model prog w) A (Builtin.Slice.slicePartIndex v) Q E s := by
  cases p with
  | none => exact slicePart_none h
  | int i t => exact slicePart_int h
theorem sliceApplied_gen {sl : Addr} {vl vu : Value} {lo hi : Option Int} {n : Nat} {Q : Int × Int × Nat → Shared → Prop} (hs : s.heap.IsSliceOf sl vl vu .none) (pl : IsPart vl lo) (pu : IsPart vu hi)
    (h : Q (((sIx n 0 lo : Nat) : Int), 1, sIx n n hi - sIx n 0 lo) s) : wpAny (model prog w) A (Builtin.Slice.sliceApplied (.ref sl) (pure (n : Int))) Q E s := by
  obtain ⟨os, hos, hcs, hds⟩ := id hs
  unfold Builtin.Slice.sliceApplied Builtin.Slice.sliceFields
  refine wpAny_bind (wpAny_bind (wpAny_field hos hds (x := vl) rfl (wpAny_bind (wpAny_field hos hds (x := vu) rfl (wpAny_bind (wpAny_field hos hds (x := .none) rfl (wpAny_pure ?_)))))))
  refine wpAny_bind (slicePart_none ?_)
  show wpAny _ _ (if ((1 : Int) == 0) = true then _ else _) _ _ s
  rw [if_neg (by decide)]
  refine wpAny_bind (slicePart_ pl (wpAny_bind (slicePart_ pu (wpAny_bind (wpAny_pure ?_)))))
  show wpAny _ _ (match Builtin.Slice.sliceAdjust lo hi 1 (n : Int) with | (lo, hi) => pure (lo, (1 : Int), Builtin.Slice.slicePlaces lo hi 1)) _ _ s
  rw [adjust_gen lo hi n]
  show wpAny _ _ (pure (((sIx n 0 lo : Nat) : Int), (1 : Int), Builtin.Slice.slicePlaces ((sIx n 0 lo : Nat) : Int) ((sIx n n hi : Nat) : Int) 1)) _ _ s
  rw [places_gen]
  exact wpAny_pure h
theorem pick_gen (xs : Array Value) (i k : Nat) : ((List.range k).filterMap fun (m : Nat) => xs[((i : Int) + (m : Int) * 1).toNat]?).toArray = ((xs.toList.drop i).take k).toArray := by
  have e : (fun (m : Nat) => xs[((i : Int) + (m : Int) * 1).toNat]?) = fun m => xs[i + m]? := by
    funext m
    have : ((i : Int) + (m : Int) * 1).toNat = i + m := by omega
    rw [this]
  rw [e]
  have := pick_run xs i k
  rw [List.filterMap_map] at this
  have e2 : ((fun x => xs[x]?) ∘ fun x => i + x) = fun m => xs[i + m]? := rfl
  rw [e2] at this
  rw [this]
theorem getItem_tuple_cut {t sl : Addr} {items : Array Value} {vl vu : Value} {lo hi : Option Int} {Q : Value → Shared → Prop} (ht : IsTup s.heap t items) (hs : s.heap.IsSliceOf sl vl vu .none) (pl : IsPart vl lo) (pu : IsPart vu hi)
    (hw : ¬ (sIx items.size 0 lo = 0 ∧ sIx items.size items.size hi = items.size))
    (h : Q (.ref s.heap.objs.size) { s with heap := s.heap.push { cls := .type "tuple", data := .seq ((items.toList.drop (sIx items.size 0 lo)).take (sIx items.size items.size hi - sIx items.size 0 lo)).toArray } })
    (hsz : items.size ≤ sizeLine) : wpAny (model prog w) A (getItem (.ref t) (.ref sl)) Q E s := by
  have htake : sizeOk (.seq ((items.toList.drop (sIx items.size 0 lo)).take (sIx items.size items.size hi - sIx items.size 0 lo)).toArray) := by
    show ((items.toList.drop (sIx items.size 0 lo)).take (sIx items.size items.size hi - sIx items.size 0 lo)).toArray.size ≤ sizeLine
    rw [List.size_toArray, List.length_take, List.length_drop, Array.length_toList]
    omega
  have hj : sIx items.size items.size hi ≤ items.size := sIx_le _ _ (Nat.le_refl _) hi
  obtain ⟨os, hos, hcs, hds⟩ := id hs
  have hTs : s.TypeIs (.ref sl) "slice" := ⟨os, hos, hcs⟩
  unfold getItem
  try with_reducible refine wpAny_holding ?_
  first | refine wpAny_bind (wpAny_pure ?_) | skip
  refine wpAny_bind (wpAny_sequenceKey ht.typeIs (by decide) ?_)
  refine wpAny_bind (wpAny_callSpecial?_slot (name := Str.ofString "__getitem__") ht.typeIs PyProof.Rows.slot_tuple_getitem
    (wpAny_call_entry PyProof.Rows.slot_tuple_getitem ht.typeIs entry_tuple_getitem ?_ (args_tuple_getitem _ _)))
  show wpAny _ _ (Builtin.Tuple.tupleItemsOf (.ref t) >>= _) _ _ s
  refine wpAny_bind (tupleItemsOf_ ht ?_)
  refine wpAny_bind (wpAny_typeOf hTs ?_)
  rw [if_pos (by decide)]
  refine wpAny_bind (sliceApplied_gen hs pl pu ?_)
  have hno : ¬ ((((sIx items.size 0 lo : Nat) : Int) == 0 && (1 : Int) == 1 && (sIx items.size items.size hi - sIx items.size 0 lo) == items.size) = true) := by
    intro q
    rw [Bool.and_eq_true, Bool.and_eq_true] at q
    have q1 : ((sIx items.size 0 lo : Nat) : Int) = 0 := eq_of_beq q.1.1
    have q2 : sIx items.size items.size hi - sIx items.size 0 lo = items.size := eq_of_beq q.2
    exact hw ⟨by omega, by omega⟩
  show wpAny _ _ (if (((sIx items.size 0 lo : Nat) : Int) == 0 && (1 : Int) == 1 && (sIx items.size items.size hi - sIx items.size 0 lo) == items.size) = true then _ else _) _ _ s
  rw [if_neg hno, pick_gen]
  first
    | exact wpAny_bind (m := Builtin.Tuple.tupleExact _) (wpAny_newObj_type (wpAny_pure ⟨_, rfl, wpAny_pure h⟩) htake)
    | exact wpAny_bind (m := Builtin.Tuple.tupleExact _) (wpAny_newObj_type (wpAny_bind (wpAny_pure (wpAny_pure ⟨_, rfl, wpAny_pure h⟩))) htake)
    | exact wpAny_bind (wpAny_bind (m := Builtin.Tuple.tupleExact _) (wpAny_newObj_type (wpAny_pure (wpAny_pure ⟨_, rfl, wpAny_pure h⟩)) htake))
    | exact wpAny_bind (wpAny_bind (m := Builtin.Tuple.tupleExact _) (wpAny_newObj_type (wpAny_pure ⟨_, rfl, wpAny_pure h⟩) htake))
end
end HT
namespace L2
open PySem PySem.Spec PyProof.Rows
abbrev TO := St → Hp → (Option Int → Hp → Prop) → Prop
def PO (X : Cx) (e : Option Expr) (t : TO) : Prop :=
  ∀ (pins : List (Addr × Obj)) (s : Shared) (σ : St) (H : Hp) (Q : Option Int → Hp → Prop), Inv X pins σ H s → t σ H Q →
    wpAny (model X.prog X.w) X.A (evalPart e X.env) (fun u s' => ∃ o H', Inv X pins σ H' s' ∧ IsPart u o ∧ Q o H') X.xe s
def tNoPart : TO := fun _ H Q => Q none H
def tPart (t : TE) : TO := fun σ H Q => t σ H fun x H1 => ∃ i, x = .int i ∧ Q (some i) H1
section
variable {X : Cx} {e : Expr} {te : TE} {lo hi : Option Expr} {tl th : TO} {pos p2 : Pos}
theorem po_none : PO X none tNoPart := by
  intro pins s σ H Q I h
  rw [evalPart_none]
  exact wpAny_pure ⟨none, H, I, .none, h⟩
theorem po_some (h : PE X e te) : PO X (some e) (tPart te) := by
  intro pins s σ H Q I hw
  rw [evalPart_some]
  refine thn (h pins s σ H _ I hw) fun u s1 ⟨x, H1, I1, r1, q1⟩ => ?_
  obtain ⟨i, rfl, q⟩ := q1
  obtain ⟨t, rfl⟩ := r1
  exact ⟨some i, H1, I1, .int i t, q⟩
def SlR (X : Cx) (r : V → Option Int → Option Int → Hp → VK → Prop) : Prop :=
  ∀ (pins : List (Addr × Obj)) (s : Shared) (σ : St) (H : Hp) (x : V) (v vl vu : Value) (lo hi : Option Int) (sl : Addr) (Q : VK), Inv X pins σ H s → RelV x v → s.heap.IsSliceOf sl vl vu .none → IsPart vl lo → IsPart vu hi → r x lo hi H Q →
    ∃ T id, typeLookup (.type T) "__getitem__" = pure (some (.builtin id)) ∧ s.TypeIs v T ∧ wpAny (model X.prog X.w) X.A (getItem v (.ref sl)) (EP X pins σ Q) X.xe s
theorem SlR.or {r r' : V → Option Int → Option Int → Hp → VK → Prop} (h : SlR X r) (h' : SlR X r') : SlR X (fun x lo hi H Q => r x lo hi H Q ∨ r' x lo hi H Q) := by
  intro pins s σ H x v vl vu lo hi sl Q I rx hs pl pu q
  rcases q with q | q
  · exact h pins s σ H x v vl vu lo hi sl Q I rx hs pl pu q
  · exact h' pins s σ H x v vl vu lo hi sl Q I rx hs pl pu q
def tSl (r : V → Option Int → Option Int → Hp → VK → Prop) (te : TE) (tl th : TO) : TE := fun σ H Q => te σ H fun x H1 => tl σ H1 fun l H2 => th σ H2 fun u H3 => r x l u H3 Q
theorem pe_slice {r : V → Option Int → Option Int → Hp → VK → Prop} (hr : SlR X r) (he : PE X e te) (hl : PO X lo tl) (hu : PO X hi th) : PE X (.Subscript e (.Slice lo hi none p2) pos) (tSl r te tl th) := by
  intro pins s σ H Q I h
  refine Subscript_ (thn (he pins s σ H _ I h) fun v s1 ⟨x, H1, I1, r1, q1⟩ => ?_)
  refine wpAny_Slice (thn (hl pins s1 σ H1 _ I1 q1) fun vl s2 ⟨l, H2, I2, pl, q2⟩ => thn (hu pins s2 σ H2 _ I2 q2) fun vu s3 ⟨u, H3, I3, pu, q3⟩ => ?_)
  rw [evalPart_none]
  refine wpAny_pure ?_
  have I4 : Inv X pins σ H3 { s3 with heap := s3.heap.push { cls := .type "slice", data := .fields #[vl, vu, .none] } } := I3.kept (t' := s3.toks) fun b ob q => Heap.get?_push_of_some _ q
  obtain ⟨T, id, hT, ht, hg⟩ := hr pins { s3 with heap := s3.heap.push { cls := .type "slice", data := .fields #[vl, vu, .none] } } σ H3 x v vl vu l u s3.heap.objs.size Q I4 r1 (Heap.IsSliceOf.new ..) pl pu q3
  show wpAny (model X.prog X.w) X.A (subscriptTail e (.Slice lo hi none p2) v (.ref s3.heap.objs.size)) (EP X pins σ Q) X.xe { s3 with heap := s3.heap.push { cls := .type "slice", data := .fields #[vl, vu, .none] } }
  exact tail_any (ops := [.ref s3.heap.objs.size, v]) ht hT hg (by with_unfolding_all rfl)
def cutV (xs : List V) (lo hi : Option Int) : List V := (xs.drop (HT.sIx xs.length 0 lo)).take (HT.sIx xs.length xs.length hi - HT.sIx xs.length 0 lo)
theorem cutV_length (xs : List V) (lo hi : Option Int) : (cutV xs lo hi).length ≤ xs.length := by
  unfold cutV
  rw [List.length_take, List.length_drop]
  omega
def rSlT (K : PySem.W.Frag) : V → Option Int → Option Int → Hp → VK → Prop := fun x lo hi H Q => ∃ a xs, x = .ref a ∧ SqT K H a xs ∧
  ¬ (HT.sIx xs.length 0 lo = 0 ∧ HT.sIx xs.length xs.length hi = xs.length) ∧ ∀ p, H p = none → Q (.ref p) (upd H p (.tup (cutV xs lo hi)))
theorem sl_tup : SlR X (rSlT X.K) := by
  intro pins s σ H x v vl vu lo hi sl Q I rx hs pl pu h
  obtain ⟨a, xs, rfl, hx, hw, q⟩ := h
  cases rx
  obtain ⟨its, r, ht, hz⟩ := I.tuple hx
  have hlen : its.toArray.size = xs.length := by rw [List.size_toArray]; exact r.length.symm
  refine ⟨"tuple", _, PyProof.Rows.slot_tuple_getitem.lookup, ht.typeIs, ?_⟩
  refine HT.getItem_tuple_cut ht hs pl pu (by rw [hlen]; exact hw) ?_ (by rw [hlen]; exact hz)
  rw [hlen]
  refine ⟨.ref s.heap.objs.size, _, I.laid (t' := s.toks) (o := .tup (cutV xs lo hi)) (fun b ob q => Heap.get?_push_of_some _ q) (Nat.le_refl _) ?_, rfl, q _ (I.hok.fresh (Nat.le_refl _))⟩
  exact ⟨⟨Nat.le_trans (cutV_length xs lo hi) hz, NoD.new _ _ _⟩, _, (r.drop (HT.sIx xs.length 0 lo)).take (HT.sIx xs.length xs.length hi - HT.sIx xs.length 0 lo), IsTup.new _ _⟩
def rCatT (K : PySem.W.Frag) : R2 := fun x y H Q => ∃ a b xs ys, x = .ref a ∧ y = .ref b ∧ SqT K H a xs ∧ SqT K H b ys ∧ xs ≠ [] ∧ xs.length + ys.length ≤ sizeLine ∧
  (ys = [] → Q (.ref a) H) ∧ (ys ≠ [] → ∀ p, H p = none → Q (.ref p) (upd H p (.tup (xs ++ ys))))
theorem Vals.nil_iff {xs : List V} {us : List Value} (r : Vals xs us) : us = [] ↔ xs = [] := by
  cases r with
  | nil => simp
  | cons _ _ => simp
theorem op_catT : OpR X (binaryOp .Add) (rCatT X.K) := by
  intro pins s σ H x y v u Q I rx ry h
  obtain ⟨a, b, xs, ys, rfl, rfl, ha, hb, hx, hz, q1, q2⟩ := h
  cases rx
  cases ry
  obtain ⟨its, r1, p1, _⟩ := I.tuple ha
  obtain ⟨its2, r2, p2, _⟩ := I.tuple hb
  refine HT.cat_tup p1 p2 (fun z => hx (r1.nil_iff.mp z)) (fun z => ⟨.ref a, H, I, rfl, q1 (r2.nil_iff.mp z)⟩) (fun z => ?_) (by rw [← r1.length, ← r2.length]; exact hz)
  refine ⟨.ref s.heap.objs.size, _, I.laid (t' := s.toks) (o := .tup (xs ++ ys)) (fun b ob q => Heap.get?_push_of_some _ q) (Nat.le_refl _) ?_, rfl, q2 (fun w => z (r2.nil_iff.mpr w)) _ (I.hok.fresh (Nat.le_refl _))⟩
  exact ⟨⟨by rw [List.length_append]; exact hz, NoD.new _ _ _⟩, _, r1.append r2, IsTup.new _ _⟩
end
end L2
namespace L2
open PySem PySem.Spec PyProof.Rows
def ixN (n : Nat) (i : Int) : Option Nat := if 0 ≤ i then (if i < n then some i.toNat else none) else if -(n : Int) ≤ i then some (i + n).toNat else none
def atI {α : Type} (xs : List α) (i : Int) : Option α := (ixN xs.length i).bind fun j => xs[j]?
theorem ixN_seq {n : Nat} {i : Int} {j : Nat} (h : ixN n i = some j) : seqIndex? i n = some j ∧ j < n ∧ -(n : Int) ≤ i ∧ i < n := by
  unfold ixN at h
  by_cases h0 : 0 ≤ i
  · rw [if_pos h0] at h
    by_cases h1 : i < n
    · rw [if_pos h1] at h
      have e : i.toNat = j := Option.some.inj h
      exact ⟨by rw [seqIndex_of h0 h1, e], by omega, by omega, h1⟩
    · rw [if_neg h1] at h; cases h
  · rw [if_neg h0] at h
    by_cases h1 : -(n : Int) ≤ i
    · rw [if_pos h1] at h
      have e : (i + n).toNat = j := Option.some.inj h
      exact ⟨by rw [seqIndex_neg (by omega) h1, e], by omega, h1, by omega⟩
    · rw [if_neg h1] at h; cases h
theorem atI_get {α : Type} {xs : List α} {i : Int} {v : α} (h : atI xs i = some v) : ∃ j, seqIndex? i xs.length = some j ∧ xs[j]? = some v ∧ j < xs.length ∧ -(xs.length : Int) ≤ i ∧ i < xs.length := by
  unfold atI at h
  cases e : ixN xs.length i with
  | none => rw [e] at h; cases h
  | some j =>
    rw [e] at h
    obtain ⟨h1, h2, h3, h4⟩ := ixN_seq e
    exact ⟨j, h1, h, h2, h3, h4⟩
theorem atI_nat {α : Type} {xs : List α} {j : Nat} {v : α} (h : xs[j]? = some v) : atI xs (j : Int) = some v := by
  have hj : j < xs.length := (List.getElem?_eq_some_iff.mp h).1
  have e : ixN xs.length (j : Int) = some j := by
    unfold ixN
    rw [if_pos (by omega), if_pos (by omega)]; simp
  unfold atI; rw [e]; exact h
def PlainIx (b : Expr) : Prop := ∀ o i, subscripted b false o i = operate [o, i] (getItem o i)
def IxR (X : Cx) (r : R2) : Prop :=
  ∀ (value slice : Expr) (pins : List (Addr × Obj)) (s : Shared) (σ : St) (H : Hp) (x y : V) (v u : Value) (Q : VK), Inv X pins σ H s → RelV x v → RelV y u → r x y H Q →
    subscripted slice false v u = operate [v, u] (getItem v u) → wpAny (model X.prog X.w) X.A (subscriptTail value slice v u) (EP X pins σ Q) X.xe s
def MtR (X : Cx) (id : String) (r : V → List V → Hp → VK → Prop) : Prop :=
  ∀ (pins : List (Addr × Obj)) (s : Shared) (σ : St) (H : Hp) (x : V) (xs : List V) (v : Value) (us : List Value) (Q : VK), Inv X pins σ H s → RelV x v → Vals xs us → r x xs H Q →
    wpAny (model X.prog X.w) X.A (call (.builtin id) (v :: us)) (EP X pins σ Q) X.xe s
section
variable {X : Cx} {a b : Expr} {ta tb : TE} {pos : Pos}
theorem IxR.or {r r' : R2} (h : IxR X r) (h' : IxR X r') : IxR X (fun x y H Q => r x y H Q ∨ r' x y H Q) := by
  intro value slice pins s σ H x y v u Q I rx ry q hs
  rcases q with q | q
  · exact h value slice pins s σ H x y v u Q I rx ry q hs
  · exact h' value slice pins s σ H x y v u Q I rx ry q hs
theorem MtR.or {id : String} {r r' : V → List V → Hp → VK → Prop} (h : MtR X id r) (h' : MtR X id r') : MtR X id (fun x xs H Q => r x xs H Q ∨ r' x xs H Q) := by
  intro pins s σ H x xs v us Q I rx rs q
  rcases q with q | q
  · exact h pins s σ H x xs v us Q I rx rs q
  · exact h' pins s σ H x xs v us Q I rx rs q
theorem pe_ix {r : R2} (hr : IxR X r) (ha : PE X a ta) (hb : PE X b tb) (hs : PlainIx b) : PE X (.Subscript a b pos) (tOp r ta tb) := by
  intro pins s σ H Q I h
  exact Subscript_ (binT ha hb I h fun v u s2 x y H2 I2 rx ry q => hr a b pins s2 σ H2 x y v u Q I2 rx ry q (hs _ _))
def rIxL (K : PySem.W.Frag) : R2 := fun x y H Q => ∃ p xs i v, x = .ref p ∧ y = .int i ∧ SqL K H p xs ∧ atI xs i = some v ∧ Q v H
def rIxT (K : PySem.W.Frag) : R2 := fun x y H Q => ∃ p xs i v, x = .ref p ∧ y = .int i ∧ SqT K H p xs ∧ atI xs i = some v ∧ Q v H
def rIxS : R2 := fun x y H Q => ∃ z i c, x = .str z ∧ y = .int i ∧ z.length ≤ sizeLine ∧ atI z.cps.toList i = some c ∧ Q (.str ⟨#[c]⟩) H
theorem ix_list : IxR X (rIxL X.K) := by
  intro value slice pins s σ H x y v u Q I rx ry h hs
  obtain ⟨p, xs, i, z, rfl, rfl, hq, he, q⟩ := h
  cases rx
  obtain ⟨t, rfl⟩ := ry
  obtain ⟨its, r, pl, hz⟩ := I.list hq
  obtain ⟨j, h1, h2, h3, h4, h5⟩ := atI_get he
  obtain ⟨w, ew, rw'⟩ := r.get h2
  have hl := r.length
  have hn := line63
  have fin : EP X pins σ Q w s := ⟨z, H, I, rw', q⟩
  by_cases h0 : 0 ≤ i
  · have hj : i.toNat = j := by
      rw [seqIndex_of h0 h5] at h1
      exact Option.some.inj h1
    exact item_listR pl.isList h0 (by omega) (by rw [hj]; simpa using ew) fin hs
  · have hj : (i + (its.toArray.size : Int)).toNat = j := by
      rw [seqIndex_neg (by omega) h4] at h1
      rw [List.size_toArray, ← hl]
      exact Option.some.inj h1
    exact subscriptTail_builtinR (x := w) pl.isList.typeIs slot_list_getitem.lookup
      (wpAny_getItem_list_neg (Q := fun r s' => r = w ∧ EP X pins σ Q r s') pl.isList (by omega) (by rw [List.size_toArray] <;> omega) (by omega) (by rw [hj]; simpa using ew) ⟨rfl, fin⟩) hs
theorem ix_tup : IxR X (rIxT X.K) := by
  intro value slice pins s σ H x y v u Q I rx ry h hs
  obtain ⟨p, xs, i, z, rfl, rfl, hq, he, q⟩ := h
  cases rx
  obtain ⟨t, rfl⟩ := ry
  obtain ⟨its, r, pl, hz⟩ := I.tuple hq
  obtain ⟨j, h1, h2, h3, h4, h5⟩ := atI_get he
  obtain ⟨w, ew, rw'⟩ := r.get h2
  have hl := r.length
  have hn := line63
  have fin : EP X pins σ Q w s := ⟨z, H, I, rw', q⟩
  exact subscriptTail_builtinR (x := w) pl.typeIs slot_tuple_getitem.lookup
    (getItem_tuple (j := j) (Q := fun r s' => r = w ∧ EP X pins σ Q r s') pl (by omega) (by omega) (by rw [List.size_toArray, ← hl]; exact h1) (by simpa using ew) ⟨rfl, fin⟩) hs
theorem ix_str : IxR X rIxS := by
  intro value slice pins s σ H x y v u Q I rx ry h hs
  obtain ⟨z, i, c, rfl, rfl, hz, he, q⟩ := h
  obtain ⟨t, rfl⟩ := rx
  obtain ⟨t', rfl⟩ := ry
  obtain ⟨j, h1, h2, h3, h4, h5⟩ := atI_get he
  have hl : z.cps.toList.length = z.length := by simp [Str.length]
  rw [hl] at h1 h4 h5
  have hn := line63
  exact tail_any (typeIs_str s z t) slot_str_getitem.lookup (getItem_str (c := c) (by
    have e1 : decide (i < -(2 ^ 63 : Int)) = false := decide_eq_false (by omega)
    have e2 : decide (i ≥ 2 ^ 63) = false := decide_eq_false (by omega)
    rw [e1, e2, Bool.or_false]) (by rw [h1]; simpa using h2) ⟨.str ⟨#[c]⟩, H, I.tok _, ⟨_, rfl⟩, q⟩) hs
def rIx (K : PySem.W.Frag) : R2 := fun x y H Q => rIxL K x y H Q ∨ rIxT K x y H Q ∨ rIxS x y H Q
theorem ix_seq : IxR X (rIx X.K) := ix_list.or (ix_tup.or ix_str)
theorem Inv.lst {pins : List (Addr × Obj)} {σ : St} {H : Hp} {s : Shared} {p : Addr} {xs : List V} (I : Inv X pins σ H s) (h : H p = some (.lst xs)) :
    ∃ (its : List Value) (n : Nat), Vals xs its ∧ s.heap.get? p = some { cls := .type "list", data := .seq its.toArray n } ∧ xs.length ≤ sizeLine := by
  obtain ⟨z, its, n, r, e⟩ := I.hok p _ h
  exact ⟨its, n, r, e, z⟩
theorem slice_bounds (lo hi : Option Int) (n : Nat) : (sliceBounds lo hi none n).1 = ((HT.sIx n 0 lo : Nat) : Int) ∧ (sliceBounds lo hi none n).2.1 = ((HT.sIx n n hi : Nat) : Int) ∧ (sliceBounds lo hi none n).2.2 = 1 := by
  refine ⟨?_, ?_, rfl⟩
  · cases lo with
    | none => simp [sliceBounds, HT.sIx]
    | some i =>
      simp only [sliceBounds, HT.sIx, Option.getD_none, show (1 : Int) > 0 by decide, if_true]
      by_cases h : i < 0
      · simp only [h, if_true] <;> omega
      · simp only [h, if_false] <;> omega
  · cases hi with
    | none => simp [sliceBounds, HT.sIx]
    | some i =>
      simp only [sliceBounds, HT.sIx, Option.getD_none, show (1 : Int) > 0 by decide, if_true]
      by_cases h : i < 0
      · simp only [h, if_true] <;> omega
      · simp only [h, if_false] <;> omega
theorem slicePick_cut (its : List Value) (lo hi : Option Int) : slicePick its.toArray lo hi none = ((its.drop (HT.sIx its.length 0 lo)).take (HT.sIx its.length its.length hi - HT.sIx its.length 0 lo)).toArray := by
  obtain ⟨h1, h2, h3⟩ := slice_bounds lo hi its.toArray.size
  unfold slicePick
  rw [h1, h2, h3]
  simp only [sliceRange_one, pick_run, List.size_toArray] <;> rfl
def rSlL (K : PySem.W.Frag) : V → Option Int → Option Int → Hp → VK → Prop := fun x lo hi H Q => ∃ a xs, x = .ref a ∧ SqL K H a xs ∧ ∀ p, H p = none → Q (.ref p) (upd H p (.lst (cutV xs lo hi)))
theorem sl_list : SlR X (rSlL X.K) := by
  intro pins s σ H x v vl vu lo hi sl Q I rx hs pl pu h
  obtain ⟨a, xs, rfl, hx, q⟩ := h
  cases rx
  obtain ⟨its, r, ht, hz⟩ := I.list hx
  have hlen := r.length
  refine ⟨"list", _, slot_list_getitem.lookup, ht.isList.typeIs, ?_⟩
  refine wpAny_getItem_list_slice ht.isList hs pl pu .none (by simp) ?_ (by rw [List.size_toArray] <;> omega)
  rw [slicePick_cut, ← hlen]
  refine ⟨.ref s.heap.objs.size, _, I.laid (t' := s.toks) (o := .lst (cutV xs lo hi)) (fun b ob q => Heap.get?_push_of_some _ q) (Nat.le_refl _) ?_, rfl, q _ (I.hok.fresh (Nat.le_refl _))⟩
  exact ⟨Nat.le_trans (cutV_length xs lo hi) hz, _, 0, (r.drop (HT.sIx xs.length 0 lo)).take (HT.sIx xs.length xs.length hi - HT.sIx xs.length 0 lo), Heap.get?_push_size _ rfl⟩
def flatV : V → Bool
  | .non => true
  | .bl _ => true
  | .int _ => true
  | .str _ => true
  | _ => false
def eqV : V → V → Bool
  | .non, .non => true
  | .bl a, .bl b => a == b
  | .bl a, .int b => (if a then 1 else 0) == b
  | .int a, .bl b => a == (if b then 1 else 0)
  | .int a, .int b => a == b
  | .str a, .str b => a == b
  | _, _ => false
theorem eqAt_V {A : Around} {s : Shared} {y x : V} {u v : Value} (ry : RelV y u) (rx : RelV x v) (fy : flatV y = true) (fx : flatV x = true) : SeqAt.EqAt A s u v (eqV y x) := by
  cases y with
  | non =>
    cases ry
    cases x with
    | non => cases rx; exact SeqAt.EqAt.same _
    | bl b => cases rx; exact SeqAt.EqAt.none_bool b
    | int b => obtain ⟨t, rfl⟩ := rx; exact SeqAt.EqAt.none_int b t
    | str b => obtain ⟨t, rfl⟩ := rx; exact SeqAt.EqAt.none_str b t
    | _ => exact absurd (show false = true from fx) Bool.false_ne_true
  | bl a =>
    cases ry
    cases x with
    | non => cases rx; exact SeqAt.EqAt.bool_none a
    | bl b => cases rx; exact SeqAt.EqAt.bool_bool a b
    | int b => obtain ⟨t, rfl⟩ := rx; exact SeqAt.EqAt.bool_int a b t
    | str b => obtain ⟨t, rfl⟩ := rx; exact SeqAt.EqAt.bool_str a b t
    | _ => exact absurd (show false = true from fx) Bool.false_ne_true
  | int a =>
    obtain ⟨t', rfl⟩ := ry
    cases x with
    | non => cases rx; exact SeqAt.EqAt.int_none a t'
    | bl b => cases rx; exact SeqAt.EqAt.int_bool a t' b
    | int b => obtain ⟨t, rfl⟩ := rx; exact SeqAt.EqAt.int_int a t' b t
    | str b => obtain ⟨t, rfl⟩ := rx; exact SeqAt.EqAt.int_str a t' b t
    | _ => exact absurd (show false = true from fx) Bool.false_ne_true
  | str a =>
    obtain ⟨t', rfl⟩ := ry
    cases x with
    | non => cases rx; exact SeqAt.EqAt.str_none a t'
    | bl b => cases rx; exact SeqAt.EqAt.str_bool a t' b
    | int b => obtain ⟨t, rfl⟩ := rx; exact SeqAt.EqAt.str_int a t' b t
    | str b => obtain ⟨t, rfl⟩ := rx; exact SeqAt.EqAt.str_str a t' b t
    | _ => exact absurd (show false = true from fx) Bool.false_ne_true
  | _ => exact absurd (show false = true from fy) Bool.false_ne_true
def eqU (x : V) (u : Value) : Bool := match u with
  | .none => eqV .non x
  | .bool b => eqV (.bl b) x
  | .int i _ => eqV (.int i) x
  | .str z _ => eqV (.str z) x
  | _ => false
theorem eqU_of {x y : V} {u : Value} (r : RelV y u) (f : flatV y = true) : eqU x u = eqV y x := by
  cases y with
  | non => cases r; rfl
  | bl b => cases r; rfl
  | int i => obtain ⟨t, rfl⟩ := r; rfl
  | str z => obtain ⟨t, rfl⟩ := r; rfl
  | _ => exact absurd (show false = true from f) Bool.false_ne_true
theorem mem_eqAt {A : Around} {s : Shared} {x : V} {v : Value} (rx : RelV x v) (fx : flatV x = true) : ∀ {xs : List V} {us : List Value}, Vals xs us → xs.all flatV = true → ∀ u ∈ us, SeqAt.EqAt A s u v (eqU x u)
  | _, _, .nil, _ => fun u hu => by cases hu
  | y :: xs, u :: us, .cons r t, f => fun u' hu => by
    rw [List.all_cons, Bool.and_eq_true] at f
    rcases List.mem_cons.mp hu with rfl | hu
    · rw [eqU_of r f.1]; exact eqAt_V r rx f.1 fx
    · exact mem_eqAt rx fx t f.2 u' hu
theorem call_len_seq : CallR X (.builtin "len") (fun xs H Q => ∃ p ys, xs = [.ref p] ∧ (SqL X.K H p ys ∨ SqT X.K H p ys) ∧ Q (.int ys.length) H) := by
  intro pins s σ H xs us Q I r h
  obtain ⟨p, ys, rfl, hq, q⟩ := h
  obtain ⟨u, rfl, rx⟩ := vals1 r
  cases rx
  have hn := line63
  rcases hq with hq | hq
  · obtain ⟨its, r', pl, hz⟩ := I.list hq
    have hlen := r'.length
    exact Calls.call_len_list pl.isList (by simp only [List.size_toArray] <;> omega) ⟨.int ys.length, H, I.tok _, ⟨s.toks + 1, by rw [List.size_toArray, hlen]⟩, q⟩
  · obtain ⟨its, r', pl, hz⟩ := I.tuple hq
    have hlen := r'.length
    exact len_tuple pl (by simp only [List.size_toArray] <;> omega) ⟨.int ys.length, H, I.tok _, ⟨s.toks + 1, by rw [List.size_toArray, hlen]⟩, q⟩
theorem call_len_str : CallR X (.builtin "len") (fun xs H Q => ∃ z, xs = [.str z] ∧ z.length ≤ sizeLine ∧ Q (.int z.length) H) := by
  intro pins s σ H xs us Q I r h
  obtain ⟨z, rfl, hz, q⟩ := h
  obtain ⟨u, rfl, t, rfl⟩ := vals1 r
  have hn := line63
  exact len_str (by omega) ⟨.int z.length, H, I.tok _, ⟨_, rfl⟩, q⟩
theorem CallR.or {f : Value} {r r' : List V → Hp → VK → Prop} (h : CallR X f r) (h' : CallR X f r') : CallR X f (fun xs H Q => r xs H Q ∨ r' xs H Q) := by
  intro pins s σ H xs us Q I rs q
  rcases q with q | q
  · exact h pins s σ H xs us Q I rs q
  · exact h' pins s σ H xs us Q I rs q
theorem call_list_of : CallR X (.type "list") (fun xs H Q => ∃ p ys, xs = [.ref p] ∧ (SqL X.K H p ys ∨ SqT X.K H p ys) ∧ ∀ l, H l = none → Q (.ref l) (upd H l (.lst ys))) := by
  intro pins s σ H xs us Q I r h
  obtain ⟨p, ys, rfl, hq, q⟩ := h
  obtain ⟨u, rfl, rx⟩ := vals1 r
  cases rx
  have fin : ∀ (its : List Value), Vals ys its → ys.length ≤ sizeLine → ∀ (h' : Heap) (c' : Nat), (∀ b o', s.heap.get? b = some o' → h'.get? b = some o') →
      h'.get? s.heap.objs.size = some { cls := .type "list", dict := none, data := .seq its.toArray c', slots := #[] } → EP X pins σ Q (.ref s.heap.objs.size) { s with heap := h' } := fun its r' hz h' c' kp e =>
    ⟨.ref s.heap.objs.size, _, I.laid (t' := s.toks) kp (Nat.le_refl _) (show ObjOk X.prog X.w _ h' _ (.lst ys) from ⟨hz, its, c', r', e⟩), rfl, q _ (I.hok.fresh (Nat.le_refl _))⟩
  rcases hq with hq | hq
  · obtain ⟨its, r', pl, hz⟩ := I.list hq
    have hlen := r'.length
    obtain ⟨o, ho, hc, n, hd⟩ := pl.isList
    exact call_list_seq p (.inl rfl) ho hc hd (fun h' c' kp e => fin its r' hz h' c' kp e) (by simp only [List.size_toArray] <;> omega)
  · obtain ⟨its, r', pl, hz⟩ := I.tuple hq
    have hlen := r'.length
    obtain ⟨o, ho, hc, n, hd⟩ := pl
    exact call_list_seq p (.inr rfl) ho hc hd (fun h' c' kp e => fin its r' hz h' c' kp e) (by simp only [List.size_toArray] <;> omega)
theorem call_tuple_of : CallR X (.type "tuple") (fun xs H Q => ∃ p ys, xs = [.ref p] ∧ ((SqL X.K H p ys ∧ ∀ l, H l = none → Q (.ref l) (upd H l (.tup ys))) ∨ (SqT X.K H p ys ∧ Q (.ref p) H))) := by
  intro pins s σ H xs us Q I r h
  obtain ⟨p, ys, rfl, h⟩ := h
  obtain ⟨u, rfl, rx⟩ := vals1 r
  cases rx
  rcases h with ⟨hq, q⟩ | ⟨hq, q⟩
  · obtain ⟨its, r', pl, hz⟩ := I.list hq
    have hlen := r'.length
    refine call_tuple_list pl.isList (fun h' kp => ?_) (by simp only [List.size_toArray] <;> omega)
    have I1 : Inv X pins σ H { s with heap := h' } := I.kept (t' := s.toks) kp
    have I2 : Inv X pins σ (upd H h'.objs.size (.tup ys)) { s with heap := h'.push { cls := .type "tuple", data := .seq its.toArray } } :=
      I1.laid (t' := s.toks) (fun b o e => Heap.get?_push_of_some _ e) (Nat.le_refl _) (show ObjOk X.prog X.w _ _ _ (.tup ys) from ⟨⟨hz, NoD.new _ _ _⟩, its, r', IsTup.new _ _⟩)
    exact ⟨.ref h'.objs.size, _, I2, rfl, q _ (I1.hok.fresh (Nat.le_refl _))⟩
  · obtain ⟨its, r', pl, hz⟩ := I.tuple hq
    exact call_tuple_same pl ⟨.ref p, H, I, rfl, q⟩
def tyV (K : PySem.W.Frag) (T : String) (x : V) (H : Hp) : Prop := match x with
  | .str _ => T = "str"
  | .int _ => T = "int"
  | .ref p => (T = "list" ∧ ∃ xs, SqL K H p xs) ∨ (T = "tuple" ∧ ∃ o, K.lookup p = some o ∧ o.cls = .type "tuple" ∧ o.dict = none) ∨
      (T = "dict" ∧ ((∃ kvs, H p = some (.dK kvs)) ∨ ∃ kvs, H p = some (.dT kvs))) ∨ (T = "set" ∧ ∃ S n, H p = some (.set S n))
  | _ => False
theorem tyV_is {pins : List (Addr × Obj)} {σ : St} {H : Hp} {s : Shared} {T : String} {x : V} {v : Value} (I : Inv X pins σ H s) (r : RelV x v) (ty : tyV X.K T x H) :
    s.TypeIs v T ∧ ∀ a, v = .ref a → ∃ ob, s.heap.get? a = some ob ∧ ob.dict = none := by
  cases x with
  | str z =>
    obtain ⟨t, rfl⟩ := r
    cases (show T = "str" from ty)
    exact ⟨typeIs_str s z t, fun _ e => nomatch e⟩
  | int i =>
    obtain ⟨t, rfl⟩ := r
    cases (show T = "int" from ty)
    exact ⟨typeIs_int s i t, fun _ e => nomatch e⟩
  | ref p =>
    cases r
    rcases ty with ⟨rfl, xs, hq⟩ | ⟨rfl, o, hk, hc, hd⟩ | ⟨rfl, hk⟩ | ⟨rfl, S, n, hk⟩
    · obtain ⟨its, _, pl, _⟩ := I.list hq
      refine ⟨pl.isList.typeIs, fun a e => ?_⟩
      cases e
      obtain ⟨o, n, e, c, hd, _⟩ := pl
      exact ⟨o, e, hd⟩
    · refine ⟨⟨o, I.kIn p o hk, hc⟩, fun a e => ?_⟩
      cases e
      exact ⟨o, I.kIn _ o hk, hd⟩
    · have z : ∃ o, s.heap.get? p = some o ∧ o.ExactDict := by
        rcases hk with ⟨kvs, hk⟩ | ⟨kvs, hk⟩
        · obtain ⟨_, _, _, _, o, _, _, e, ex, _⟩ := I.hok p _ hk
          exact ⟨o, e, ex⟩
        · obtain ⟨_, _, _, _, o, _, _, e, ex, _⟩ := I.hok p _ hk
          exact ⟨o, e, ex⟩
      obtain ⟨o, e, ex⟩ := z
      refine ⟨⟨o, e, ex.1⟩, fun a e2 => ?_⟩
      cases e2
      exact ⟨o, e, ex.2.1⟩
    · obtain ⟨o, _, _, _, e, ex, _⟩ := I.hok p _ hk
      refine ⟨⟨o, e, ex.1⟩, fun a e2 => ?_⟩
      cases e2
      exact ⟨o, e, ex.2.1⟩
  | _ => exact False.elim ty
def tBM (K : PySem.W.Frag) (T : String) (r : V → List V → Hp → VK → Prop) (to : TE) (t : TA) : TE := fun σ H Q => to σ H fun x H1 => tyV K T x H1 ∧ t σ H1 fun xs H2 => r x xs H2 Q
variable {o e : Expr} {es : List Expr} {to : TE} {t : TA} {name : Str} {apos cpos : Pos} {T id : String} {r : V → List V → Hp → VK → Prop}
theorem pe_bm (pa : PlainAttrs T) (slot : Slot T name id) (hty : typeOf (.builtin id) = pure (.type "method_descriptor")) (hm : MtR X id r) (ho : PE X o to) (ha : PA X (e :: es) t)
    (hbase : attributeBase o name X.env (eval o X.env) = eval o X.env := by rfl)
    (hfew : ((backTo cpos (starEach (e :: es) X.env)).all (fun x => !x.1) && (backToKw cpos (keywordEach [] X.env)).all (fun x => x.1.isSome)
      && decide ((e :: es).length + ([] : List Keyword).length + (if ([] : List Keyword).isEmpty then 0 else 1) < 30)) = true := by rfl)
    (hline : (apos.endLine == cpos.line) = true := by rfl) (hs : starEach (e :: es) X.env = (false, eval e X.env) :: starEach es X.env := by rfl) (hplain : (backTo cpos (starEach es X.env)).any (·.1) = false := by rfl) :
    PE X (.Call (.Attribute o name apos) (e :: es) [] cpos) (tBM X.K T r to t) := by
  intro pins s σ H Q I h
  refine wpAny_Call_method_late hbase hfew hline rfl (thn (ho pins s σ H _ I h) fun v s1 ⟨x, H1, I1, r1, ty, q1⟩ => ?_)
  obtain ⟨h1, h2⟩ := tyV_is I1 r1 ty
  refine ⟨T, id, pa, slot, hty, h1, h2, ?_⟩
  have hA := ha cpos pins s1 σ H1 _ I1 q1
  rw [hs] at hA ⊢
  refine Calls.callWith_builtin (by show (false || (backTo cpos (starEach es X.env)).any (·.1)) = false; rw [hplain] <;> rfl) (Calls.evalArgs_plain ?_)
  exact thn hA fun us s2 ⟨vs, H2, I2, r2, q2⟩ => hm pins s2 σ H2 x vs v us Q I2 r1 r2 q2
end
end L2
namespace L2
open PySem PySem.Spec PyProof.Rows
def MtM (X : Cx) (id : String) (r : V → List V → Hp → VK → Prop) : Prop :=
  ∀ (pins : List (Addr × Obj)) (s : Shared) (σ : St) (H : Hp) (x : V) (xs : List V) (v : Value) (us : List Value) (Q : VK), Inv X pins σ H s → RelV x v → Vals xs us → r x xs H Q →
    wpAny (model X.prog X.w) X.A (call (.builtin id) (v :: us)) (EP X pins σ Q) X.xe s
theorem Vals.one : ∀ {x : V} {us : List Value}, Vals [x] us → ∃ u, us = [u] ∧ RelV x u
  | _, _, .cons r .nil => ⟨_, rfl, r⟩
theorem Vals.two : ∀ {x y : V} {us : List Value}, Vals [x, y] us → ∃ u v, us = [u, v] ∧ RelV x u ∧ RelV y v
  | _, _, _, .cons r (.cons q .nil) => ⟨_, _, rfl, r, q⟩
theorem Vals.zero : ∀ {us : List Value}, Vals [] us → us = []
  | _, .nil => rfl
theorem Vals.eraseIdx : ∀ {xs : List V} {us : List Value} (i : Nat), Vals xs us → Vals (xs.eraseIdx i) (us.eraseIdx i)
  | _, _, _, .nil => .nil
  | _, _, 0, .cons _ t => t
  | _, _, i + 1, .cons r t => .cons r (Vals.eraseIdx i t)
theorem Vals.reverse {xs : List V} {us : List Value} (h : Vals xs us) : Vals xs.reverse us.reverse := by
  induction h with
  | nil => exact .nil
  | cons r t ih => rw [List.reverse_cons, List.reverse_cons]; exact Vals.append ih (.cons r .nil)
theorem Vals.rep {xs : List V} {us : List Value} (h : Vals xs us) : ∀ k : Nat, Vals (List.replicate k xs).flatten (List.replicate k us).flatten
  | 0 => .nil
  | k + 1 => by
    rw [List.replicate_succ, List.replicate_succ, List.flatten_cons, List.flatten_cons]
    exact Vals.append h (Vals.rep h k)
section
variable {X : Cx} {pins : List (Addr × Obj)} {σ : St} {H : Hp} {s : Shared} {l b : Addr} {xs ys zs : List V}
theorem Inv.lset {its its' : List Value} {n : Nat} {f : Array Value → Array Value} {t' : Nat} (I : Inv X pins σ H s) (hH : H l = some (.lst xs))
    (e : s.heap.get? l = some { cls := .type "list", data := .seq its.toArray n }) (hf : f its.toArray = its'.toArray) (hv : Vals ys its') (hz : ys.length ≤ sizeLine) :
    Inv X pins σ (upd H l (.lst ys)) { s with heap := s.heap.update l (Obj.mapSeq f), toks := t' } := by
  have q := PySem.IsL.update e f
  rw [hf] at q
  refine I.write (x := l) (e := l) (by rw [hH]; exact trivial) (.inl rfl) (fun b' u hb hu => (Heap.get?_update_other s.heap (Obj.mapSeq f) (Ne.symm hb)).trans hu) ⟨_, q⟩ ?_
  exact ⟨hz, its', _, hv, q⟩
theorem Inv.fresh (I : Inv X pins σ H s) : H s.heap.objs.size = none := I.hok.fresh (Nat.le_refl _)
theorem Inv.lstM (I : Inv X pins σ H s) (hH : H l = some (.lst xs)) : xs.length ≤ sizeLine ∧ ∃ (its : List Value) (n : Nat), Vals xs its ∧ xs.length = its.length ∧ s.heap.get? l = some { cls := .type "list", data := .seq its.toArray n } := by
  obtain ⟨z, its, n, r, e⟩ := I.hok l _ hH
  exact ⟨z, its, n, r, r.length, e⟩
end
section
variable {X : Cx}
def rAppend : V → List V → Hp → VK → Prop := fun x vs H Q => ∃ l xs y, x = .ref l ∧ vs = [y] ∧ H l = some (.lst xs) ∧ xs.length < sizeLine ∧ Q .non (upd H l (.lst (xs ++ [y])))
theorem mt_append : MtM X "list.append" rAppend := by
  intro pins s σ H x vs v us Q I rx rv h
  obtain ⟨l, xs, y, rfl, rfl, hH, hz, q⟩ := h
  cases rx
  obtain ⟨u, rfl, ru⟩ := rv.one
  obtain ⟨z, its, n, r, hl, e⟩ := I.lstM hH
  refine call_meets F.slot_list_append ⟨_, e, rfl⟩ F.entry_list_append (F.args_list_append_2 _ _) (PySem.list_append l its.toArray n u (by rw [List.size_toArray]; omega)) ⟨e, ?_⟩
  refine ⟨.non, _, I.lset (its' := its ++ [u]) hH e (by simp) (r.append (.cons ru .nil)) ?_, rfl, q⟩
  rw [List.length_append, List.length_singleton]
  omega
end
section
variable {prog : Program} {w : World} {A : Around} {E : Value → Shared → Prop} {s : Shared}
end
section
variable {X : Cx}
end
end L2
namespace Att
open PySem PySem.W PySem.Calls PyProof.Rows
theorem ints_of_wellAll {P : Params} {h : Heap} : ∀ (ns : List Int) (vs : List Value), WellAll P h vs (ns.map WData.int) → IntsAre vs ns := by
  intro ns
  induction ns with
  | nil =>
    intro vs w
    rw [List.map_nil] at w
    cases w
    exact .nil
  | cons n ns ih =>
    intro vs w
    rw [List.map_cons] at w
    cases w with
    | cons a b =>
      cases a
      exact .cons _ _ (ih _ b)
theorem script_of {l : OpenLaw} {n : Nat} (hn : l.most = some n) {P : Params} {h : Heap} {args : List WData} {vals : List Value}
    (hpre : l.row.toRowW.claim.pre args = true) (hwl : WellAll P h vals args) :
    ∃ a vs ns, vals = [Value.ref a] ∧ args = [WData.list (ns.map WData.int)] ∧ h.get? a = some { cls := .type "list", data := .seq vs.toArray } ∧ IntsAre vs ns ∧ ns.length ≤ n := by
  have hsh : WShape.hasAll [] args [.list .int] = true := (pre_splitW hpre).1
  have hc : l.pre.holds [] { args := args } = true := (pre_splitW hpre).2
  obtain ⟨d, r, rfl, h1, h2⟩ := hasAllW_cons hsh
  obtain rfl := hasAllW_nil h2
  obtain ⟨xs, rfl, h3⟩ := hasW_list h1
  obtain ⟨ns, rfl⟩ := items_int h3
  have hlen : ns.length ≤ n := by
    unfold OpenLaw.pre at hc
    have h4 : (WTm.not (.lt (.lit (.int (n : Int))) (.len (.arg 0)))).holds [] { args := [.list (ns.map .int)] } = true := by
      have h4 := (holds_andW hc).1
      rw [hn] at h4
      exact h4
    have h5 := condW_of h4 (w_not (w_lt w_lit (w_len_list (w_arg rfl))))
    rw [List.length_map] at h5
    refine Nat.le_of_not_lt fun q => ?_
    have q' : (n : Int) < ((ns.length : Nat) : Int) := by omega
    first
      | (rw [decide_eq_true q'] at h5; exact absurd h5 (by decide))
      | (simp at h5; omega)
  cases hwl with
  | cons w1 w2 =>
    cases w2
    cases w1 with
    | list ho hall => exact ⟨_, _, ns, rfl, rfl, ho, ints_of_wellAll ns _ hall, hlen⟩
theorem post_true (l : OpenLaw) (args : List WData) : l.row.toRowW.claim.post args (.bool true) args = true :=
  postW_of (r := l.row.toRowW) (X := (true == true))
    (show WShape.has [] (.bool true) .bool = true by first | rfl | decide | simp [WShape.has, WShape.arms, WShape.armsAll])
    (show (WTm.eq .res (.lit (.bool true))).value [] { args := args, res := some (.bool true), after := args } = some (.bool (true == true)) from w_eq_bool (w_res rfl) w_lit) rfl
theorem attach_call {l : OpenLaw} {n : Nat} {q : Program} {loose : List Str} {XP : (Str → Option Value) → Heap → Prop} {YP : World → Heap → Prop} {d : DefRec}
    (hn : l.most = some n) (hdf : d.params.defaults = [])
    (call : ∀ (w : World) (s₀ s₁ : Shared) (mg mb : Str → Option Value) (fa : Addr) (o : Obj) (pm cd doc : Value) (a : Addr) (vs : List Value) (ns : List Int),
      Ground q loose [] XP w s₀ mg mb s₁.heap → YP w s₁.heap →
      s₁.heap.get? fa = some o → o.data = .func (docDef d.name d.params d.body d.scope pm cd doc) → s₁.heap.CodeRec cd d.name → mg d.name = some (.ref fa) →
      s₁.heap.get? a = some { cls := .type "list", data := .seq vs.toArray } → IntsAre vs ns → ns.length ≤ n → s₁.gens = #[] →
      codeAny (model l.prog w) callerA (.call (.ref fa) ⟨[.ref a], []⟩) (fun r s' => r = .ok (.ret (.bool true)) ∧ OldK s₁.heap s'.heap ∧ s'.os = s₁.os ∧ AllBare s'.gens) s₁) :
    WalkO q loose XP YP l.row.toRowW d [] (fun f vs => PySem.call f vs) := by
  intro w s₀ s₁ mg mb G Y fa o pm cd doc dV kV ho hd hcd hD hmg hg args vals as hpre hlay hrd hwl hlo
  obtain rfl : dV = .none := Dflts.none hD hdf
  obtain rfl : kV = .none := Dflts.noKw hD
  obtain ⟨a, vs, ns, rfl, rfl, hobj, hints, hlen⟩ := script_of hn hpre hwl
  refine enter_call (codeAny_mono (call w s₀ s₁ mg mb fa o pm cd doc a vs ns G Y ho (fd_plain hd) hcd hmg hobj hints hlen hg) fun r s' hq => ?_)
  obtain ⟨rfl, h2, h3, h4⟩ := hq
  exact ⟨.inl ⟨.bool true, .bool true, [], rfl, fun _ => rfl, .bool true, post_true l _, fun _ => ⟨List.Pairwise.nil, fun _ hm => (nomatch hm)⟩⟩, h2, h3, h4⟩
section
variable {prog : Program} {w : World} {A : Around} {E : Value → Shared → Prop} {s : Shared} {K : Frag}
end
end Att
namespace L2
open PySem PySem.Spec PyProof.Rows
theorem vals_ints : ∀ {vs : List Value} {ns : List Int}, IntsAre vs ns → Vals (ns.map V.int) vs
  | _, _, .nil => .nil
  | _, _, .cons n t h => .cons ⟨t, rfl⟩ (vals_ints h)
def Only (H : Hp) : Prop := ∀ b, H b = none ∨ ∃ o xs, H b = some (.frz o (.lst xs))
theorem law_call {P : Program} {w : World} {K : PySem.W.Frag} {mg mb : Str → Option Value} {CX : CXT} {k : Nat} {fa a : Addr} {fd : FuncData} {x : Str} {sp : Sp} {s₁ : Shared} {vs : List Value} {ns : List Int}
    (KX : K.In s₁.heap) (hns : s₁.heap.Ns mainGlobals mg) (hb : s₁.heap.Ns builtinsNs mb) (hbb : ∀ x : Str, x ≠ "__name__" → mb x = bootBuiltins x) (hlim : s₁.heap.NoLimit) (hg : s₁.gens = #[])
    (ha : s₁.heap.get? a = some { cls := .type "list", data := .seq vs.toArray }) (hi : IntsAre vs ns) (hl : ns.length ≤ sizeLine) (hr : Room k callerA)
    (F : ∀ base : Heap, K.In base → base.Ns mainGlobals mg → FnOk P w K mg base CX k fa fd [x] sp) (hbind : ∀ (s : Shared) (u : Value), BindsTo s fd ⟨[u], []⟩ [(x, u)])
    (hsp : ∀ H : Hp, Only H → SqL K H a (ns.map V.int) → sp [.ref a] H (fun v _ => v = .bl true) fun _ _ _ => False)
    (hCX : ∀ H e s', CX [] H s₁ (fun _ _ _ => False) e s' → False) :
    codeAny (model P w) callerA (.call (.ref fa) ⟨[.ref a], []⟩) (fun r s' => r = .ok (.ret (.bool true)) ∧ OldK s₁.heap s'.heap ∧ s'.os = s₁.os ∧ AllBare s'.gens) s₁ := by
  have rv := vals_ints hi
  have lenV := hi.length
  -- from an abstract heap in which nothing but the script may be tracked
  have core : ∀ H : Hp, Only H → SqL K H a (ns.map V.int) → HOk P w H s₁.heap → (∀ b, H b ≠ none → b = a) → (H a ≠ none → K.lookup a = none) →
      codeAny (model P w) callerA (.call (.ref fa) ⟨[.ref a], []⟩) (fun r s' => r = .ok (.ret (.bool true)) ∧ OldK s₁.heap s'.heap ∧ s'.os = s₁.os ∧ AllBare s'.gens) s₁ := by
    intro H hO hS hok hA hK
    have base_of : ∀ {b : Addr} {o : Obj}, s₁.heap.get? b = some o → H b = none → (hidT s₁.heap H).get? b = some o := fun e n => hidT_get e n
    have noA : ∀ {b : Addr} {o : Obj} {es : Array DictEntry} {ep : Nat}, s₁.heap.get? b = some o → o.data = .dict es ep → H b = none := fun {b o es ep} e d => by
      cases q : H b with
      | none => rfl
      | some u =>
        have e' : b = a := hA b (by rw [q]; simp)
        subst e'
        rw [ha] at e; cases e
        have d' : Data.seq vs.toArray _ = Data.dict es ep := d
        cases d'
    have nsK : ∀ {b : Addr} {m : Str → Option Value}, s₁.heap.Ns b m → (hidT s₁.heap H).Ns b m := fun {b m} ⟨o, es, ep, e, d, r⟩ => ⟨o, es, ep, base_of e (noA e d), d, r⟩
    have hKb : K.In (hidT s₁.heap H) := fun b o e => base_of (KX b o e) (by
      cases q : H b with
      | none => rfl
      | some u =>
        have e' : b = a := hA b (by rw [q]; simp)
        subst e'
        rw [hK (by rw [q]; simp)] at e; cases e)
    have hM : Mod K mg (hidT s₁.heap H) := ⟨hKb, nsK hns, ⟨mb, nsK hb, hbb⟩, let ⟨mc, h1, h2⟩ := hlim; ⟨mc, nsK h1, h2⟩⟩
    have e0 : Env0 P w K mg (hidT s₁.heap H) callerA [] s₁ H := ⟨rfl, hM, fun b o e => of_hidT e, Nat.le_of_eq (hidT_size _ _), trivial, fun b hb => absurd (show b ∈ ([] : List Addr) from hb) (by simp), hok, .of_eq hg⟩
    refine codeAny_mono ((F _ hKb (nsK hns)).run callerA [] s₁ H ⟨[.ref a], []⟩ [.ref a] [.ref a] _ _ hr e0 (hbind s₁ (.ref a)) (.cons rfl .nil) (hsp H hO hS)) fun r s' h => ?_
    cases r with
    | error e => exact (hCX H e s' h).elim
    | ok fl =>
      cases fl with
      | next => exact False.elim h
      | brk => exact False.elim h
      | cont => exact False.elim h
      | ret u =>
        obtain ⟨v, H', os, bare, un, hok', r', q⟩ := h
        have q' : v = .bl true := q
        subst q'
        obtain rfl : u = Value.bool true := r'
        refine ⟨rfl, OldK.of_keep fun b o e => ?_, os, bare⟩
        cases q : H b with
        | none => exact un.keep b o e q (by intro z; exact absurd (show b ∈ ([] : List Addr) from z) (by simp)) (by simp)
        | some u =>
          rcases hO b with z | ⟨ob, xs, z⟩
          · rw [q] at z; cases z
          · have z2 := un.frzs b ob _ z
            obtain ⟨e1, _⟩ := hok b _ z
            obtain ⟨e2, _⟩ := hok' b _ z2
            rw [e] at e1; cases e1
            exact e2
  cases hk : K.lookup a with
  | some o =>
    -- the script is one of the module's own objects
    have e := KX a o hk
    rw [ha] at e
    cases e
    refine core (fun _ => none) (fun _ => .inl rfl) (.inr ⟨_, vs.toArray, _, hk, rfl, rfl, rfl, by rw [List.size_toArray, lenV]; exact hl, by simpa using rv⟩) (fun b u z => by have z' : (none : Option HO) = some u := z; cases z') (fun b z => absurd rfl z) fun z => absurd rfl z
  | none =>
    refine core (fun b => if b = a then some (.frz { cls := .type "list", data := .seq vs.toArray } (.lst (ns.map V.int))) else none) (fun b => ?_) (.inl (.inr ⟨{ cls := .type "list", data := .seq vs.toArray }, if_pos rfl⟩)) (fun b u z => ?_) (fun b z => ?_) fun _ => hk
    · by_cases hb : b = a
      · exact .inr ⟨_, _, if_pos hb⟩
      · exact .inl (if_neg hb)
    · by_cases hb : b = a
      · have z' := (if_pos hb).symm.trans z
        cases z'
        subst hb
        exact ⟨ha, by rw [List.length_map]; exact hl, vs, _, rv, ha⟩
      · have z' := (if_neg hb).symm.trans z
        cases z'
    · by_cases hb : b = a
      · exact hb
      · exact absurd (if_neg hb) z
end L2
namespace L2
open PySem PySem.Spec PyProof.Rows
theorem walk_of {l : PySem.W.OpenLaw} {n k : Nat} {q : Program} {loose : List Str} {XP : (Str → Option Value) → Heap → Prop} {YP : World → Heap → Prop} {d : DefRec} {K : Params → PySem.W.Frag} {CX : World → CXT} {sp : World → Sp} {x : Str}
    (hn : l.most = some n) (hn2 : n ≤ sizeLine) (hdf : d.params.defaults = []) (hr : Room k callerA)
    (hY : ∀ (w : World) (h : Heap), YP w h → (K w.params).In h)
    (F : ∀ (w : World) (mg : Str → Option Value) (fa : Addr) (h : Heap), (K w.params).In h → h.Ns mainGlobals mg → mg d.name = some (.ref fa) →
      ∃ fd : FuncData, (∀ (s : Shared) (u : Value), BindsTo s fd ⟨[u], []⟩ [(x, u)]) ∧
        ∀ base : Heap, (K w.params).In base → base.Ns mainGlobals mg → FnOk l.prog w (K w.params) mg base (CX w) k fa fd [x] (sp w))
    (hsp : ∀ (w : World) (H : Hp) (a : Addr) (ns : List Int), ns.length ≤ n → Only H → SqL (K w.params) H a (ns.map V.int) → sp w [.ref a] H (fun v _ => v = .bl true) fun _ _ _ => False)
    (hCX : ∀ (w : World) (H : Hp) (s : Shared) (e : Value) (s' : Shared), CX w [] H s (fun _ _ _ => False) e s' → False) :
    PySem.W.WalkO q loose XP YP l.row.toRowW d [] (fun f vs => PySem.call f vs) := by
  refine Att.attach_call hn hdf fun w s₀ s₁ mg mb fa o pm cd doc a vs ns G Y ho hd hcd hmg hobj hints hlen hg => ?_
  have KX := hY w _ Y
  obtain ⟨fd, hb, hF⟩ := F w mg fa _ KX G.T.g hmg
  exact law_call KX G.T.g G.T.b G.T.builtins G.T.nolimit hg hobj hints (Nat.le_trans hlen hn2) hr hF hb (fun H hO hS => hsp w H a ns hlen hO hS) fun H e s' => hCX w H s₁ e s'
end L2
namespace L2
open PySem PySem.Spec PyProof.Rows
def defArgs (s : Stmt) : Arguments := match s with
  | .FunctionDef _ a _ _ _ _ _ _ _ _ => a
  | _ => { posonlyargs := [], args := [], vararg := none, kwonlyargs := [], kw_defaults := [], kwarg := none, defaults := [] }
def defBody (s : Stmt) : List Stmt := match s with
  | .FunctionDef _ _ b _ _ _ _ _ _ _ => b
  | _ => []
def defScope (s : Stmt) : Scope := match s with
  | .FunctionDef _ _ _ _ _ _ sc _ _ _ => sc
  | _ => { kind := .function, names := [], isGenerator := false, isCoroutine := false }
abbrev CX0 : CXT := fun _ _ _ _ _ _ => False
abbrev E0 : XK := fun _ _ _ => False
theorem pass0 {X : Cx} : Passes CX0 X E0 := fun _ _ _ _ _ _ _ h => h.elim
structure Fun (K : PySem.W.Frag) (x qual : Str) (st : Stmt) (f : Addr) (fd : FuncData) : Prop where
  ex : ∃ (oc : Value) (od : Option Addr) (kV doc pm : Value) (an : Option Addr) (cdv ct : Value) (osl : Array (Option Value)),
    fd = PySem.W.fnOf x qual (defArgs st) (defBody st) (defScope st) .none kV doc pm an cdv ct ∧ K.lookup f = some ⟨oc, od, .func fd, osl⟩ ∧ PySem.W.codeIn K cdv qual = true
  kp : PySem.W.keepIn K (.ref f) = true
section
variable {P : Program} {w : World} {K : PySem.W.Frag} {mg : Str → Option Value} {base : Heap}
theorem Fun.ok {x qual : Str} {st : Stmt} {f : Addr} {fd : FuncData} {N ps : List Str} {k : Nat} {sp : Sp} (F : Fun K x qual st f fd) (S : FnScope N ps (defScope st)) (len : ∀ vs H Q E, sp vs H Q E → vs.length = ps.length)
    (hbody : ∀ (cdv : Value) (A : Around) (outer : List Env) (s : Shared) (H : Hp) (vs : List V) (Q : VK) (E : XK), Room k (A.deeper (envOfC qual (defScope st) s.heap.objs.size f cdv)) → sp vs H Q E →
      ∃ t, PSs (cxOf CX0 P w K mg base N qual (defScope st) f cdv A outer s H E).nox (defBody st) t ∧ t { nx := fun _ H' => Q .non H', rt := Q } (start N vs) H) : FnOk P w K mg base CX0 (k + 1) f fd ps sp := by
  obtain ⟨oc, od, kV, doc, pm, an, cdv, ct, osl, rfl, lk, hcd⟩ := F.ex
  refine fn_of lk hcd S len fun A outer s H vs Q E hr hsp => ?_
  obtain ⟨t, h, q⟩ := hbody cdv A outer s H vs Q E hr hsp
  exact ⟨t, h.nox, q⟩
theorem Fun.binds {x qual : Str} {st : Stmt} {f : Addr} {fd : FuncData} {ps : List Str} (F : Fun K x qual st f fd)
    (h : ∀ (kV doc pm : Value) (an : Option Addr) (cdv ct : Value) (us : List Value), us.length = ps.length → bindArgs (PySem.W.fnOf x qual (defArgs st) (defBody st) (defScope st) .none kV doc pm an cdv ct) ⟨us, []⟩ = pure (ps.zip us)) : Binds K fd ps [] := by
  obtain ⟨oc, od, kV, doc, pm, an, cdv, ct, osl, rfl, lk, hcd⟩ := F.ex
  exact .all (h kV doc pm an cdv ct)
theorem fun_mk {x qual : Str} {st : Stmt} {f : Addr} {oc : Value} {od an : Option Addr} {osl : Array (Option Value)} {kV doc pm cdv ct : Value} (l : K.lookup f = some ⟨oc, od, .func (PySem.W.fnOf x qual (defArgs st) (defBody st) (defScope st) .none kV doc pm an cdv ct), osl⟩)
    (c : PySem.W.codeIn K cdv qual = true) (k : PySem.W.keepIn K (.ref f) = true) : Fun K x qual st f (PySem.W.fnOf x qual (defArgs st) (defBody st) (defScope st) .none kV doc pm an cdv ct) := ⟨⟨oc, od, kV, doc, pm, an, cdv, ct, osl, rfl, l, c⟩, k⟩
end
section
variable {X : Cx}
end
theorem iteF {A B : Prop} (h : B) : if false = true then A else B := by
  rw [if_neg Bool.false_ne_true]
  exact h
theorem iteT {A B : Prop} (h : A) : if true = true then A else B := by
  rw [if_pos rfl]
  exact h
def Same (H H' : Hp) : Prop := ∀ b o, H b = some o → H' b = some o
theorem Same.refl (H : Hp) : Same H H := fun _ _ h => h
theorem Same.trans {H H1 H2 : Hp} (a : Same H H1) (b : Same H1 H2) : Same H H2 := fun c o h => b c o (a c o h)
theorem Same.free {H H' : Hp} (e : Same H H') {l : Addr} (h : H' l = Option.none) : H l = Option.none := by
  cases q : H l with
  | none => rfl
  | some o =>
    rw [e l o q] at h
    cases h
theorem Same.seq {K : PySem.W.Frag} {H H' : Hp} {a : Addr} {xs : List V} (e : Same H H') (h : SqL K H a xs) : SqL K H' a xs := by
  rcases h with (h | ⟨o, h⟩) | h
  · exact .inl (.inl (e _ _ h))
  · exact .inl (.inr ⟨o, e _ _ h⟩)
  · exact .inr h
end L2
set_option Elab.async false
set_option linter.all false
set_option maxRecDepth 100000
namespace L2
open PySem PySem.Spec PyProof.Rows
section
variable {κ : Type} [DecidableEq κ]
def valV (kvs : List (κ × V)) (k : κ) : Option V := (kvs.find? fun kv => decide (kv.1 = k)).map (·.2)
def putK (kvs : List (κ × V)) (k : κ) (v : V) : List (κ × V) :=
  if (kvs.any fun kv => decide (kv.1 = k)) = true then kvs.map (fun kv => if kv.1 = k then (kv.1, v) else kv) else kvs ++ [(k, v)]
def dropK (kvs : List (κ × V)) (k : κ) : List (κ × V) := kvs.filter fun kv => decide (kv.1 ≠ k)
theorem valV_pos {p : κ × V} {r : List (κ × V)} {k : κ} (e : p.1 = k) : valV (p :: r) k = some p.2 := by simp [valV, List.find?_cons, e]
theorem valV_neg {p : κ × V} {r : List (κ × V)} {k : κ} (e : ¬ p.1 = k) : valV (p :: r) k = valV r k := by simp [valV, List.find?_cons, e]
theorem valV_any (k : κ) : ∀ kvs : List (κ × V), (kvs.any fun kv => decide (kv.1 = k)) = (valV kvs k).isSome
  | [] => rfl
  | p :: r => by
    rw [List.any_cons]
    by_cases e : p.1 = k
    · simp only [valV_pos e, decide_eq_true e, Bool.true_or, Option.isSome_some]
    · rw [valV_neg e, decide_eq_false e, Bool.false_or]; exact valV_any k r
theorem length_putK (kvs : List (κ × V)) (k : κ) (v : V) : (putK kvs k v).length ≤ kvs.length + 1 := by
  unfold putK
  split
  · rw [List.length_map]; omega
  · rw [List.length_append, List.length_cons, List.length_nil]; omega
theorem RelO.isSome_eq {o : Option V} {u : Option Value} (r : RelO o u) : o.isSome = u.isSome := by
  cases o with
  | none => cases u with
    | none => rfl
    | some _ => exact (show False from r).elim
  | some _ => cases u with
    | none => exact (show False from r).elim
    | some _ => rfl
theorem RelO.getD {o : Option V} {u : Option Value} {d : V} {d' : Value} (r : RelO o u) (rd : RelV d d') : RelV (o.getD d) (u.getD d') := by
  cases o with
  | none => cases u with
    | none => exact rd
    | some _ => exact (show False from r).elim
  | some _ => cases u with
    | none => exact (show False from r).elim
    | some _ => exact r
theorem KV.val {kvs : List (κ × V)} {vs : List (κ × Value)} (r : KV kvs vs) (k : κ) : RelO (valV kvs k) (valueAt vs k) := by
  unfold KV at r
  induction r with
  | nil => exact True.intro
  | @cons p q ps qs h t ih =>
    obtain ⟨h1, h2⟩ := h
    by_cases e : p.1 = k
    · have e' : q.1 = k := h1.symm.trans e
      have b : valueAt (q :: qs) k = some q.2 := by simp [valueAt, List.find?_cons, e']
      rw [valV_pos e, b]; exact h2
    · have e' : ¬ q.1 = k := fun z => e (h1.trans z)
      have b : valueAt (q :: qs) k = valueAt qs k := by simp [valueAt, List.find?_cons, e']
      rw [valV_neg e, b]; exact ih
theorem KV.any {kvs : List (κ × V)} {vs : List (κ × Value)} (r : KV kvs vs) (k : κ) : (kvs.any fun kv => decide (kv.1 = k)) = vs.any fun kv => decide (kv.1 = k) := by
  unfold KV at r
  induction r with
  | nil => rfl
  | cons h t ih => rw [List.any_cons, List.any_cons, ih, h.1]
theorem KV.repl {kvs : List (κ × V)} {vs : List (κ × Value)} (r : KV kvs vs) (k : κ) {y : V} {u : Value} (ry : RelV y u) :
    KV (kvs.map fun kv => if kv.1 = k then (kv.1, y) else kv) (vs.map fun kv => if kv.1 = k then (kv.1, u) else kv) := by
  unfold KV at r ⊢
  induction r with
  | nil => exact .nil
  | @cons p q ps qs h t ih =>
    rw [List.map_cons, List.map_cons]
    refine .cons ?_ ih
    obtain ⟨h1, h2⟩ := h
    by_cases e : p.1 = k
    · rw [if_pos e, if_pos (h1.symm.trans e)]; exact ⟨h1, ry⟩
    · rw [if_neg e, if_neg (fun z => e (h1.trans z))]; exact ⟨h1, h2⟩
theorem KV.put {kvs : List (κ × V)} {vs : List (κ × Value)} (r : KV kvs vs) (k : κ) {y : V} {u : Value} (ry : RelV y u) : KV (putK kvs k y) (stored vs k u) := by
  unfold putK stored
  rw [r.any k]
  by_cases e : (vs.any fun kv => decide (kv.1 = k)) = true
  · rw [if_pos e, if_pos e]; exact r.repl k ry
  · rw [if_neg e, if_neg e]; exact Paired.snoc r ⟨rfl, ry⟩
theorem KV.drop {kvs : List (κ × V)} {vs : List (κ × Value)} (r : KV kvs vs) (k : κ) : KV (dropK kvs k) (without vs k) := by
  unfold KV at r ⊢
  unfold dropK without
  induction r with
  | nil => exact .nil
  | @cons p q ps qs h t ih =>
    obtain ⟨h1, h2⟩ := h
    rw [List.filter_cons, List.filter_cons]
    by_cases e : p.1 = k
    · have a : ¬ decide (p.1 ≠ k) = true := by simp [e]
      have b : ¬ decide (q.1 ≠ k) = true := by simp [h1.symm.trans e]
      rw [if_neg a, if_neg b]; exact ih
    · have e' : ¬ q.1 = k := fun z => e (h1.trans z)
      have a : decide (p.1 ≠ k) = true := by simp [e]
      have b : decide (q.1 ≠ k) = true := by simp [e']
      rw [if_pos a, if_pos b]; exact .cons ⟨h1, h2⟩ ih
theorem KV.keys {kvs : List (κ × V)} {vs : List (κ × Value)} (r : KV kvs vs) : kvs.map (·.1) = vs.map (·.1) := by
  unfold KV at r
  induction r with
  | nil => rfl
  | cons h t ih => rw [List.map_cons, List.map_cons, ih, h.1]
theorem KV.length {kvs : List (κ × V)} {vs : List (κ × Value)} (r : KV kvs vs) : kvs.length = vs.length := Paired.length r
end
theorem kV_is {P : Program} {w : World} {k : Key} {u : Value} (r : RelV (kV k) u) : (mixKind P w).is k u = true := by
  cases k with
  | inl i => obtain ⟨t, e⟩ := (show ∃ t, u = Value.int i t from r); subst e; exact mixKind_int P w i t
  | inr x => obtain ⟨t, e⟩ := (show ∃ t, u = Value.str x t from r); subst e; exact mixKind_str P w x t
theorem items_are {P : Program} {w : World} : ∀ {ks : List Key} {us : List Value}, Vals (ks.map kV) us → ItemsAre (mixKind P w) ks us
  | [], _, r => by rw [List.map_nil] at r; cases r; exact .nil
  | k :: ks, _, r => by
    rw [List.map_cons] at r
    cases r with
    | cons h t => exact .cons (kV_is h) (items_are t)
abbrev KT (H : Hp) : List (List Key × V) → List (List Key × Addr × Value) → Prop := Paired fun p q => p.1 = q.1 ∧ H q.2.1 = some (.tup (p.1.map kV)) ∧ RelV p.2 q.2.2
theorem KT.val {H : Hp} {kvs : List (List Key × V)} {xs : List (List Key × Addr × Value)} (r : KT H kvs xs) (k : List Key) : RelO (valV kvs k) ((atKey xs k).map (·.2)) := by
  induction r with
  | nil => exact True.intro
  | @cons p q ps qs h t ih =>
    obtain ⟨h1, _, h2⟩ := h
    by_cases e : p.1 = k
    · have e' : q.1 = k := h1.symm.trans e
      have b : atKey (q :: qs) k = some q.2 := by simp [atKey, List.find?_cons, e']
      rw [valV_pos e, b]; exact h2
    · have e' : ¬ q.1 = k := fun z => e (h1.trans z)
      have b : atKey (q :: qs) k = atKey qs k := by simp [atKey, List.find?_cons, e']
      rw [valV_neg e, b]; exact ih
theorem KT.repl {H : Hp} {kvs : List (List Key × V)} {xs : List (List Key × Addr × Value)} (r : KT H kvs xs) (k : List Key) {y : V} {u : Value} (ry : RelV y u) :
    KT H (kvs.map fun kv => if kv.1 = k then (kv.1, y) else kv) (xs.map (putAt k u)) := by
  induction r with
  | nil => exact .nil
  | @cons p q ps qs h t ih =>
    rw [List.map_cons, List.map_cons]
    refine .cons ?_ ih
    obtain ⟨h1, h2, h3⟩ := h
    unfold putAt
    by_cases e : p.1 = k
    · rw [if_pos e, if_pos (h1.symm.trans e)]; exact ⟨h1, h2, ry⟩
    · rw [if_neg e, if_neg (fun z => e (h1.trans z))]; exact ⟨h1, h2, h3⟩
theorem KT.put {H : Hp} {kvs : List (List Key × V)} {xs : List (List Key × Addr × Value)} (r : KT H kvs xs) (k : List Key) {b : Addr} {y : V} {u : Value} (hb : H b = some (.tup (k.map kV))) (ry : RelV y u) :
    KT H (putK kvs k y) (storedH xs k b u) := by
  have e : (kvs.any fun kv => decide (kv.1 = k)) = (atKey xs k).isSome := by
    rw [valV_any, (r.val k).isSome_eq, Option.isSome_map]
  unfold putK storedH
  rw [e]
  by_cases q : (atKey xs k).isSome = true
  · rw [if_pos q, if_pos q]; exact r.repl k ry
  · rw [if_neg q, if_neg q]; exact Paired.snoc r ⟨rfl, hb, ry⟩
theorem KT.keeps {H H' : Hp} {kvs : List (List Key × V)} {xs : List (List Key × Addr × Value)} (r : KT H kvs xs) (ht : ∀ b ys, H b = some (.tup ys) → H' b = some (.tup ys)) : KT H' kvs xs :=
  Paired.mapP r fun _ _ z => ⟨z.1, ht _ _ z.2.1, z.2.2⟩
section
variable {P : Program} {w : World} {H : Hp} {h : Heap} {a : Addr}
theorem rd_of {u : HO} (ok : HOk P w H h) (e : Rd H a u) : ObjOk P w H h a u := e.ok ok
theorem dk_rd {kvs : List (Key × V)} (ok : HOk P w H h) (e : Rd H a (.dK kvs)) : kvs.length ≤ sizeLine ∧ (a == sysModules) = false ∧ ∃ vs, KV kvs vs ∧ h.DictOf (mixKind P w) a vs :=
  show ObjOk P w H h a (.dK kvs) from rd_of ok e
theorem dk_of {kvs : List (Key × V)} (ok : HOk P w H h) (e : H a = some (.dK kvs)) : kvs.length ≤ sizeLine ∧ (a == sysModules) = false ∧ ∃ vs, KV kvs vs ∧ h.DictOf (mixKind P w) a vs := dk_rd ok (.inl e)
theorem key_of {ks : List Key} (ok : HOk P w H h) (e : H a = some (.tup (ks.map kV))) : (tupleKind (mixKind P w)).is h ks a := by
  obtain ⟨_, its, r, o, h1, h2, n, h3⟩ := (show ObjOk P w H h a (.tup (ks.map kV)) from ok a _ e)
  exact ⟨o, its.toArray, n, h1, h2, h3, by simpa using items_are r⟩
theorem dt_rd {kvs : List (List Key × V)} (ok : HOk P w H h) (e : Rd H a (.dT kvs)) : kvs.length ≤ sizeLine ∧ (a == sysModules) = false ∧
    ∃ xs, KT H kvs xs ∧ h.DictOfH (tupleKind (mixKind P w)) a xs := by
  obtain ⟨z, y, xs, r, o, es, ep, h1, h2, h3, h4, h5⟩ := (show ObjOk P w H h a (.dT kvs) from rd_of ok e)
  refine ⟨z, y, xs, r, o, es, ep, h1, h2, h3, h4, fun x hx => ?_, h5⟩
  have all : ∀ {l : List (List Key × V)} {m : List (List Key × Addr × Value)}, KT H l m → ∀ x ∈ m, (tupleKind (mixKind P w)).is h x.1 x.2.1 := by
    intro l m q
    induction q with
    | nil => intro x hx; exact nomatch hx
    | @cons p q ps qs hq t ih =>
      intro x hx
      rcases List.mem_cons.mp hx with e | hx
      · subst e
        exact key_of ok (by rw [← hq.1]; exact hq.2.1)
      · exact ih x hx
  exact all r x hx
theorem dt_of {kvs : List (List Key × V)} (ok : HOk P w H h) (e : H a = some (.dT kvs)) : kvs.length ≤ sizeLine ∧ (a == sysModules) = false ∧
    ∃ xs, KT H kvs xs ∧ h.DictOfH (tupleKind (mixKind P w)) a xs := dt_rd ok (.inl e)
end
def DGet (H : Hp) (a : Addr) (y : V) (r : Option V) : Prop :=
  (∃ kvs k, Rd H a (.dK kvs) ∧ y = kV k ∧ r = valV kvs k) ∨ ∃ kvs k b, Rd H a (.dT kvs) ∧ y = .ref b ∧ H b = some (.tup (k.map kV)) ∧ r = valV kvs k
def DPut (H : Hp) (a : Addr) (y v : V) (H' : Hp) : Prop :=
  (∃ kvs k, H a = some (.dK kvs) ∧ y = kV k ∧ kvs.length < sizeLine ∧ H' = upd H a (.dK (putK kvs k v))) ∨
  ∃ kvs k b, H a = some (.dT kvs) ∧ y = .ref b ∧ H b = some (.tup (k.map kV)) ∧ kvs.length < sizeLine ∧ H' = upd H a (.dT (putK kvs k v))
theorem DGet.k {H : Hp} {a : Addr} {kvs : List (Key × V)} {k : Key} (e : H a = some (.dK kvs)) : DGet H a (kV k) (valV kvs k) := .inl ⟨kvs, k, .inl e, rfl, rfl⟩
theorem DGet.t {H : Hp} {a b : Addr} {kvs : List (List Key × V)} {k : List Key} (e : H a = some (.dT kvs)) (eb : H b = some (.tup (k.map kV))) : DGet H a (.ref b) (valV kvs k) := .inr ⟨kvs, k, b, .inl e, rfl, eb, rfl⟩
theorem DPut.k {H : Hp} {a : Addr} {kvs : List (Key × V)} {k : Key} {v : V} (e : H a = some (.dK kvs)) (hl : kvs.length < sizeLine) : DPut H a (kV k) v (upd H a (.dK (putK kvs k v))) := .inl ⟨kvs, k, e, rfl, hl, rfl⟩
theorem DPut.t {H : Hp} {a b : Addr} {kvs : List (List Key × V)} {k : List Key} {v : V} (e : H a = some (.dT kvs)) (eb : H b = some (.tup (k.map kV))) (hl : kvs.length < sizeLine) :
    DPut H a (.ref b) v (upd H a (.dT (putK kvs k v))) := .inr ⟨kvs, k, b, e, rfl, eb, hl, rfl⟩
section
variable {X : Cx} {pins : List (Addr × Obj)} {σ : St} {H : Hp} {s : Shared} {a : Addr} {y v : V} {u r : Value} {o : Option V} {A : Around} {E : Value → Shared → Prop}
theorem Inv.big (I : Inv X pins σ H s) : sysModules < s.heap.objs.size := by
  have h : mainGlobals < s.heap.objs.size := (I.mod.glob.keeps I.bk).lt
  exact Nat.lt_trans (by decide) h
theorem d_getItem {Q : Value → Shared → Prop} (hu : A.units + 1 < cLine) (I : Inv X pins σ H s) (g : DGet H a y (some v)) (ry : RelV y u) (h : ∀ w' s', Inv X pins σ H s' → RelV v w' → Q w' s') :
    wpAny (model X.prog X.w) A (getItem (.ref a) u) Q E s := by
  rcases g with ⟨kvs, k, e, ey, l⟩ | ⟨kvs, k, b, e, ey, eb, l⟩
  · subst ey
    obtain ⟨z, hd, vs, rel, dd⟩ := dk_rd I.hok e
    obtain ⟨w', hw, rw'⟩ := RelO.some_of (v := v) (o := valueAt vs k) (by rw [l]; exact rel.val k)
    exact wpAny_getItem_of (kV_is ry) dd.mapOf hw (h w' _ (I.tok _) rw')
  · subst ey
    cases (show u = Value.ref b from ry)
    obtain ⟨z, hd, xs, rel, dd⟩ := dt_rd I.hok e
    obtain ⟨w', hw, rw'⟩ := RelO.some_of (v := v) (o := (atKey xs k).map (·.2)) (by rw [l]; exact rel.val k)
    obtain ⟨p, hp, hp2⟩ := Option.map_eq_some_iff.mp hw
    refine wpAny_getItem_heap (tupleKind_room_in1 hu) (key_of I.hok eb) dd hp ?_
    rw [hp2]
    exact h w' _ (I.tok _) rw'
theorem d_write {h' : Heap} {t' : Nat} {ob : HO} (I : Inv X pins σ H s) (mu : Mut (H a)) (hs : Heap.SameBut a s.heap h') (he : ∃ q, h'.get? a = some q) (new : ObjOk X.prog X.w (upd H a ob) h' a ob) :
    Inv X pins σ (upd H a ob) { s with heap := h', toks := t' } :=
  I.write (x := a) (e := a) mu (.inl rfl) (fun b q hb z => (hs.2 b hb).trans z) he new
theorem dk_new {P : Program} {w : World} {H' : Hp} {h' : Heap} {kvs : List (Key × V)} {vs : List (Key × Value)} (z : kvs.length ≤ sizeLine) (hd : (a == sysModules) = false) (rel : KV kvs vs) (dd : h'.DictOf (mixKind P w) a vs) :
    ObjOk P w H' h' a (.dK kvs) := ⟨z, hd, vs, rel, dd⟩
theorem d_setItem {H' : Hp} {Q : Unit → Shared → Prop} (hu : A.units + 1 < cLine) (I : Inv X pins σ H s) (g : DPut H a y v H') (ry : RelV y u) (rv : RelV v r) (h : ∀ s', Inv X pins σ H' s' → Q () s') :
    wpAny (model X.prog X.w) A (setItem (.ref a) u r) Q E s := by
  rcases g with ⟨kvs, k, e, ey, l, eH⟩ | ⟨kvs, k, b, e, ey, eb, l, eH⟩
  · subst ey eH
    obtain ⟨z, hd, vs, rel, dd⟩ := dk_of I.hok e
    have hz : vs.length ≤ sizeLine := by rw [← rel.length]; exact z
    have hl : (putK kvs k v).length ≤ sizeLine := by have := length_putK kvs k v; omega
    refine wpAny_setItem_pairs (hsz := hz) (kV_is ry) dd fun h' dd' hs => h _ ?_
    have he : ∃ q, h'.get? a = some q := let ⟨q, _, _, hq, _⟩ := dd'; ⟨q, hq⟩
    exact d_write I (by rw [e]; exact True.intro) hs he (dk_new hl hd (rel.put k rv) dd')
  · subst ey eH
    cases (show u = Value.ref b from ry)
    obtain ⟨z, hd, xs, rel, dd⟩ := dt_of I.hok e
    have hz : xs.length ≤ sizeLine := by rw [← Paired.length rel]; exact z
    have hl : (putK kvs k v).length ≤ sizeLine := by have := length_putK kvs k v; omega
    refine wpAny_setItem_heap (hsz := hz) (tupleKind_room_in1 hu) (key_of I.hok eb) dd fun h' dd' hs => h _ ?_
    obtain ⟨q, es, ep, hq, h2, h3, h4, _, h5⟩ := dd'
    refine d_write I (by rw [e]; exact True.intro) hs ⟨q, hq⟩ ⟨hl, hd, _, (rel.put k eb rv).keeps fun c ys ec => ?_, q, es, ep, hq, h2, h3, h4, h5⟩
    rw [upd_ne (ne_of ec e (fun z => nomatch z))]
    exact ec
end
section
variable {X : Cx} {pins : List (Addr × Obj)} {σ : St} {H : Hp} {s : Shared} {a : Addr} {kvs : List (Key × V)} {k : Key} {u : Value} {A : Around} {E : Value → Shared → Prop}
end
def NoSl (i : Expr) : Prop := ∀ ov iv, subscripted i false ov iv = operate [ov, iv] (getItem ov iv)
theorem subD_of {prog : Program} {w : World} {A : Around} {E : Value → Shared → Prop} {s : Shared} {env : Env} {value slice : Expr} {pos : Pos} {T id : String} {Q : Value → Shared → Prop}
    (hl : typeLookup (.type T) "__getitem__" = pure (some (.builtin id))) (hs : NoSl slice)
    (h : wpAny (model prog w) A (eval value env) (fun o s₁ => wpAny (model prog w) A (eval slice env) (fun i s₂ => s₂.TypeIs o T ∧ wpAny (model prog w) A (getItem o i) Q E s₂) E s₁) E s) :
    wpAny (model prog w) A (eval (.Subscript value slice pos) env) Q E s := by
  refine Subscript_ (wpAny_mono h (fun o s₁ h₁ => wpAny_mono h₁ (fun i s₂ h₂ => ?_) fun _ _ x => x) fun _ _ x => x)
  obtain ⟨hT, h₂⟩ := h₂
  unfold subscriptTail
  refine wpAny_bind ?_
  rw [getitemInPython_of_ne hT.not_modules]
  refine wpAny_bind (wpAny_specialOf hT hl ?_)
  have fin : wpAny (model prog w) A (subscripted slice false o i) (fun r s₃ => wpAny (model prog w) A (letTemporaryGo value o r >>= fun _ => pure r) Q E s₃) E s₂ := by
    rw [hs o i]
    exact wpAny_operating (wpAny_mono h₂ (fun r s₃ h₃ => wpAny_bind (wpAny_letTemporaryGo (wpAny_pure h₃))) fun _ _ x => x)
  first
    | exact wpAny_pure (wpAny_bind fin)
    | exact wpAny_bind (wpAny_pure (wpAny_bind fin))
    | exact wpAny_bind fin
theorem dict_typeIs {X : Cx} {pins : List (Addr × Obj)} {σ : St} {H : Hp} {s : Shared} {a : Addr} {y : V} {o : Option V} (I : Inv X pins σ H s) (g : DGet H a y o) : s.TypeIs (.ref a) "dict" := by
  rcases g with ⟨kvs, k, e, _, _⟩ | ⟨kvs, k, b, e, _, _, _⟩
  · obtain ⟨_, _, vs, _, dd⟩ := dk_rd I.hok e
    exact dd.typeIs
  · obtain ⟨_, _, xs, _, dd⟩ := dt_rd I.hok e
    exact dd.typeIs
def tDGet (td ty : TE) : TE := fun σ H Q => td σ H fun x H1 => ty σ H1 fun y H2 => ∃ a v, x = .ref a ∧ DGet H2 a y (some v) ∧ Q v H2
def sDPut (td ty tv : TE) : TS := fun D σ H => tv σ H fun v H1 => td σ H1 fun x H2 => ty σ H2 fun y H3 => ∃ a H4, x = .ref a ∧ DPut H3 a y v H4 ∧ D.nx σ H4
section
variable {X : Cx} {o i e value : Expr} {pos pos' tpos : Pos} {td ty tv : TE}
theorem pe_dget (hu : X.A.units + 1 < cLine) (ho : PE X o td) (hi : PE X i ty) (hs : NoSl i) : PE X (.Subscript o i pos) (tDGet td ty) := by
  intro pins s σ H Q I h
  refine subD_of PySem.F.slot_dict_getitem.lookup hs (thn (ho pins s σ H _ I h) fun u s1 ⟨x, H1, I1, rx, q1⟩ => thn (hi pins s1 σ H1 _ I1 q1) fun iv s2 ⟨y, H2, I2, ry, a, v, ex, g, q2⟩ => ?_)
  subst ex
  obtain rfl : u = Value.ref a := rx
  exact ⟨dict_typeIs I2 g, d_getItem hu I2 g ry fun w' s3 I3 rw' => ⟨v, H2, I3, rw', q2⟩⟩
theorem ps_dput (hu : X.A.units + 1 < cLine) (ho : PE X o td) (hi : PE X i ty) (hv : PE X value tv) (hs : swapsWith value (some (.Subscript o i pos')) pos.line X.env = pure false) :
    PS X (.Assign [.Subscript o i pos'] value pos) (sDPut td ty tv) := by
  intro pins s σ H D I h
  refine wpAny_Assign_Subscript (thn (hv pins s σ H _ I h) fun r s1 ⟨v, H1, I1, rv, q1⟩ => thn (ho pins s1 σ H1 _ I1 q1) fun u s2 ⟨x, H2, I2, rx, q2⟩ => thn (hi pins s2 σ H2 _ I2 q2) fun iv s3 ⟨y, H3, I3, ry, a, H4, ex, g, q3⟩ => ?_) hs
  subst ex
  obtain rfl : u = Value.ref a := rx
  exact d_setItem hu I3 g ry rv fun s4 I4 => ⟨σ, H4, I4, q3⟩
end
theorem dk_empty {P : Program} {w : World} {H : Hp} (h : Heap) (hb : sysModules < h.objs.size) : ObjOk P w H (h.push { cls := .type "dict", data := .dict #[] }) h.objs.size (.dK []) :=
  ⟨Nat.zero_le _, beq_eq_false_iff_ne.mpr (Ne.symm (Nat.ne_of_lt hb)), [], .nil, Heap.DictOf.new h⟩
theorem dt_empty {P : Program} {w : World} {H : Hp} (h : Heap) (hb : sysModules < h.objs.size) : ObjOk P w H (h.push { cls := .type "dict", data := .dict #[] }) h.objs.size (.dT []) :=
  ⟨Nat.zero_le _, beq_eq_false_iff_ne.mpr (Ne.symm (Nat.ne_of_lt hb)), [], .nil, _, #[], 0, Heap.get?_push_size _ rfl, ⟨rfl, rfl, rfl⟩, rfl, rfl, List.nodup_nil⟩
section
variable {X : Cx} {pos : Pos}
end
def tPairs : List (TE × TE) → St → Hp → (List (V × V) → Hp → Prop) → Prop
  | [], _, H, Q => Q [] H
  | (tk, tv) :: r, σ, H, Q => tk σ H fun x H1 => tv σ H1 fun y H2 => tPairs r σ H2 fun ps H3 => Q ((x, y) :: ps) H3
abbrev VV : List (V × V) → List (Value × Value) → Prop := Paired fun p q => RelV p.1 q.1 ∧ RelV p.2 q.2
def PPs (X : Cx) (pos : Pos) (keys : List (Option Expr)) (values : List Expr) (trs : List (TE × TE)) : Prop :=
  ∀ (pins : List (Addr × Obj)) (s : Shared) (σ : St) (H : Hp) (Q : List (V × V) → Hp → Prop), Inv X pins σ H s → tPairs trs σ H Q →
    wpAny (model X.prog X.w) X.A (evalPairs (pairTrees keys values X.env pos)) (fun vs s' => ∃ ps H', Inv X pins σ H' s' ∧ VV ps vs ∧ Q ps H') X.xe s
theorem pps_nil {X : Cx} {pos : Pos} : PPs X pos [] [] [] := fun pins s σ H Q I h => pairTrees_nil_walk ⟨[], H, I, .nil, h⟩
theorem pps_cons {X : Cx} {pos : Pos} {k v : Expr} {ks : List (Option Expr)} {vs : List Expr} {tk tv : TE} {trs : List (TE × TE)} (hk : PE X k tk) (hv : PE X v tv) (hr : PPs X pos ks vs trs) :
    PPs X pos (some k :: ks) (v :: vs) ((tk, tv) :: trs) := fun pins s σ H Q I h =>
  pairTrees_cons_walk (thn (hk pins s σ H _ I h) fun u s1 ⟨x, H1, I1, rx, q1⟩ => thn (hv pins s1 σ H1 _ I1 q1) fun w2 s2 ⟨y, H2, I2, ry, q2⟩ =>
    thn (hr pins s2 σ H2 _ I2 q2) fun ws s3 ⟨ps, H3, I3, rel, q3⟩ => ⟨(x, y) :: ps, H3, I3, .cons ⟨rx, ry⟩ rel, q3⟩)
def mergeK (kvs more : List (Key × V)) : List (Key × V) := more.foldl (fun acc kv => putK acc kv.1 kv.2) kvs
theorem KV.merge : ∀ {more : List (Key × V)} {rs : List (Key × Value)} {kvs : List (Key × V)} {vs : List (Key × Value)}, KV more rs → KV kvs vs → KV (mergeK kvs more) (merged vs rs) := by
  intro more rs kvs vs r
  unfold KV at r
  induction r generalizing kvs vs with
  | nil => intro q; exact q
  | @cons p q ps qs h t ih =>
    intro r0
    have e : KV (putK kvs p.1 p.2) (stored vs q.1 q.2) := by
      have := r0.put p.1 h.2
      rw [← h.1]; exact this
    exact ih e
theorem length_mergeK : ∀ (more kvs : List (Key × V)), (mergeK kvs more).length ≤ kvs.length + more.length
  | [], kvs => by show kvs.length ≤ kvs.length + 0; omega
  | p :: r, kvs => by
    have h1 := length_mergeK r (putK kvs p.1 p.2)
    have h2 := length_putK kvs p.1 p.2
    show (mergeK (putK kvs p.1 p.2) r).length ≤ _
    rw [List.length_cons]; omega
theorem carries_of {P : Program} {w : World} : ∀ {kvs : List (Key × V)} {ws : List (Value × Value)}, VV (kvs.map fun kv => (kV kv.1, kv.2)) ws → ∃ rs, Carries (mixKind P w) ws rs ∧ KV kvs rs
  | [], _, r => by rw [List.map_nil] at r; cases r; exact ⟨[], True.intro, .nil⟩
  | p :: kvs, _, r => by
    rw [List.map_cons] at r
    cases r with
    | @cons a b as bs h t =>
      obtain ⟨rs, c, q⟩ := carries_of (P := P) (w := w) t
      obtain ⟨b1, b2⟩ := b
      exact ⟨(p.1, b2) :: rs, ⟨kV_is h.1, rfl, c⟩, .cons ⟨rfl, h.2⟩ q⟩
structure M1 (X : Cx) (o : Expr) (m : Str) (apos : Pos) (e : Expr) (cpos : Pos) : Prop where
  base : attributeBase o m X.env (eval o X.env) = eval o X.env
  few : ((backTo cpos (starEach [e] X.env)).all (fun x => !x.1) && (backToKw cpos (keywordEach [] X.env)).all (fun x => x.1.isSome)
    && decide (([e] : List Expr).length + ([] : List Keyword).length + (if ([] : List Keyword).isEmpty then 0 else 1) < 30)) = true
  line : (apos.endLine == cpos.line) = true
  trees : backTo cpos (starEach [e] X.env) = [(false, eval e X.env)]
structure M2 (X : Cx) (o : Expr) (m : Str) (apos : Pos) (e f : Expr) (cpos : Pos) : Prop where
  base : attributeBase o m X.env (eval o X.env) = eval o X.env
  few : ((backTo cpos (starEach [e, f] X.env)).all (fun x => !x.1) && (backToKw cpos (keywordEach [] X.env)).all (fun x => x.1.isSome)
    && decide (([e, f] : List Expr).length + ([] : List Keyword).length + (if ([] : List Keyword).isEmpty then 0 else 1) < 30)) = true
  line : (apos.endLine == cpos.line) = true
  trees : backTo cpos (starEach [e, f] X.env) = [(false, eval e X.env), (false, eval f X.env)]
def IsD (H : Hp) (a : Addr) : Prop := (∃ kvs, Rd H a (.dK kvs)) ∨ ∃ kvs, Rd H a (.dT kvs)
theorem isD_at {X : Cx} {pins : List (Addr × Obj)} {σ : St} {H : Hp} {s : Shared} {a : Addr} (I : Inv X pins σ H s) (d : IsD H a) :
    s.TypeIs (.ref a) "dict" ∧ (∀ b, Value.ref a = .ref b → ∃ ob, s.heap.get? b = some ob ∧ ob.dict = none) ∧ (a == sysModules) = false := by
  rcases d with ⟨kvs, e⟩ | ⟨kvs, e⟩
  · obtain ⟨_, hd, vs, _, dd⟩ := dk_rd I.hok e
    refine ⟨dd.typeIs, fun b q => ?_, hd⟩
    cases q
    obtain ⟨ob, _, _, h1, h2, _⟩ := dd
    exact ⟨ob, h1, h2.2.1⟩
  · obtain ⟨_, hd, xs, _, dd⟩ := dt_rd I.hok e
    refine ⟨dd.typeIs, fun b q => ?_, hd⟩
    cases q
    obtain ⟨ob, _, _, h1, h2, _⟩ := dd
    exact ⟨ob, h1, h2.2.1⟩
section
variable {X : Cx} {pins : List (Addr × Obj)} {σ : St} {H : Hp} {s : Shared} {a : Addr} {y d : V} {u r : Value} {o : Option V} {A : Around} {E : Value → Shared → Prop}
end
section
variable {X : Cx} {o e f : Expr} {apos cpos : Pos} {td ty tx : TE}
end
section
variable {X : Cx} {pins : List (Addr × Obj)} {σ : St} {H : Hp} {s : Shared} {a : Addr} {kvs : List (Key × V)} {A : Around} {E : Value → Shared → Prop}
end
section
variable {X : Cx} {pins : List (Addr × Obj)} {σ : St} {H : Hp} {s : Shared} {a : Addr} {y : V} {u : Value} {A : Around} {E : Value → Shared → Prop}
end
end L2
set_option Elab.async false
set_option linter.all false
set_option maxRecDepth 100000
set_option maxHeartbeats 4000000
namespace DL
open PySem PySem.Spec PyProof.Rows L2
inductive D where
  | dat (p : PyData)
  | cel (a : Addr)
inductive Cel where
  | l (xs : List PyData)
  | d (kvs : List (Key × PyData))
  | t (kvs : List (List Key × PyData))
  | dl (kas : List (Key × Addr))
  | fd (kvs : List (Key × PyData))
  | ft (kvs : List (List Key × PyData))
  | n (kvs : List (List PyData × D))
  | g (kvs : List (Key × D))
  | o (N : Str) (fs : List (Str × D))
@[simp] def isF : Option Cel → Bool
  | some (.fd _) => true
  | some (.ft _) => true
  | _ => false
abbrev Mu := Addr → Option Cel
abbrev St2 := List (Option D)
@[simp] def keyPy : Key → PyData
  | .inl i => .int i
  | .inr z => .str z
def mkU : PyData := .int (2 ^ 1930)
theorem mkU_show : mkU.showable = false := by
  show decide ((((2 : Int) ^ 1930).natAbs).log2 < 1920) = false
  rw [Int.natAbs_pow, show (2 : Int).natAbs = 2 from rfl, Nat.log2_two_pow]
  decide
def Ents (K : PySem.W.Frag) : HO → List (PyData × V) → Prop
  | .dK ws, vs => vs = ws.map fun kv => (keyPy kv.1, kv.2)
  | .dT ws, vs => vs = ws.map fun kv => (.tuple (kv.1.map keyPy), kv.2)
  | .dN K' ws, vs => K' = K ∧ vs = ws.map fun kv => (.tuple kv.1, kv.2)
  | _, _ => False
mutual
def RP (K : PySem.W.Frag) (Z : Addr → Prop) (m : Mu) (H : Hp) : PyData → V → Prop
  | .none, v => v = .non
  | .bool b, v => v = .bl b
  | .int i, v => v = .int i
  | .str x, v => v = .str x
  | .tuple xs, v => ∃ a vs, v = .ref a ∧ SqT K H a vs ∧ RPs K Z m H xs vs
  | .list xs, v => ∃ a vs, v = .ref a ∧ (m a = none ∧ ¬ Z a) ∧ SqL K H a vs ∧ RPs K Z m H xs vs
  | .dict kvs, v => ∃ a o u vs, v = .ref a ∧ H a = some (.frz o u) ∧ Ents K u vs ∧ RPd K Z m H kvs ((mkU, .non) :: vs)
def RPd (K : PySem.W.Frag) (Z : Addr → Prop) (m : Mu) (H : Hp) : List (PyData × PyData) → List (PyData × V) → Prop
  | [], vs => vs = []
  | (k, p) :: xs, vs => ∃ v r, vs = (k, v) :: r ∧ RP K Z m H p v ∧ RPd K Z m H xs r
def RPs (K : PySem.W.Frag) (Z : Addr → Prop) (m : Mu) (H : Hp) : List PyData → List V → Prop
  | [], vs => vs = []
  | x :: xs, vs => ∃ v r, vs = v :: r ∧ RP K Z m H x v ∧ RPs K Z m H xs r
end
def RD (K : PySem.W.Frag) (Z : Addr → Prop) (m : Mu) (H : Hp) : D → V → Prop
  | .dat p, v => RP K Z m H p v
  | .cel a, v => v = .ref a ∧ (m a).isSome = true
def RDs (K : PySem.W.Frag) (Z : Addr → Prop) (m : Mu) (H : Hp) : List D → List V → Prop
  | [], vs => vs = []
  | x :: xs, vs => ∃ v r, vs = v :: r ∧ RD K Z m H x v ∧ RDs K Z m H xs r
def RKV {κ : Type} (K : PySem.W.Frag) (Z : Addr → Prop) (m : Mu) (H : Hp) : List (κ × PyData) → List (κ × V) → Prop
  | [], vs => vs = []
  | (k, p) :: xs, vs => ∃ v r, vs = (k, v) :: r ∧ RP K Z m H p v ∧ RKV K Z m H xs r
def RW (K : PySem.W.Frag) (Z : Addr → Prop) (m : Mu) (H : Hp) : D → V → Prop
  | .dat p, v => RP K Z m H p v
  | .cel a, v => v = .ref a
def RKW {κ : Type} (K : PySem.W.Frag) (Z : Addr → Prop) (m : Mu) (H : Hp) : List (κ × D) → List (κ × V) → Prop
  | [], vs => vs = []
  | (k, p) :: xs, vs => ∃ v r, vs = (k, v) :: r ∧ RW K Z m H p v ∧ RKW K Z m H xs r
def RC (K : PySem.W.Frag) (Z : Addr → Prop) (m : Mu) (H : Hp) : Cel → HO → Prop
  | .l xs, .lst vs => RPs K Z m H xs vs
  | .d kvs, .dK vs => RKV K Z m H kvs vs
  | .t kvs, .dT vs => RKV K Z m H kvs vs
  | .dl kas, .dK vs => vs = kas.map fun x => (x.1, V.ref x.2)
  | .fd kvs, .frz _ (.dK vs) => RKV K Z m H kvs vs
  | .ft kvs, .frz _ (.dT vs) => RKV K Z m H kvs vs
  | .n kvs, .dN K' vs => K' = K ∧ RKW K Z m H kvs vs
  | .g kvs, .dK vs => RKW K Z m H kvs vs
  | .o N fs, .ins C _ vs => PySem.W.nsIn K mainGlobals N = some (some (.ref C)) ∧ RKW K Z m H fs vs
  | _, _ => False
structure Ok (K : PySem.W.Frag) (Z : Addr → Prop) (m : Mu) (H : Hp) : Prop where
  g : ∀ a c, m a = some c → ∃ o, H a = some o ∧ RC K Z m H c o
  z : ∀ a, Z a → m a = none ∧ H a ≠ none
structure Ext (K : PySem.W.Frag) (Z : Addr → Prop) (m : Mu) (H : Hp) (m' : Mu) (H' : Hp) : Prop where
  t : ∀ a vs, SqT K H a vs → SqT K H' a vs
  l : ∀ a vs, (m a = none ∧ ¬ Z a) → SqL K H a vs → m' a = none ∧ SqL K H' a vs
  z : ∀ a, Z a → H' a = H a
  c : ∀ a, (m a).isSome = true → (m' a).isSome = true
  fz : ∀ a o u, H a = some (.frz o u) → H' a = some (.frz o u)
  fm : ∀ a, isF (m a) = true → m' a = m a
section
variable {K : PySem.W.Frag} {Z : Addr → Prop} {m m' m2 : Mu} {H H' H2 : Hp}
theorem Ext.refl : Ext K Z m H m H := ⟨fun _ _ h => h, fun _ _ h1 h2 => ⟨h1.1, h2⟩, fun _ _ => rfl, fun _ h => h, fun _ _ _ h => h, fun _ _ => rfl⟩
theorem Ext.trans (a : Ext K Z m H m' H') (b : Ext K Z m' H' m2 H2) : Ext K Z m H m2 H2 :=
  ⟨fun x vs h => b.t x vs (a.t x vs h), fun x vs h1 h2 => let ⟨q1, q2⟩ := a.l x vs h1 h2; b.l x vs ⟨q1, h1.2⟩ q2, fun x h => (b.z x h).trans (a.z x h), fun x h => b.c x (a.c x h), fun x o u h => b.fz x o u (a.fz x o u h), fun x h => by
    have q := a.fm x h
    rw [b.fm x (by rw [q]; exact h), q]⟩
mutual
theorem RP.ext (e : Ext K Z m H m' H') : ∀ (p : PyData) (v : V), RP K Z m H p v → RP K Z m' H' p v
  | .none, v, h => by simpa only [RP] using h
  | .bool _, v, h => by simpa only [RP] using h
  | .int _, v, h => by simpa only [RP] using h
  | .str _, v, h => by simpa only [RP] using h
  | .tuple xs, v, h => by
    simp only [RP] at h ⊢
    obtain ⟨a, vs, h1, h2, h3⟩ := h
    exact ⟨a, vs, h1, e.t a vs h2, RPs.ext e xs vs h3⟩
  | .list xs, v, h => by
    simp only [RP] at h ⊢
    obtain ⟨a, vs, h1, h2, h3, h4⟩ := h
    obtain ⟨q1, q2⟩ := e.l a vs h2 h3
    exact ⟨a, vs, h1, ⟨q1, h2.2⟩, q2, RPs.ext e xs vs h4⟩
  | .dict kvs, v, h => by
    simp only [RP] at h ⊢
    obtain ⟨a, o, u, vs, h1, h2, h3, h4⟩ := h
    exact ⟨a, o, u, vs, h1, e.fz a o u h2, h3, RPd.ext e kvs _ h4⟩
theorem RPd.ext (e : Ext K Z m H m' H') : ∀ (xs : List (PyData × PyData)) (vs : List (PyData × V)), RPd K Z m H xs vs → RPd K Z m' H' xs vs
  | [], vs, h => by simpa only [RPd] using h
  | (k, p) :: xs, vs, h => by
    simp only [RPd] at h ⊢
    obtain ⟨v, r, h1, h2, h3⟩ := h
    exact ⟨v, r, h1, RP.ext e p v h2, RPd.ext e xs r h3⟩
theorem RPs.ext (e : Ext K Z m H m' H') : ∀ (xs : List PyData) (vs : List V), RPs K Z m H xs vs → RPs K Z m' H' xs vs
  | [], vs, h => by simpa only [RPs] using h
  | x :: xs, vs, h => by
    simp only [RPs] at h ⊢
    obtain ⟨v, r, h1, h2, h3⟩ := h
    exact ⟨v, r, h1, RP.ext e x v h2, RPs.ext e xs r h3⟩
end
theorem RD.ext (e : Ext K Z m H m' H') {d : D} {v : V} (h : RD K Z m H d v) : RD K Z m' H' d v := by
  cases d with
  | dat p => exact RP.ext e p v h
  | cel a => exact ⟨h.1, e.c a h.2⟩
theorem RDs.ext (e : Ext K Z m H m' H') : ∀ {xs : List D} {vs : List V}, RDs K Z m H xs vs → RDs K Z m' H' xs vs
  | [], _, h => h
  | _ :: _, _, ⟨v, r, h1, h2, h3⟩ => ⟨v, r, h1, h2.ext e, RDs.ext e h3⟩
theorem RKV.lift {κ : Type} {Z' : Addr → Prop} (tr : ∀ p v, RP K Z m H p v → RP K Z' m' H' p v) : ∀ {xs : List (κ × PyData)} {vs : List (κ × V)}, RKV K Z m H xs vs → RKV K Z' m' H' xs vs
  | [], _, h => h
  | _ :: _, _, ⟨v, r, h1, h2, h3⟩ => ⟨v, r, h1, tr _ _ h2, RKV.lift tr h3⟩
theorem RKW.lift {κ : Type} {Z' : Addr → Prop} (tr : ∀ p v, RP K Z m H p v → RP K Z' m' H' p v) : ∀ {xs : List (κ × D)} {vs : List (κ × V)}, RKW K Z m H xs vs → RKW K Z' m' H' xs vs
  | [], _, h => h
  | (_, .dat _) :: _, _, ⟨v, r, h1, h2, h3⟩ => ⟨v, r, h1, tr _ _ h2, RKW.lift tr h3⟩
  | (_, .cel _) :: _, _, ⟨v, r, h1, h2, h3⟩ => ⟨v, r, h1, h2, RKW.lift tr h3⟩
theorem RPs.lift {Z' : Addr → Prop} (tr : ∀ p v, RP K Z m H p v → RP K Z' m' H' p v) : ∀ {ps : List PyData} {vs : List V}, RPs K Z m H ps vs → RPs K Z' m' H' ps vs
  | [], _, h => by simpa only [RPs] using h
  | _ :: _, _, h => by
    simp only [RPs] at h ⊢
    obtain ⟨v, r, h1, h2, h3⟩ := h
    exact ⟨v, r, h1, tr _ _ h2, RPs.lift tr h3⟩
theorem RC.lift {Z' : Addr → Prop} {c : Cel} {o : HO} (tr : ∀ p v, RP K Z m H p v → RP K Z' m' H' p v) (h : RC K Z m H c o) : RC K Z' m' H' c o := by
  cases c <;> cases o <;> first | exact RPs.lift tr h | exact RKV.lift tr h | exact RKW.lift tr h | exact ⟨h.1, RKW.lift tr h.2⟩ | exact h | (rename_i ob u; cases u <;> first | exact RKV.lift tr h | exact h)
theorem RC.ext {c : Cel} {o : HO} (e : Ext K Z m H m' H') (h : RC K Z m H c o) : RC K Z m' H' c o := h.lift fun p v q => RP.ext e p v q
theorem RC.mut {c : Cel} {o : HO} (h : RC K Z m H c o) (nf : isF (some c) = false) : (∀ xs, o ≠ .tup xs) ∧ (∀ a b, o ≠ .frz a b) := by
  cases c with
  | fd _ => cases nf
  | ft _ => cases nf
  | dl _ => cases o <;> first | exact h.elim | exact ⟨fun _ e => (nomatch e), fun _ _ e => (nomatch e)⟩
  | l _ => cases o <;> first | exact h.elim | exact ⟨fun _ e => (nomatch e), fun _ _ e => (nomatch e)⟩
  | d _ => cases o <;> first | exact h.elim | exact ⟨fun _ e => (nomatch e), fun _ _ e => (nomatch e)⟩
  | n _ => cases o <;> first | exact h.elim | exact ⟨fun _ e => (nomatch e), fun _ _ e => (nomatch e)⟩
  | g _ => cases o <;> first | exact h.elim | exact ⟨fun _ e => (nomatch e), fun _ _ e => (nomatch e)⟩
  | o _ _ => cases o <;> first | exact h.elim | exact ⟨fun _ e => (nomatch e), fun _ _ e => (nomatch e)⟩
  | t _ => cases o <;> first | exact h.elim | exact ⟨fun _ e => (nomatch e), fun _ _ e => (nomatch e)⟩
theorem Ok.l {a : Addr} {xs : List PyData} (ok : Ok K Z m H) (h : m a = some (.l xs)) : ∃ vs, H a = some (.lst vs) ∧ RPs K Z m H xs vs := by
  obtain ⟨o, h1, h2⟩ := ok.g a _ h
  cases o <;> first | exact ⟨_, h1, h2⟩ | exact h2.elim
theorem Ok.d {a : Addr} {xs : List (Key × PyData)} (ok : Ok K Z m H) (h : m a = some (.d xs)) : ∃ vs, H a = some (.dK vs) ∧ RKV K Z m H xs vs := by
  obtain ⟨o, h1, h2⟩ := ok.g a _ h
  cases o <;> first | exact ⟨_, h1, h2⟩ | exact h2.elim
theorem Ok.t {a : Addr} {xs : List (List Key × PyData)} (ok : Ok K Z m H) (h : m a = some (.t xs)) : ∃ vs, H a = some (.dT vs) ∧ RKV K Z m H xs vs := by
  obtain ⟨o, h1, h2⟩ := ok.g a _ h
  cases o <;> first | exact ⟨_, h1, h2⟩ | exact h2.elim
theorem RPs.length : ∀ {xs : List PyData} {vs : List V}, RPs K Z m H xs vs → vs.length = xs.length
  | [], _, h => by simp only [RPs] at h; subst h; rfl
  | _ :: xs, _, h => by
    simp only [RPs] at h
    obtain ⟨v, r, h1, _, h3⟩ := h
    subst h1
    rw [List.length_cons, List.length_cons, RPs.length h3]
theorem RDs.length : ∀ {xs : List D} {vs : List V}, RDs K Z m H xs vs → vs.length = xs.length
  | [], _, h => by cases (show _ = [] from h); rfl
  | _ :: xs, _, ⟨v, r, h1, _, h3⟩ => by
    subst h1
    rw [List.length_cons, List.length_cons, RDs.length h3]
theorem RPs.get : ∀ {xs : List PyData} {vs : List V} {i : Nat} {p : PyData}, RPs K Z m H xs vs → xs[i]? = some p → ∃ v, vs[i]? = some v ∧ RP K Z m H p v
  | [], _, _, _, _, e => by simp at e
  | x :: xs, _, 0, p, h, e => by
    simp only [RPs] at h
    obtain ⟨v, r, h1, h2, _⟩ := h
    simp at e
    subst h1 e
    exact ⟨v, rfl, h2⟩
  | x :: xs, _, i + 1, p, h, e => by
    simp only [RPs] at h
    obtain ⟨v, r, h1, _, h3⟩ := h
    obtain ⟨u, q1, q2⟩ := RPs.get (i := i) (p := p) h3 (by simpa using e)
    subst h1
    exact ⟨u, by simpa using q1, q2⟩
theorem RPs.set : ∀ {xs : List PyData} {vs : List V} {i : Nat} {p : PyData} {v : V}, RPs K Z m H xs vs → RP K Z m H p v → RPs K Z m H (xs.set i p) (vs.set i v)
  | [], _, _, _, _, h, _ => by simp only [RPs] at h; subst h; simp [RPs]
  | x :: xs, _, 0, p, v, h, q => by
    simp only [RPs] at h
    obtain ⟨w, r, h1, _, h3⟩ := h
    subst h1
    simp only [List.set_cons_zero, RPs]
    exact ⟨v, r, rfl, q, h3⟩
  | x :: xs, _, i + 1, p, v, h, q => by
    simp only [RPs] at h
    obtain ⟨w, r, h1, h2, h3⟩ := h
    subst h1
    simp only [List.set_cons_succ, RPs]
    exact ⟨w, _, rfl, h2, RPs.set h3 q⟩
theorem RPs.append : ∀ {xs ys : List PyData} {vs ws : List V}, RPs K Z m H xs vs → RPs K Z m H ys ws → RPs K Z m H (xs ++ ys) (vs ++ ws)
  | [], _, _, _, h, q => by simp only [RPs] at h; subst h; simpa using q
  | x :: xs, _, _, _, h, q => by
    simp only [RPs] at h
    obtain ⟨w, r, h1, h2, h3⟩ := h
    subst h1
    simp only [List.cons_append, RPs]
    exact ⟨w, _, rfl, h2, RPs.append h3 q⟩
theorem RPs.drop : ∀ {xs : List PyData} {vs : List V} (n : Nat), RPs K Z m H xs vs → RPs K Z m H (xs.drop n) (vs.drop n)
  | _, _, 0, h => by simpa using h
  | [], _, n + 1, h => by simp only [RPs] at h; subst h; simp [RPs]
  | x :: xs, _, n + 1, h => by
    simp only [RPs] at h
    obtain ⟨w, r, h1, h2, h3⟩ := h
    subst h1
    simpa using RPs.drop n h3
theorem RPs.take : ∀ {xs : List PyData} {vs : List V} (n : Nat), RPs K Z m H xs vs → RPs K Z m H (xs.take n) (vs.take n)
  | _, _, 0, h => by simp [RPs]
  | [], _, n + 1, h => by simp only [RPs] at h; subst h; simp [RPs]
  | x :: xs, _, n + 1, h => by
    simp only [RPs] at h
    obtain ⟨w, r, h1, h2, h3⟩ := h
    subst h1
    simp only [List.take_succ_cons, RPs]
    exact ⟨w, _, rfl, h2, RPs.take n h3⟩
theorem RPs.reverse : ∀ {xs : List PyData} {vs : List V}, RPs K Z m H xs vs → RPs K Z m H xs.reverse vs.reverse
  | [], _, h => by simp only [RPs] at h; subst h; simp [RPs]
  | x :: xs, _, h => by
    simp only [RPs] at h
    obtain ⟨w, r, h1, h2, h3⟩ := h
    subst h1
    rw [List.reverse_cons, List.reverse_cons]
    exact (RPs.reverse h3).append (by simp only [RPs]; exact ⟨w, [], rfl, h2, rfl⟩)
@[simp] def pds : List D → Option (List PyData)
  | [] => some []
  | .dat p :: r => (pds r).map (p :: ·)
  | .cel _ :: _ => none
theorem RDs.pds : ∀ {xs : List D} {vs : List V} {ps : List PyData}, RDs K Z m H xs vs → DL.pds xs = some ps → RPs K Z m H ps vs
  | [], vs, ps, h, e => by
    cases (show vs = [] from h)
    cases (show some [] = some ps from e)
    simp [RPs]
  | .dat p :: r, vs, ps, ⟨v, w, h1, h2, h3⟩, e => by
    simp only [DL.pds] at e
    cases q : DL.pds r with
    | none => rw [q] at e; cases e
    | some qs =>
      rw [q] at e
      cases e
      simp only [RPs]
      exact ⟨v, w, h1, h2, RDs.pds h3 q⟩
  | .cel a :: r, _, _, _, e => by simp only [DL.pds] at e; cases e
theorem SqT.same {a : Addr} {xs : List V} (e : Same H H') (h : SqT K H a xs) : SqT K H' a xs := by
  rcases h with (h | ⟨o, h⟩) | h
  · exact .inl (.inl (e _ _ h))
  · exact .inl (.inr ⟨o, e _ _ h⟩)
  · exact .inr h
theorem Ext.grow (s : Same H H') (hz : ∀ a, Z a → H a ≠ none) : Ext K Z m H m H' := ⟨fun _ _ h => SqT.same s h, fun _ _ h1 h2 => ⟨h1.1, s.seq h2⟩, fun a h => by
  cases q : H a with
  | none => exact absurd q (hz a h)
  | some o => exact s a o q, fun _ h => h, fun a o u h => s _ _ h, fun _ _ => rfl⟩
theorem Ok.grow (s : Same H H') (ok : Ok K Z m H) : Ok K Z m H' := by
  have e : Ext K Z m H m H' := Ext.grow s fun a h => (ok.z a h).2
  refine ⟨fun a c h => ?_, fun a h => ⟨(ok.z a h).1, by rw [e.z a h]; exact (ok.z a h).2⟩⟩
  obtain ⟨o, h1, h2⟩ := ok.g a c h
  exact ⟨o, s _ _ h1, h2.ext e⟩
theorem Ok.ext (s : Same H H') (ok : Ok K Z m H) : Ext K Z m H m H' := Ext.grow s fun a h => (ok.z a h).2
theorem same_new {p : Addr} {o : HO} (h : H p = none) : Same H (upd H p o) := fun b u q => by rw [upd_ne (ne_of_none q h)]; exact q
def updM (m : Mu) (a : Addr) (c : Cel) : Mu := fun b => if b = a then some c else m b
theorem updM_same {a : Addr} {c : Cel} : updM m a c a = some c := by unfold updM; rw [if_pos rfl]
theorem updM_ne {a b : Addr} {c : Cel} (h : b ≠ a) : updM m a c b = m b := by unfold updM; rw [if_neg h]
theorem SqL.ne {p a : Addr} {xs : List V} (hp : H p = none) (hk : K.lookup p = none) (h : SqL K H a xs) : a ≠ p := by
  rintro rfl
  rcases h with (h | ⟨o, h⟩) | ⟨o, _, _, h, _⟩
  · rw [hp] at h; cases h
  · rw [hp] at h; cases h
  · rw [hk] at h; cases h
theorem Ext.cell {p : Addr} {o : HO} {c : Cel} (ok : Ok K Z m H) (hp : H p = none) (hk : K.lookup p = none) : Ext K Z m H (updM m p c) (upd H p o) := by
  refine ⟨fun _ _ h => SqT.same (same_new hp) h, fun a xs h1 h2 => ?_, fun a h => ?_, fun a h => ?_, fun a o u h => same_new hp _ _ h, fun a h => ?_⟩
  · have ne := SqL.ne hp hk h2
    exact ⟨by rw [updM_ne ne]; exact h1.1, (same_new hp).seq h2⟩
  · have ne : a ≠ p := fun e => (ok.z a h).2 (by rw [e]; exact hp)
    exact upd_ne ne
  · by_cases e : a = p
    · subst e; rw [updM_same]; rfl
    · rw [updM_ne e]; exact h
  · have ne : a ≠ p := by
      rintro rfl
      cases q : m a with
      | none => rw [q] at h; cases h
      | some x =>
        obtain ⟨w, h1, _⟩ := ok.g a x q
        rw [hp] at h1
        cases h1
    exact updM_ne ne
theorem Ok.updC {p : Addr} {o : HO} {c : Cel} (ok : Ok K Z m H) (hz : ¬ Z p) (e : Ext K Z m H (updM m p c) (upd H p o)) (r : RC K Z m H c o) : Ok K Z (updM m p c) (upd H p o) := by
  refine ⟨fun a x h => ?_, fun a h => ?_⟩
  · by_cases q : a = p
    · subst q
      rw [updM_same] at h
      cases h
      exact ⟨o, upd_same, r.ext e⟩
    · rw [updM_ne q] at h
      obtain ⟨w, h1, h2⟩ := ok.g a x h
      exact ⟨w, by rw [upd_ne q]; exact h1, h2.ext e⟩
  · have ne : a ≠ p := fun e => hz (e ▸ h)
    exact ⟨by rw [updM_ne ne]; exact (ok.z a h).1, by rw [upd_ne ne]; exact (ok.z a h).2⟩
theorem Ok.cell {p : Addr} {o : HO} {c : Cel} (ok : Ok K Z m H) (hp : H p = none) (hk : K.lookup p = none) (r : RC K Z m H c o) : Ok K Z (updM m p c) (upd H p o) :=
  ok.updC (fun h => (ok.z p h).2 hp) (Ext.cell ok hp hk) r
theorem Ext.put {a : Addr} {o o0 : HO} {c c0 : Cel} (ok : Ok K Z m H) (hm : m a = some c0) (hH : H a = some o0) (nf : isF (some c0) = false := by rfl) : Ext K Z m H (updM m a c) (upd H a o) := by
  have mu : (∀ xs, o0 ≠ .tup xs) ∧ (∀ a b, o0 ≠ .frz a b) := by
    obtain ⟨w, h1, h2⟩ := ok.g a c0 hm
    rw [hH] at h1
    cases h1
    exact h2.mut nf
  refine ⟨fun b xs h => ?_, fun b xs h1 h2 => ?_, fun b h => ?_, fun b h => ?_, fun b w u h => ?_, fun b h => ?_⟩
  · rcases h with (h | ⟨w, h⟩) | h
    · have ne : b ≠ a := by rintro rfl; rw [hH] at h; cases h; exact absurd rfl (mu.1 _)
      exact .inl (.inl (by rw [upd_ne ne]; exact h))
    · have ne : b ≠ a := by rintro rfl; rw [hH] at h; cases h; exact absurd rfl (mu.2 _ _)
      exact .inl (.inr ⟨w, by rw [upd_ne ne]; exact h⟩)
    · exact .inr h
  · have ne : b ≠ a := by rintro rfl; rw [hm] at h1; cases h1.1
    refine ⟨by rw [updM_ne ne]; exact h1.1, ?_⟩
    rcases h2 with (h | ⟨w, h⟩) | h
    · exact .inl (.inl (by rw [upd_ne ne]; exact h))
    · exact .inl (.inr ⟨w, by rw [upd_ne ne]; exact h⟩)
    · exact .inr h
  · have ne : b ≠ a := by rintro rfl; have := (ok.z b h).1; rw [hm] at this; cases this
    exact upd_ne ne
  · by_cases e : b = a
    · subst e; rw [updM_same]; rfl
    · rw [updM_ne e]; exact h
  · have ne : b ≠ a := by rintro rfl; rw [hH] at h; cases h; exact absurd rfl (mu.2 _ _)
    rw [upd_ne ne]
    exact h
  · have ne : b ≠ a := by rintro rfl; rw [hm, nf] at h; cases h
    exact updM_ne ne
theorem Ok.put {a : Addr} {o o0 : HO} {c c0 : Cel} (ok : Ok K Z m H) (hm : m a = some c0) (hH : H a = some o0) (r : RC K Z m H c o) (nf : isF (some c0) = false := by rfl) : Ok K Z (updM m a c) (upd H a o) :=
  ok.updC (fun h => by have := (ok.z a h).1; rw [hm] at this; cases this) (Ext.put ok hm hH nf) r
def RS (K : PySem.W.Frag) (Z : Addr → Prop) (m : Mu) (H : Hp) (d : St2) (s : L2.St) : Prop := d.length = s.length ∧ ∀ (i : Nat) (x : D), d[i]? = some (some x) → ∃ v, s[i]? = some (some v) ∧ RD K Z m H x v
theorem RS.ext {d : St2} {s : L2.St} (r : RS K Z m H d s) (e : Ext K Z m H m' H') : RS K Z m' H' d s := ⟨r.1, fun i x h => let ⟨v, h1, h2⟩ := r.2 i x h; ⟨v, h1, h2.ext e⟩⟩
theorem RS.set {d : St2} {s : L2.St} {i : Nat} {x : D} {v : V} (r : RS K Z m H d s) (h : RD K Z m H x v) : RS K Z m H (d.set i (some x)) (s.set i (some v)) := by
  refine ⟨by rw [List.length_set, List.length_set]; exact r.1, fun j y q => ?_⟩
  by_cases e : j = i
  · subst e
    rw [List.getElem?_set] at q
    simp only [if_true] at q
    split at q
    · rename_i hl
      cases q
      refine ⟨v, ?_, h⟩
      rw [List.getElem?_set]
      simp only [if_true]
      rw [if_pos (by rw [← r.1]; exact hl)]
    · cases q
  · rw [List.getElem?_set_ne (Ne.symm e)] at q
    obtain ⟨w, h1, h2⟩ := r.2 j y q
    exact ⟨w, by rw [List.getElem?_set_ne (Ne.symm e)]; exact h1, h2⟩
end
abbrev DK := D → Mu → Prop
abbrev DE := St2 → Mu → DK → Prop
abbrev DT := St2 → Mu → (Bool → Mu → Prop) → Prop
abbrev DA := St2 → Mu → (List D → Mu → Prop) → Prop
structure Ends2 where
  nx : St2 → Mu → Prop
  rt : DK
  bk : St2 → Mu → Prop := fun _ _ => False
  ct : St2 → Mu → Prop := fun _ _ => False
abbrev DS := Ends2 → St2 → Mu → Prop
def LE (K : PySem.W.Frag) (f : DE) : TE := fun s H Q => ∃ (Z : Addr → Prop) (d : St2) (m : Mu) (R : DK), Ok K Z m H ∧ RS K Z m H d s ∧ f d m R ∧
  ∀ x m' v H', R x m' → Ext K Z m H m' H' → Ok K Z m' H' → RD K Z m' H' x v → Q v H'
def LT (K : PySem.W.Frag) (f : DT) : TT := fun s H Q => ∃ (Z : Addr → Prop) (d : St2) (m : Mu) (R : Bool → Mu → Prop), Ok K Z m H ∧ RS K Z m H d s ∧ f d m R ∧
  ∀ b m' H', R b m' → Ext K Z m H m' H' → Ok K Z m' H' → Q b H'
def LA (K : PySem.W.Frag) (f : DA) : TA := fun s H Q => ∃ (Z : Addr → Prop) (d : St2) (m : Mu) (R : List D → Mu → Prop), Ok K Z m H ∧ RS K Z m H d s ∧ f d m R ∧
  ∀ xs m' vs H', R xs m' → Ext K Z m H m' H' → Ok K Z m' H' → RDs K Z m' H' xs vs → Q vs H'
def LS (K : PySem.W.Frag) (f : DS) : TS := fun E s H => ∃ (Z : Addr → Prop) (d : St2) (m : Mu) (R : Ends2), Ok K Z m H ∧ RS K Z m H d s ∧ f R d m ∧
  (∀ d' m' s' H', R.nx d' m' → Ext K Z m H m' H' → Ok K Z m' H' → RS K Z m' H' d' s' → E.nx s' H') ∧
  (∀ x m' v H', R.rt x m' → Ext K Z m H m' H' → Ok K Z m' H' → RD K Z m' H' x v → E.rt v H') ∧
  (∀ d' m' s' H', R.bk d' m' → Ext K Z m H m' H' → Ok K Z m' H' → RS K Z m' H' d' s' → E.bk s' H') ∧
  (∀ d' m' s' H', R.ct d' m' → Ext K Z m H m' H' → Ok K Z m' H' → RS K Z m' H' d' s' → E.ct s' H')
theorem PE.imp {X : Cx} {e : Expr} {t t' : TE} (h : PE X e t) (q : ∀ s H Q, t' s H Q → t s H Q) : PE X e t' := fun pins s d H Q I w => h pins s d H Q I (q _ _ _ w)
theorem PT.imp {X : Cx} {e : Expr} {t t' : TT} (h : PT X e t) (q : ∀ s H Q, t' s H Q → t s H Q) : PT X e t' := fun pins s d H Q I w => h pins s d H Q I (q _ _ _ w)
theorem PA.imp {X : Cx} {e : List Expr} {t t' : TA} (h : PA X e t) (q : ∀ s H Q, t' s H Q → t s H Q) : PA X e t' := fun pos pins s d H Q I w => h pos pins s d H Q I (q _ _ _ w)
theorem PS.imp {X : Cx} {e : Stmt} {t t' : TS} (h : PS X e t) (q : ∀ E s H, t' E s H → t E s H) : PS X e t' := fun pins s d H E I w => h pins s d H E I (q _ _ _ w)
theorem PSs.imp {X : Cx} {e : List Stmt} {t t' : TS} (h : PSs X e t) (q : ∀ E s H, t' E s H → t E s H) : PSs X e t' := fun pins s d H E I w => h pins s d H E I (q _ _ _ w)
section
variable {X : Cx} {pos : Pos}
@[simp] def dVar (i : Nat) : DE := fun d m Q => ∃ x, d[i]? = some (some x) ∧ Q x m
theorem le_var (i : Nat) {x : Str} (hN : X.N[i]? = some x := by rfl) (hv : Vis X.env.scope x := by first | exact Or.inl rfl | exact Or.inr (Or.inl rfl) | exact Or.inr (Or.inr rfl)) (hd : (x == ("__debug__" : Str)) = false := by decide)
    (hcd : (x == ("__classdict__" : Str)) = false := by decide) : PE X (.Name x pos) (LE X.K (dVar i)) :=
  PE.imp (pe_var hN hv hd hcd) fun s H Q h => by
    obtain ⟨Z, d, m, R, ok, rs, ⟨x, h1, h2⟩, k⟩ := h
    obtain ⟨v, q1, q2⟩ := rs.2 i x h1
    exact ⟨v, q1, k x m v H h2 Ext.refl ok q2⟩
@[simp] def dCon (p : PyData) : DE := fun _ m Q => Q (.dat p) m
theorem le_con {e : Expr} {p : PyData} {v : V} (h : PE X e (tC v)) (r : ∀ Z m H, RP X.K Z m H p v) : PE X e (LE X.K (dCon p)) :=
  PE.imp h fun s H Q ⟨Z, d, m, R, ok, rs, h2, k⟩ => k _ m v H h2 Ext.refl ok (r Z m H)
theorem le_int {i : Int} {j : Nat} : PE X (.Constant (.int i) j pos) (LE X.K (dCon (.int i))) := le_con pe_int fun Z m H => by simp only [RP]
theorem le_bl {b : Bool} {j : Nat} : PE X (.Constant (.bool b) j pos) (LE X.K (dCon (.bool b))) := le_con pe_bl fun Z m H => by simp only [RP]
theorem le_str {x : Str} {j : Nat} : PE X (.Constant (.str x) j pos) (LE X.K (dCon (.str x))) := le_con pe_str fun Z m H => by simp only [RP]
end
end DL
set_option Elab.async false
set_option linter.all false
set_option maxRecDepth 100000
set_option maxHeartbeats 4000000
namespace DL
open PySem PySem.Spec PyProof.Rows L2
section
variable {X : Cx} {pins : List (Addr × Obj)} {σ : L2.St} {H : Hp} {s : Shared} {Z : Addr → Prop} {m : Mu}
mutual
theorem RP.reads0 (I : Inv X pins σ H s) : ∀ (p : PyData) (v : V) (u : Value), RP X.K Z m H p v → RelV v u → p.hasDict = false → ∃ as, Reads s.heap u p as
  | .none, v, u, h, r, _ => by simp only [RP] at h; subst h; cases r; exact ⟨_, .none⟩
  | .bool b, v, u, h, r, _ => by simp only [RP] at h; subst h; cases r; exact ⟨_, .bool b⟩
  | .int i, v, u, h, r, _ => by simp only [RP] at h; subst h; obtain ⟨t, rfl⟩ := r; exact ⟨_, .int i t⟩
  | .str x, v, u, h, r, _ => by simp only [RP] at h; subst h; obtain ⟨t, rfl⟩ := r; exact ⟨_, .str x t⟩
  | .tuple xs, v, u, h, r, nd => by
    simp only [RP] at h
    obtain ⟨a, vs, rfl, h2, h3⟩ := h
    cases r
    obtain ⟨its, rv, ⟨o, e, c, n, d⟩, _⟩ := I.tuple h2
    obtain ⟨as, q⟩ := RPs.reads0 I xs vs its h3 rv nd
    exact ⟨_, .tuple e c d (by simpa using q)⟩
  | .list xs, v, u, h, r, nd => by
    simp only [RP] at h
    obtain ⟨a, vs, rfl, _, h2, h3⟩ := h
    cases r
    obtain ⟨its, rv, ⟨o, n, e, c, _, d⟩, _⟩ := I.list h2
    obtain ⟨as, q⟩ := RPs.reads0 I xs vs its h3 rv nd
    exact ⟨_, .list e c d (by simpa using q)⟩
  | .dict _, v, u, h, r, nd => nomatch nd
theorem RPs.reads0 (I : Inv X pins σ H s) : ∀ (xs : List PyData) (vs : List V) (us : List Value), RPs X.K Z m H xs vs → Vals vs us → PyData.hasDictAll xs = false → ∃ as, ReadsAll s.heap us xs as
  | [], vs, us, h, r, _ => by simp only [RPs] at h; subst h; cases r; exact ⟨_, .nil⟩
  | x :: xs, vs, us, h, r, nd => by
    simp only [PyData.hasDictAll, Bool.or_eq_false_iff] at nd
    simp only [RPs] at h
    obtain ⟨v, w, rfl, h1, h2⟩ := h
    cases r with
    | cons r1 r2 =>
      obtain ⟨as, q1⟩ := RP.reads0 I x v _ h1 r1 nd.1
      obtain ⟨bs, q2⟩ := RPs.reads0 I xs w _ h2 r2 nd.2
      exact ⟨_, .cons q1 q2⟩
end
theorem RP.reads (I : Inv X pins σ H s) (p : PyData) (v : V) (u : Value) (h : RP X.K Z m H p v) (r : RelV v u) (nd : p.hasDict = false := by first | assumption | (refine PyData.hasDict_of_canLay _ ?_; assumption)) : ∃ as, Reads s.heap u p as := RP.reads0 I p v u h r nd
mutual
theorem RP.noDict (K : PySem.W.Frag) : ∀ (p : PyData) (v : V), RP K Z m H p v → p.showable = true → p.hasDict = false
  | .none, _, _, _ => rfl
  | .bool _, _, _, _ => rfl
  | .int _, _, _, _ => rfl
  | .str _, _, _, _ => rfl
  | .tuple xs, v, h, sh => by
    simp only [RP] at h
    obtain ⟨_, vs, _, _, h⟩ := h
    simp only [PyData.hasDict]
    exact RPs.noDict K xs vs h sh
  | .list xs, v, h, sh => by
    simp only [RP] at h
    obtain ⟨_, vs, _, _, _, h⟩ := h
    simp only [PyData.hasDict]
    exact RPs.noDict K xs vs h sh
  | .dict kvs, v, h, sh => by
    simp only [RP] at h
    obtain ⟨a, o, u, vs, _, _, _, h⟩ := h
    cases kvs with
    | nil => simp [RPd] at h
    | cons x r =>
      obtain ⟨k, p⟩ := x
      simp only [RPd] at h
      obtain ⟨v, r', h1, _⟩ := h
      cases h1
      simp only [PyData.showable, PyData.showableKv, mkU_show, Bool.false_and] at sh
      cases sh
theorem RPs.noDict (K : PySem.W.Frag) : ∀ (xs : List PyData) (vs : List V), RPs K Z m H xs vs → PyData.showableAll xs = true → PyData.hasDictAll xs = false
  | [], _, _, _ => rfl
  | x :: xs, vs, h, sh => by
    simp only [PyData.showableAll, Bool.and_eq_true] at sh
    simp only [RPs] at h
    obtain ⟨v, w, rfl, h1, h2⟩ := h
    simp only [PyData.hasDictAll, RP.noDict K x v h1 sh.1, RPs.noDict K xs w h2 sh.2, Bool.or_self]
end
end
abbrev D2 := D → D → Mu → DK → Prop
def OpD (X : Cx) (op : Value → Value → Sem Value) (r : D2) : Prop :=
  ∀ (pins : List (Addr × Obj)) (s : Shared) (σ : L2.St) (H : Hp) (Z : Addr → Prop) (m : Mu) (x y : V) (dx dy : D) (v u : Value) (R : DK) (Q : VK), Inv X pins σ H s → Ok X.K Z m H → RelV x v → RelV y u → RD X.K Z m H dx x → RD X.K Z m H dy y → r dx dy m R →
    (∀ d m' v' H', R d m' → Ext X.K Z m H m' H' → Ok X.K Z m' H' → RD X.K Z m' H' d v' → Q v' H') → wpAny (model X.prog X.w) X.A (op v u) (EP X pins σ Q) X.xe s
@[simp] def dBin (r : D2) (f g : DE) : DE := fun d m Q => f d m fun x m1 => g d m1 fun y m2 => r x y m2 Q
section
variable {X : Cx} {a b c : Expr} {f g : DE} {pos : Pos}
theorem le2 {op : Value → Value → Sem Value} {r : D2} (ho : OpD X op r) (ha : PE X a (LE X.K f)) (hb : PE X b (LE X.K g)) {pins : List (Addr × Obj)} {s : Shared} {σ : L2.St} {H : Hp} {Q : VK} (I : Inv X pins σ H s)
    (h : LE X.K (dBin r f g) σ H Q) :
    wpAny (model X.prog X.w) X.A (eval a X.env) (fun v s₁ => wpAny (model X.prog X.w) X.A (eval b X.env) (fun u s₂ => wpAny (model X.prog X.w) X.A (op v u) (EP X pins σ Q) X.xe s₂) X.xe s₁) X.xe s := by
  obtain ⟨Z, d, m, R, ok, rs, hf, k⟩ := h
  refine binT ha hb I (R := fun x y H2 => ∃ m2 dx dy, Ok X.K Z m2 H2 ∧ Ext X.K Z m H m2 H2 ∧ RD X.K Z m2 H2 dx x ∧ RD X.K Z m2 H2 dy y ∧ r dx dy m2 R) ?_ fun v u s2 x y H2 I2 rx ry ⟨m2, dx, dy, ok2, e2, r1, r2, q⟩ => ?_
  · exact ⟨Z, d, m, _, ok, rs, hf, fun x m1 v H1 q e1 ok1 r1 => ⟨Z, d, m1, _, ok1, rs.ext e1, q, fun y m2 v2 H2 q2 e2 ok2 r2 => ⟨m2, x, y, ok2, e1.trans e2, r1.ext e2, r2, q2⟩⟩⟩
  · exact ho pins s2 σ H2 Z m2 x y dx dy v u R Q I2 ok2 rx ry r1 r2 q fun d' m' v' H' h1 h2 h3 h4 => k d' m' v' H' h1 (e2.trans h2) h3 h4
theorem le_bin {op : Operator} {r : D2} (ho : OpD X (binaryOp op) r) (ha : PE X a (LE X.K f)) (hb : PE X b (LE X.K g)) : PE X (.BinOp a op b pos) (LE X.K (dBin r f g)) :=
  fun _ _ _ _ _ I h => wpAny_BinOp (le2 ho ha hb I h)
theorem le_cmp {op : CmpOp} {r : D2} (ho : OpD X (compareOp op) r) (ha : PE X a (LE X.K f)) (hb : PE X b (LE X.K g)) (hm : behindInMarks op b = false := by exact nomark _) : PE X (.Compare a [op] [b] pos) (LE X.K (dBin r f g)) :=
  fun _ _ _ _ _ I h => wpAny_Compare1 (le2 ho ha hb I h) hm
@[simp] def dTst (f : DE) : DT := fun d m Q => f d m fun x m1 => ∃ b, x = .dat (.bool b) ∧ Q b m1
theorem LT.le {K : PySem.W.Frag} {σ : L2.St} {H : Hp} {Q : Bool → Hp → Prop} (h : LT K (dTst f) σ H Q) : LE K f σ H (fun x H' => ∃ k, x = .bl k ∧ Q k H') := by
  obtain ⟨Z, d, m, R, ok, rs, hf, k⟩ := h
  refine ⟨Z, d, m, _, ok, rs, hf, fun x m' v H' ⟨b, e, q⟩ e1 ok1 rd => ⟨b, ?_, k b m' H' q e1 ok1⟩⟩
  subst e
  simpa only [RD, RP] using rd
theorem lt_cmp {op : CmpOp} {r : D2} (ho : OpD X (compareOp op) r) (ha : PE X a (LE X.K f)) (hb : PE X b (LE X.K g)) (hm : behindInMarks op b = false := by exact nomark _) : PT X (.Compare a [op] [b] pos) (LT X.K (dTst (dBin r f g))) := by
  intro pins s σ H Q I h
  refine wpAny_isTrue_Compare1 (thn (le2 ho ha hb I h.le) fun v s1 h1 => thn h1 fun u s2 h2 => thn h2 fun c s3 ⟨z, H3, I3, r3, k, e, q3⟩ => ?_) hm
  subst e
  cases r3
  exact wpAny_truthy_bool ⟨H3, I3, q3⟩
theorem lt_val (h : PE X a (LE X.K f)) (he : ∀ whole, isTrue a X.env whole = (do let v ← whole; standAt a.pos; holding [v] (truthy v)) := by intro _; rfl) : PT X a (LT X.K (dTst f)) :=
  PT.imp (pt_val h he) fun _ _ _ q => q.le
end
section
variable {X : Cx} {a b c : Expr} {rest : List Expr} {f g : DE} {t u : DT} {pos : Pos}
@[simp] def dAndT (t u : DT) : DT := fun d m Q => t d m fun k m1 => if k = true then u d m1 Q else Q false m1
@[simp] def dOrT (t u : DT) : DT := fun d m Q => t d m fun k m1 => if k = true then Q true m1 else u d m1 Q
theorem PW.imp {e : Expr} {t t' : TT} (h : PW X e t) (q : ∀ s H Q, t' s H Q → t s H Q) : PW X e t' := fun wh pins s d H Q I w => h wh pins s d H Q I (q _ _ _ w)
theorem lw_and1 (ha : PT X a (LT X.K t)) : PW X (.BoolOp .And [a] pos) (LT X.K t) := pw_and1 ha
theorem lw_or1 (ha : PT X a (LT X.K t)) : PW X (.BoolOp .Or [a] pos) (LT X.K t) := pw_or1 ha
theorem lw_and (ha : PT X a (LT X.K t)) (hb : PW X (.BoolOp .And (b :: rest) pos) (LT X.K u)) : PW X (.BoolOp .And (a :: b :: rest) pos) (LT X.K (dAndT t u)) :=
  PW.imp (pw_and ha hb) fun s H Q ⟨Z, d, m, R, ok, rs, h, k⟩ => ⟨Z, d, m, _, ok, rs, h, fun b m1 H1 q e1 ok1 => by
    cases b with
    | true => rw [if_pos rfl] at q ⊢; exact ⟨Z, d, m1, R, ok1, rs.ext e1, q, fun b' m2 H2 q2 e2 ok2 => k b' m2 H2 q2 (e1.trans e2) ok2⟩
    | false => rw [if_neg Bool.false_ne_true] at q ⊢; exact k false m1 H1 q e1 ok1⟩
theorem lw_or (ha : PT X a (LT X.K t)) (hb : PW X (.BoolOp .Or (b :: rest) pos) (LT X.K u)) : PW X (.BoolOp .Or (a :: b :: rest) pos) (LT X.K (dOrT t u)) :=
  PW.imp (pw_or ha hb) fun s H Q ⟨Z, d, m, R, ok, rs, h, k⟩ => ⟨Z, d, m, _, ok, rs, h, fun b m1 H1 q e1 ok1 => by
    cases b with
    | false => rw [if_neg Bool.false_ne_true] at q ⊢; exact ⟨Z, d, m1, R, ok1, rs.ext e1, q, fun b' m2 H2 q2 e2 ok2 => k b' m2 H2 q2 (e1.trans e2) ok2⟩
    | true => rw [if_pos rfl] at q ⊢; exact k true m1 H1 q e1 ok1⟩
@[simp] def dAnd (f g : DE) : DE := fun d m Q => f d m fun x m1 => ∃ b, x = .dat (.bool b) ∧ if b = true then g d m1 Q else Q (.dat (.bool false)) m1
theorem RD.bl {K : PySem.W.Frag} {Z : Addr → Prop} {m : Mu} {H : Hp} {b : Bool} {v : V} (h : RD K Z m H (.dat (.bool b)) v) : v = .bl b := by simpa only [RD, RP] using h
theorem RD.ofBl {K : PySem.W.Frag} {Z : Addr → Prop} {m : Mu} {H : Hp} {b : Bool} : RD K Z m H (.dat (.bool b)) (.bl b) := by simp only [RD, RP]
theorem le_one {op : BoolOp} (h : PE X a (LE X.K f)) : PE X (.BoolOp op [a] pos) (LE X.K f) := pe_one h
theorem le_and (ha : PE X a (LE X.K f)) (hb : PE X (.BoolOp .And (b :: rest) pos) (LE X.K g)) : PE X (.BoolOp .And (a :: b :: rest) pos) (LE X.K (dAnd f g)) :=
  PE.imp (pe_and ha hb) fun s H Q ⟨Z, d, m, R, ok, rs, h, k⟩ => ⟨Z, d, m, _, ok, rs, h, fun x m1 v H1 ⟨b, e, q⟩ e1 ok1 rd => by
    subst e
    refine ⟨b, rd.bl, ?_⟩
    cases b with
    | true => rw [if_pos rfl] at q ⊢; exact ⟨Z, d, m1, R, ok1, rs.ext e1, q, fun x2 m2 v2 H2 q2 e2 ok2 r2 => k x2 m2 v2 H2 q2 (e1.trans e2) ok2 r2⟩
    | false => rw [if_neg Bool.false_ne_true] at q ⊢; exact k _ m1 _ H1 q e1 ok1 .ofBl⟩
@[simp] def dIte (t : DT) (f g : DE) : DE := fun d m Q => t d m fun k m1 => if k = true then f d m1 Q else g d m1 Q
theorem le_ite (hc : PT X c (LT X.K t)) (ha : PE X a (LE X.K f)) (hb : PE X b (LE X.K g)) : PE X (.IfExp c a b pos) (LE X.K (dIte t f g)) :=
  PE.imp (pe_ifExp hc ha hb) fun s H Q ⟨Z, d, m, R, ok, rs, h, k⟩ => ⟨Z, d, m, _, ok, rs, h, fun b m1 H1 q e1 ok1 => by
    cases b with
    | true => rw [if_pos rfl] at q ⊢; exact ⟨Z, d, m1, R, ok1, rs.ext e1, q, fun x2 m2 v2 H2 q2 e2 ok2 r2 => k x2 m2 v2 H2 q2 (e1.trans e2) ok2 r2⟩
    | false => rw [if_neg Bool.false_ne_true] at q ⊢; exact ⟨Z, d, m1, R, ok1, rs.ext e1, q, fun x2 m2 v2 H2 q2 e2 ok2 r2 => k x2 m2 v2 H2 q2 (e1.trans e2) ok2 r2⟩⟩
end
section
variable {X : Cx} {e : Expr} {es : List Expr} {f : DE} {g : DA} {pos : Pos}
@[simp] def dNil : DA := fun _ m Q => Q [] m
@[simp] def dCons (f : DE) (g : DA) : DA := fun d m Q => f d m fun x m1 => g d m1 fun xs m2 => Q (x :: xs) m2
theorem la_nil : PA X [] (LA X.K dNil) := PA.imp pa_nil fun s H Q ⟨Z, d, m, R, ok, rs, h, k⟩ => k [] m [] H h Ext.refl ok rfl
theorem la_cons (ha : PE X e (LE X.K f)) (hr : PA X es (LA X.K g)) (hs : starEach (e :: es) X.env = (false, eval e X.env) :: starEach es X.env := by rfl) : PA X (e :: es) (LA X.K (dCons f g)) :=
  PA.imp (pa_cons ha hr hs) fun s H Q ⟨Z, d, m, R, ok, rs, h, k⟩ => ⟨Z, d, m, _, ok, rs, h, fun x m1 v H1 q e1 ok1 r1 => ⟨Z, d, m1, _, ok1, rs.ext e1, q, fun xs m2 vs H2 q2 e2 ok2 r2 =>
    k (x :: xs) m2 (v :: vs) H2 q2 (e1.trans e2) ok2 ⟨v, vs, rfl, r1.ext e2, r2⟩⟩⟩
@[simp] def dTup (g : DA) : DE := fun d m Q => g d m fun xs m1 => ∃ ps, pds xs = some ps ∧ ps.length ≤ sizeLine ∧ Q (.dat (.tuple ps)) m1
theorem le_tup {j : Nat} (h : PA X es (LA X.K g)) : PE X (.Tuple es j pos) (LE X.K (dTup g)) :=
  PE.imp (pe_tup h) fun s H Q ⟨Z, d, m, R, ok, rs, h, k⟩ => ⟨Z, d, m, _, ok, rs, h, fun xs m1 vs H1 ⟨ps, e, hz, q⟩ e1 ok1 r1 => by
    have rp := r1.pds e
    refine ⟨by rw [rp.length]; exact hz, fun p hp => ?_⟩
    have sm : Same H1 (upd H1 p (.tup vs)) := same_new hp
    refine k _ m1 _ _ q (e1.trans (ok1.ext sm)) (ok1.grow sm) ?_
    simp only [RD, RP]
    exact ⟨p, vs, rfl, .inl (.inl upd_same), RPs.ext (ok1.ext sm) _ _ rp⟩⟩
@[simp] def dLst (g : DA) : DE := fun d m Q => g d m fun xs m1 => ∃ ps, pds xs = some ps ∧ ps.length ≤ sizeLine ∧ Q (.dat (.list ps)) m1
@[simp] def dLstC (g : DA) : DE := fun d m Q => g d m fun xs m1 => ∃ ps, pds xs = some ps ∧ ps.length ≤ sizeLine ∧ ∀ a, m1 a = none → Q (.cel a) (updM m1 a (.l ps))
theorem pe_lstK {t : TA} (h : PA X es t) : PE X (.List es pos) (fun s H Q => t s H fun xs H1 => xs.length ≤ sizeLine ∧ ∀ p, H1 p = none → X.K.lookup p = none → Q (.ref p) (upd H1 p (.lst xs))) := by
  intro pins s σ H Q I hq
  refine wpAny_List_spliced (thn (h pos pins s σ H _ I hq) fun us s1 ⟨xs, H1, I1, r, z, q⟩ => ⟨by rw [← r.length]; exact z, ?_⟩)
  have hf : H1 s1.heap.objs.size = none := I1.hok.fresh (Nat.le_refl _)
  have hk : X.K.lookup s1.heap.objs.size = none := by
    cases e : X.K.lookup s1.heap.objs.size with
    | none => rfl
    | some o => exact absurd (Heap.lt_size (I1.kIn _ o e)) (Nat.lt_irrefl _)
  refine ⟨.ref s1.heap.objs.size, upd H1 s1.heap.objs.size (.lst xs), I1.laid (t' := s1.toks) (fun b u e => Heap.get?_push_of_some _ e) (Nat.le_refl _) ?_, rfl, q _ hf hk⟩
  exact ⟨z, us, 0, r, Heap.get?_push_size _ rfl⟩
theorem ok_none {K : PySem.W.Frag} {Z : Addr → Prop} {m : Mu} {H : Hp} {p : Addr} (ok : Ok K Z m H) (hp : H p = none) : m p = none ∧ ¬ Z p := by
  refine ⟨?_, fun h => (ok.z p h).2 hp⟩
  cases e : m p with
  | none => rfl
  | some ds =>
    obtain ⟨vs, h1, _⟩ := ok.g p ds e
    rw [hp] at h1
    cases h1
theorem le_lst (h : PA X es (LA X.K g)) : PE X (.List es pos) (LE X.K (dLst g)) :=
  PE.imp (pe_lstK h) fun s H Q ⟨Z, d, m, R, ok, rs, h, k⟩ => ⟨Z, d, m, _, ok, rs, h, fun xs m1 vs H1 ⟨ps, e, hz, q⟩ e1 ok1 r1 => by
    have rp := r1.pds e
    refine ⟨by rw [rp.length]; exact hz, fun p hp hk => ?_⟩
    have sm : Same H1 (upd H1 p (.lst vs)) := same_new hp
    refine k _ m1 _ _ q (e1.trans (ok1.ext sm)) (ok1.grow sm) ?_
    simp only [RD, RP]
    exact ⟨p, vs, rfl, ok_none ok1 hp, .inl (.inl upd_same), RPs.ext (ok1.ext sm) _ _ rp⟩⟩
theorem le_lstC (h : PA X es (LA X.K g)) : PE X (.List es pos) (LE X.K (dLstC g)) :=
  PE.imp (pe_lstK h) fun s H Q ⟨Z, d, m, R, ok, rs, h, k⟩ => ⟨Z, d, m, _, ok, rs, h, fun xs m1 vs H1 ⟨ps, e, hz, q⟩ e1 ok1 r1 => by
    have rp := r1.pds e
    refine ⟨by rw [rp.length]; exact hz, fun p hp hk => ?_⟩
    refine k _ _ _ _ (q p (ok_none ok1 hp).1) (e1.trans (Ext.cell ok1 hp hk)) (ok1.cell hp hk rp) ⟨rfl, ?_⟩
    rw [updM_same]
    rfl⟩
end
end DL
set_option Elab.async false
set_option linter.all false
set_option maxRecDepth 100000
set_option maxHeartbeats 4000000
namespace DL
open PySem PySem.Spec PyProof.Rows L2
theorem noFill_tuple_mul : fillsNumberSlot (.type "tuple") "mul" = pure false := PySem.fillsNumberSlot_seq (id := "tuple.__mul__") (r := some (.builtin "tuple.__rmul__")) PySem.F.slot_tuple_mul.lookup (by decide +kernel) PySem.F.slot_tuple_rmul.lookup (by decide +kernel)
theorem repeat_tuple : seqRepeat? (.type "tuple") = pure (some (.builtin "tuple.__mul__")) := by
  unfold seqRepeat?
  rw [PySem.seqSlot_of (T := "tuple") (name := "__mul__") (id := "tuple.__mul__") PySem.F.slot_tuple_mul.lookup (by decide +kernel), PySem.seqSlot_of (T := "tuple") (name := "__rmul__") (id := "tuple.__rmul__") PySem.F.slot_tuple_rmul.lookup (by decide +kernel)]
  rfl
theorem rmul_tuple (a : Int) (t : Tok) (l : Addr) (its : Array Value) (n : Nat) (dd : Option Addr) (sl : Array (Option Value)) : Meets (Builtin.«int.__rmul__» ⟨[.int a t, .ref l], []⟩) (fun _ R s => s.heap.get? l = some { cls := .type "tuple", dict := dd, data := .seq its n, slots := sl } ∧ R (.ok (.ret Value.notImplemented)) s) :=
  .of_wp fun prog w A R s hs => by
    obtain ⟨hp, g, d, tk, os⟩ := s; obtain ⟨hl, h⟩ := hs
    wp_walk
    exact ⟨_, rfl, h⟩
theorem fold_rep (vs : List Value) : ∀ (n : Nat) (acc : List Value), (List.replicate n vs.toArray).foldl (· ++ ·) acc.toArray = (acc ++ (List.replicate n vs).flatten).toArray
  | 0, acc => by simp
  | n + 1, acc => by
    rw [List.replicate_succ, List.foldl_cons, List.replicate_succ, List.flatten_cons]
    have := fold_rep vs n (acc ++ vs)
    rw [← List.append_assoc, ← this]
    simp
theorem len_rep' {α : Type} (xs : List α) : ∀ n : Nat, (List.replicate n xs).flatten.length = xs.length * n
  | 0 => by simp
  | n + 1 => by rw [List.replicate_succ, List.flatten_cons, List.length_append, len_rep' xs n, Nat.mul_succ, Nat.add_comm]
theorem tup_mul_meets (t : Addr) (its : Array Value) (k : Int) (tok : Tok) (h1 : its.size ≠ 0) (h2 : 2 ≤ k) (h3 : k ≤ 100) (h4 : its.size * k.toNat ≤ sizeLine) : Meets (Builtin.«tuple.__mul__» ⟨[.ref t, .int k tok], []⟩)
    (fun _ R s => IsTup s.heap t its ∧ R (.ok (.ret (.ref s.heap.objs.size))) { s with heap := s.heap.push { cls := .type "tuple", data := .seq ((List.replicate k.toNat its).foldl (· ++ ·) #[]) } }) :=
  .of_wp fun prog w A R s hs => by
    obtain ⟨ht, h⟩ := hs
    show wpAny _ _ (asIndex (.int k tok) >>= _) _ _ _
    refine wpAny_bind (wpAny_pure ?_)
    show wpAny _ _ (if (decide (k < -(2 ^ 63)) || decide (k ≥ 2 ^ 63)) = true then _ else _) _ _ _
    rw [if_neg (by simp; omega)]
    show wpAny _ _ (Builtin.Tuple.tupleItemsOf (.ref t) >>= _) _ _ _
    refine wpAny_bind (tupleItemsOf_ ht ?_)
    have e1 : its.isEmpty = false := by
      rw [Array.isEmpty_eq_false_iff]
      rintro rfl
      exact h1 rfl
    have e2 : (k == 1) = false := by
      rw [beq_eq_false_iff_ne]
      omega
    show wpAny _ _ (if (its.isEmpty || k == 1) = true then _ else _) _ _ _
    rw [e1, e2, if_neg (by simp)]
    show wpAny _ _ (if (decide (k ≤ 0) || false) = true then _ else _) _ _ _
    rw [if_neg (by simp; omega)]
    have hk : ((its.size : Nat) : Int) * k = ((its.size * k.toNat : Nat) : Int) := by
      push_cast
      rw [Int.toNat_of_nonneg (by omega)]
    have hs := line63
    show wpAny _ _ (if ((its.size : Nat) : Int) * k > (2 ^ 63 - 1) / 8 then _ else _) _ _ _
    rw [if_neg ?c1]
    case c1 =>
      rw [hk]
      have : (sizeLine : Nat) ≤ (2 ^ 63 - 1) / 8 := by decide
      omega
    show wpAny _ _ (if (decide (((its.size : Nat) : Int) * k > (sizeLine : Int))) = true then _ else _) _ _ _
    rw [if_neg ?c2]
    case c2 =>
      rw [hk]
      intro q
      have q' := of_decide_eq_true q
      omega
    show wpAny _ _ (Builtin.Tuple.tupleExact ((List.replicate k.toNat its).foldl (· ++ ·) #[]) >>= _) _ _ _
    refine wpAny_bind (m := Builtin.Tuple.tupleExact _) (wpAny_newObj_type (wpAny_pure ⟨_, rfl, h⟩) ?_)
    show ((List.replicate k.toNat its).foldl (· ++ ·) #[]).size ≤ sizeLine
    have e := fold_rep its.toList k.toNat []
    rw [List.nil_append] at e
    have e' : (List.replicate k.toNat its).foldl (· ++ ·) #[] = (List.replicate k.toNat its.toList).flatten.toArray := e
    rw [e', List.size_toArray, len_rep', Array.length_toList]
    exact h4
theorem Vals.rep {xs : List V} {us : List Value} (h : Vals xs us) : ∀ n : Nat, Vals (List.replicate n xs).flatten (List.replicate n us).flatten
  | 0 => .nil
  | n + 1 => by
    rw [List.replicate_succ, List.replicate_succ, List.flatten_cons, List.flatten_cons]
    exact h.append (Vals.rep h n)
theorem RPs.rep {K : PySem.W.Frag} {Z : Addr → Prop} {m : Mu} {H : Hp} {xs : List PyData} {vs : List V} (h : RPs K Z m H xs vs) : ∀ n : Nat, RPs K Z m H (List.replicate n xs).flatten (List.replicate n vs).flatten
  | 0 => by simp [RPs]
  | n + 1 => by
    rw [List.replicate_succ, List.replicate_succ, List.flatten_cons, List.flatten_cons]
    exact h.append (RPs.rep h n)
section
variable {X : Cx}
theorem rep_tup {pins : List (Addr × Obj)} {s : Shared} {σ : L2.St} {H : Hp} {Q : VK} {a : Addr} {xs : List V} {k : Int} {t : Tok} (I : Inv X pins σ H s) (ha : SqT X.K H a xs) (h1 : xs ≠ []) (h2 : 2 ≤ k) (h3 : k ≤ 100) (h4 : xs.length * k.toNat ≤ sizeLine)
    (q : ∀ p, H p = none → Q (.ref p) (upd H p (.tup (List.replicate k.toNat xs).flatten))) : wpAny (model X.prog X.w) X.A (binaryOp .Mult (.ref a) (.int k t)) (EP X pins σ Q) X.xe s := by
  obtain ⟨its, r, p, hz⟩ := I.tuple ha
  have hl := r.length
  obtain ⟨⟨cls, dd, data, sl⟩, ho, hc, n, hd⟩ := id p
  simp only at hc hd
  subst hc hd
  refine wpAny_binaryOp_repeat_ref (T := "tuple") (U := "int") (by decide) ⟨_, ho, rfl⟩ (fun s' => typeIs_int s' k t) noFill_tuple_mul PySem.F.fills_int_mul PySem.F.slot_int_rmul repeat_tuple PySem.F.slot_int_index.lookup
    (call_meets PySem.F.slot_int_rmul (typeIs_int s k t) PySem.F.entry_int_rmul (PySem.F.args_int_rmul_2 _ _) (rmul_tuple k t a its.toArray n dd sl) ⟨ho, rfl, ⟨_, ho, rfl⟩, call_meets PySem.F.slot_tuple_mul ⟨_, ho, rfl⟩ PySem.F.entry_tuple_mul (PySem.F.args_tuple_mul_2 _ _) (tup_mul_meets a its.toArray k t ?_ h2 h3 ?_) ⟨p, ?_⟩⟩)
  · rw [List.size_toArray, ← hl]
    intro e
    exact h1 (List.length_eq_zero_iff.mp e)
  · rw [List.size_toArray, ← hl]
    exact h4
  · have e := fold_rep its k.toNat []
    rw [List.nil_append] at e
    rw [e]
    exact ⟨.ref s.heap.objs.size, _, I.laid (t' := s.toks) (o := .tup (List.replicate k.toNat xs).flatten) (fun b ob q => Heap.get?_push_of_some _ q) (Nat.le_refl _) ⟨⟨by rw [len_rep']; exact h4, NoD.new _ _ _⟩, _, Vals.rep r k.toNat, IsTup.new _ _⟩, rfl, q _ (I.hok.fresh (Nat.le_refl _))⟩
end
end DL
set_option Elab.async false
set_option linter.all false
set_option maxRecDepth 100000
set_option maxHeartbeats 4000000
namespace DL
open PySem PySem.Spec PyProof.Rows L2
@[simp] def aAdd : D2
  | .dat (.int i), .dat (.int j), m, Q => Q (.dat (.int (i + j))) m
  | .dat (.str a), .dat (.str b), m, Q => a.length + b.length ≤ sizeLine ∧ Q (.dat (.str (a ++ b))) m
  | .dat (.tuple a), .dat (.tuple b), m, Q => a.length + b.length ≤ sizeLine ∧ Q (.dat (.tuple (a ++ b))) m
  | .dat (.list a), .dat (.list b), m, Q => a.length + b.length ≤ sizeLine ∧ Q (.dat (.list (a ++ b))) m
  | .cel c, .dat (.list b), m, Q => ∃ a, m c = some (.l a) ∧ a.length + b.length ≤ sizeLine ∧ Q (.dat (.list (a ++ b))) m
  | _, _, _, _ => False
@[simp] def aSub : D2
  | .dat (.int i), .dat (.int j), m, Q => Q (.dat (.int (i - j))) m
  | _, _, _, _ => False
@[simp] def aMul : D2
  | .dat (.int i), .dat (.int j), m, Q => IntMulOk i j ∧ Q (.dat (.int (i * j))) m
  | .dat (.tuple a), .dat (.int k), m, Q => a ≠ [] ∧ 2 ≤ k ∧ k ≤ 100 ∧ a.length * k.toNat ≤ sizeLine ∧ Q (.dat (.tuple (List.replicate k.toNat a).flatten)) m
  | _, _, _, _ => False
@[simp] def aDiv : D2
  | .dat (.int i), .dat (.int j), m, Q => j ≠ 0 ∧ j.natAbs.log2 < 9000 ∧ Q (.dat (.int (i.fdiv j))) m
  | _, _, _, _ => False
@[simp] def aMod : D2
  | .dat (.int i), .dat (.int j), m, Q => j ≠ 0 ∧ Q (.dat (.int (i.fmod j))) m
  | _, _, _, _ => False
@[simp] def aPow : D2
  | .dat (.int i), .dat (.int j), m, Q => (0 ≤ j ∧ j ≤ 1000000 ∧ i.natAbs < 2 ^ 64) ∧ Q (.dat (.int (i ^ j.toNat))) m
  | _, _, _, _ => False
@[simp] def aLt : D2
  | .dat (.int i), .dat (.int j), m, Q => Q (.dat (.bool (decide (i < j)))) m
  | _, _, _, _ => False
@[simp] def aLe : D2
  | .dat (.int i), .dat (.int j), m, Q => Q (.dat (.bool (decide (i ≤ j)))) m
  | _, _, _, _ => False
@[simp] def aGt : D2
  | .dat (.int i), .dat (.int j), m, Q => Q (.dat (.bool (decide (j < i)))) m
  | _, _, _, _ => False
@[simp] def aGe : D2
  | .dat (.int i), .dat (.int j), m, Q => Q (.dat (.bool (decide (j ≤ i)))) m
  | _, _, _, _ => False
@[simp] def aEq : D2
  | .dat (.str a), .dat (.str b), m, Q => Q (.dat (.bool (decide (a = b)))) m
  | .dat p, .dat q, m, Q => p.canLay0 = true ∧ q.canLay0 = true ∧ p.depth ≤ 100 ∧ Q (.dat (.bool (PyData.eqv p q))) m
  | _, _, _, _ => False
@[simp] def aNe : D2
  | .dat (.str a), .dat (.str b), m, Q => Q (.dat (.bool (!decide (a = b)))) m
  | .dat p, .dat q, m, Q => p.canLay0 = true ∧ q.canLay0 = true ∧ p.depth ≤ 100 ∧ Q (.dat (.bool (!PyData.eqv p q))) m
  | _, _, _, _ => False
section
variable {X : Cx}
theorem RD.int {K : PySem.W.Frag} {Z : Addr → Prop} {m : Mu} {H : Hp} {i : Int} {v : V} (h : RD K Z m H (.dat (.int i)) v) : v = .int i := by simpa only [RD, RP] using h
theorem RD.ofInt {K : PySem.W.Frag} {Z : Addr → Prop} {m : Mu} {H : Hp} {i : Int} : RD K Z m H (.dat (.int i)) (.int i) := by simp only [RD, RP]
theorem RD.str {K : PySem.W.Frag} {Z : Addr → Prop} {m : Mu} {H : Hp} {i : Str} {v : V} (h : RD K Z m H (.dat (.str i)) v) : v = .str i := by simpa only [RD, RP] using h
theorem RD.ofStr {K : PySem.W.Frag} {Z : Addr → Prop} {m : Mu} {H : Hp} {i : Str} : RD K Z m H (.dat (.str i)) (.str i) := by simp only [RD, RP]
theorem od_sub : OpD X (binaryOp .Sub) aSub := by
  intro pins s σ H Z m x y dx dy v u R Q I ok rx ry r1 r2 h k
  unfold aSub at h
  split at h
  · cases r1.int; cases r2.int
    exact op_sub pins s σ H _ _ v u Q I rx ry ⟨_, _, rfl, rfl, k _ m _ H h Ext.refl ok .ofInt⟩
  · exact h.elim
theorem od_mul : OpD X (binaryOp .Mult) aMul := by
  intro pins s σ H Z m x y dx dy v u R Q I ok rx ry r1 r2 h k
  unfold aMul at h
  split at h
  · cases r1.int; cases r2.int
    obtain ⟨t, rfl⟩ := rx
    obtain ⟨t', rfl⟩ := ry
    exact mul_int ⟨.int _, H, I.tok _, ⟨_, rfl⟩, k _ m _ H h.2 Ext.refl ok .ofInt⟩ h.1
  · rename_i a j
    obtain ⟨h1, h2, h3, h4, h5⟩ := h
    cases r2.int
    simp only [RD, RP] at r1
    obtain ⟨p, vs, rfl, g1, g2⟩ := r1
    cases rx
    obtain ⟨t', rfl⟩ := ry
    have hl := g2.length
    refine rep_tup I g1 (fun e => h1 ?_) h2 h3 (by rw [hl]; exact h4) fun t ht => ?_
    · subst e
      cases a with
      | nil => rfl
      | cons _ _ => simp at hl
    · have sm : Same H (upd H t (.tup (List.replicate j.toNat vs).flatten)) := same_new ht
      refine k _ m _ _ h5 (ok.ext sm) (ok.grow sm) ?_
      simp only [RD, RP]
      exact ⟨t, _, rfl, .inl (.inl upd_same), RPs.ext (ok.ext sm) _ _ (g2.rep _)⟩
  · exact h.elim
theorem od_div : OpD X (binaryOp .FloorDiv) aDiv := by
  intro pins s σ H Z m x y dx dy v u R Q I ok rx ry r1 r2 h k
  unfold aDiv at h
  split at h
  · cases r1.int; cases r2.int
    obtain ⟨t, rfl⟩ := rx
    obtain ⟨t', rfl⟩ := ry
    exact floordiv_int h.1 ⟨.int _, H, I.tok _, ⟨_, rfl⟩, k _ m _ H h.2.2 Ext.refl ok .ofInt⟩ (.inl (PyProof.noPylong_of_log2 h.2.1))
  · exact h.elim
theorem od_mod : OpD X (binaryOp .Mod) aMod := by
  intro pins s σ H Z m x y dx dy v u R Q I ok rx ry r1 r2 h k
  unfold aMod at h
  split at h
  · cases r1.int; cases r2.int
    exact op_modN pins s σ H _ _ v u Q I rx ry ⟨_, _, rfl, rfl, h.1, k _ m _ H h.2 Ext.refl ok .ofInt⟩
  · exact h.elim
theorem od_pow : OpD X (binaryOp .Pow) aPow := by
  intro pins s σ H Z m x y dx dy v u R Q I ok rx ry r1 r2 h k
  unfold aPow at h
  split at h
  · cases r1.int; cases r2.int
    exact op_pow pins s σ H _ _ v u Q I rx ry ⟨_, _, rfl, rfl, h.1, k _ m _ H h.2 Ext.refl ok .ofInt⟩
  · exact h.elim
theorem od_lt : OpD X (compareOp .Lt) aLt := by
  intro pins s σ H Z m x y dx dy v u R Q I ok rx ry r1 r2 h k
  unfold aLt at h
  split at h
  · cases r1.int; cases r2.int
    exact op_lt pins s σ H _ _ v u Q I rx ry ⟨_, _, rfl, rfl, k _ m _ H h Ext.refl ok .ofBl⟩
  · exact h.elim
theorem od_le : OpD X (compareOp .LtE) aLe := by
  intro pins s σ H Z m x y dx dy v u R Q I ok rx ry r1 r2 h k
  unfold aLe at h
  split at h
  · cases r1.int; cases r2.int
    exact op_le pins s σ H _ _ v u Q I rx ry ⟨_, _, rfl, rfl, k _ m _ H h Ext.refl ok .ofBl⟩
  · exact h.elim
theorem od_gt : OpD X (compareOp .Gt) aGt := by
  intro pins s σ H Z m x y dx dy v u R Q I ok rx ry r1 r2 h k
  unfold aGt at h
  split at h
  · cases r1.int; cases r2.int
    exact op_gt pins s σ H _ _ v u Q I rx ry ⟨_, _, rfl, rfl, k _ m _ H h Ext.refl ok .ofBl⟩
  · exact h.elim
theorem od_ge : OpD X (compareOp .GtE) aGe := by
  intro pins s σ H Z m x y dx dy v u R Q I ok rx ry r1 r2 h k
  unfold aGe at h
  split at h
  · cases r1.int; cases r2.int
    exact op_ge pins s σ H _ _ v u Q I rx ry ⟨_, _, rfl, rfl, k _ m _ H h Ext.refl ok .ofBl⟩
  · exact h.elim
theorem od_eq (hu : X.A.units + 100 < cLine) : OpD X (compareOp .Eq) aEq := by
  intro pins s σ H Z m x y dx dy v u R Q I ok rx ry r1 r2 h k
  unfold aEq at h
  split at h
  · cases r1.str; cases r2.str
    refine op_eq pins s σ H _ _ v u Q I rx ry ⟨rfl, ?_⟩
    have e : ∀ a b : Str, decide (V.str a = V.str b) = decide (a = b) := fun a b => by
      rw [Bool.eq_iff_iff]
      simp
    rw [e]
    exact k _ m _ H h Ext.refl ok .ofBl
  · rename_i p q hne
    obtain ⟨h1, h2, h3, h4⟩ := h
    obtain ⟨as, ra⟩ := RP.reads I p x v r1 rx
    obtain ⟨bs, rb⟩ := RP.reads I q y u r2 ry
    exact SeqAt.compareEq_reads ra rb h1 h2 (by omega) ⟨.bl _, H, I, rfl, k _ m _ H h4 Ext.refl ok .ofBl⟩
  · exact h.elim
theorem od_ne (hu : X.A.units + 100 < cLine) : OpD X (compareOp .NotEq) aNe := by
  intro pins s σ H Z m x y dx dy v u R Q I ok rx ry r1 r2 h k
  unfold aNe at h
  split at h
  · cases r1.str; cases r2.str
    refine op_ne pins s σ H _ _ v u Q I rx ry ⟨rfl, ?_⟩
    have e : ∀ a b : Str, decide (V.str a = V.str b) = decide (a = b) := fun a b => by
      rw [Bool.eq_iff_iff]
      simp
    rw [e]
    exact k _ m _ H h Ext.refl ok .ofBl
  · rename_i p q hne
    obtain ⟨h1, h2, h3, h4⟩ := h
    obtain ⟨as, ra⟩ := RP.reads I p x v r1 rx
    obtain ⟨bs, rb⟩ := RP.reads I q y u r2 ry
    exact SeqAt.compareNe_reads ra rb h1 h2 (by omega) ⟨.bl _, H, I, rfl, k _ m _ H h4 Ext.refl ok .ofBl⟩
  · exact h.elim
theorem cat_tup0 {pins : List (Addr × Obj)} {s : Shared} {σ : L2.St} {H : Hp} {Q : VK} {a b : Addr} {ys : List V} (I : Inv X pins σ H s) (ha : SqT X.K H a []) (hb : SqT X.K H b ys) (q : Q (.ref b) H) :
    wpAny (model X.prog X.w) X.A (binaryOp .Add (.ref a) (.ref b)) (EP X pins σ Q) X.xe s := by
  obtain ⟨its, r1, p1, _⟩ := I.tuple ha
  obtain ⟨its2, r2, p2, _⟩ := I.tuple hb
  cases r1
  obtain ⟨⟨cls, dd, data, sl⟩, ho, hc, n, hd⟩ := id p1
  obtain ⟨⟨cls2, dd2, data2, sl2⟩, ho2, hc2, n2, hd2⟩ := id p2
  simp only at hc hd hc2 hd2
  subst hc hd hc2 hd2
  exact concat_meets ⟨_, ho, rfl⟩ ⟨_, ho2, rfl⟩ noFill_tuple_add seq_tuple_add PySem.F.slot_tuple_add PySem.F.entry_tuple_add (PySem.F.args_tuple_add_2 _ _)
      (tuple_addW0 a b _ _ n n2 dd dd2 sl sl2 (by simp)) ⟨ho, ho2, ⟨.ref b, H, I, rfl, q⟩⟩
theorem op_catS : OpR X (binaryOp .Add) (fun x y H Q => ∃ a b xs ys, x = .ref a ∧ y = .ref b ∧ SqL X.K H a xs ∧ SqL X.K H b ys ∧ xs.length + ys.length ≤ sizeLine ∧ ∀ p, H p = none → Q (.ref p) (upd H p (.lst (xs ++ ys)))) := by
  intro pins s σ H x y v u Q I rx ry h
  obtain ⟨a, b, xs, ys, rfl, rfl, ha, hb, hz, q⟩ := h
  cases rx
  cases ry
  obtain ⟨its, r1, p1, _⟩ := I.list ha
  obtain ⟨its2, r2, p2, _⟩ := I.list hb
  obtain ⟨⟨cls, dd, data, sl⟩, ho, hc, n, hd⟩ := id p1.isList
  obtain ⟨⟨cls2, dd2, data2, sl2⟩, ho2, hc2, n2, hd2⟩ := id p2.isList
  simp only at hc hd hc2 hd2
  subst hc hd hc2 hd2
  have l1 := r1.length
  have l2 := r2.length
  have e : its.toArray ++ its2.toArray = (its ++ its2).toArray := by simp
  refine concat_meets ⟨_, ho, rfl⟩ ⟨_, ho2, rfl⟩ noFill_list_add seq_list_add PySem.F.slot_list_add PySem.F.entry_list_add (PySem.F.args_list_add_2 _ _)
      (list_addW a b its.toArray its2.toArray n n2 dd dd2 sl sl2 (by rw [List.size_toArray, List.size_toArray]; omega)) ⟨ho, ho2, ?_⟩
  rw [e]
  exact ⟨.ref s.heap.objs.size, _, I.laid (t' := s.toks) (o := .lst (xs ++ ys)) (fun b ob q => Heap.get?_push_of_some _ q) (Nat.le_refl _) ⟨by rw [List.length_append]; omega, _, 0, r1.append r2, Heap.get?_push_size _ rfl⟩, rfl, q _ (I.hok.fresh (Nat.le_refl _))⟩
theorem od_add : OpD X (binaryOp .Add) aAdd := by
  intro pins s σ H Z m x y dx dy v u R Q I ok rx ry r1 r2 h k
  unfold aAdd at h
  split at h
  · cases r1.int; cases r2.int
    exact op_add pins s σ H _ _ v u Q I rx ry ⟨_, _, rfl, rfl, k _ m _ H h Ext.refl ok .ofInt⟩
  · cases r1.str; cases r2.str
    exact op_add_str pins s σ H _ _ v u Q I rx ry ⟨_, _, rfl, rfl, h.1, k _ m _ H h.2 Ext.refl ok .ofStr⟩
  · rename_i a b
    simp only [RD, RP] at r1 r2
    obtain ⟨p, vs, rfl, h1, h2⟩ := r1
    obtain ⟨q, ws, rfl, g1, g2⟩ := r2
    have l1 := h2.length
    have l2 := g2.length
    by_cases e1 : a = []
    · subst e1
      simp only [RPs] at h2
      subst h2
      cases rx; cases ry
      refine cat_tup0 I h1 g1 (k _ m _ H h.2 Ext.refl ok ?_)
      simp only [RD, RP]
      exact ⟨q, ws, rfl, g1, by simpa using g2⟩
    · refine op_catT pins s σ H _ _ v u Q I rx ry ⟨p, q, vs, ws, rfl, rfl, h1, g1, ?_, by omega, fun e2 => ?_, fun e2 t ht => ?_⟩
      · rintro rfl
        cases a with
        | nil => exact e1 rfl
        | cons _ _ => simp at l1
      · subst e2
        have e3 : b = [] := by cases b with | nil => rfl | cons _ _ => simp at l2
        subst e3
        refine k _ m _ H h.2 Ext.refl ok ?_
        simp only [RD, RP]
        exact ⟨p, vs, rfl, h1, by simpa using h2⟩
      · have sm : Same H (upd H t (.tup (vs ++ ws))) := same_new ht
        refine k _ m _ _ h.2 (ok.ext sm) (ok.grow sm) ?_
        simp only [RD, RP]
        exact ⟨t, _, rfl, .inl (.inl upd_same), RPs.ext (ok.ext sm) _ _ (h2.append g2)⟩
  · rename_i a b
    simp only [RD, RP] at r1 r2
    obtain ⟨p, vs, rfl, h0, h1, h2⟩ := r1
    obtain ⟨q, ws, rfl, g0, g1, g2⟩ := r2
    have l1 := h2.length
    have l2 := g2.length
    refine op_catS pins s σ H _ _ v u Q I rx ry ⟨p, q, vs, ws, rfl, rfl, h1, g1, by omega, fun t ht => ?_⟩
    have sm : Same H (upd H t (.lst (vs ++ ws))) := same_new ht
    refine k _ m _ _ h.2 (ok.ext sm) (ok.grow sm) ?_
    simp only [RD, RP]
    exact ⟨t, _, rfl, ok_none ok ht, .inl (.inl upd_same), RPs.ext (ok.ext sm) _ _ (h2.append g2)⟩
  · rename_i c b
    obtain ⟨aa, hm, hz, hq⟩ := h
    obtain ⟨rfl, _⟩ := r1
    obtain ⟨vs, g0, g3⟩ := ok.l hm
    simp only [RD, RP] at r2
    obtain ⟨q, ws, rfl, _, g1, g2⟩ := r2
    have l1 := g3.length
    have l2 := g2.length
    refine op_catS pins s σ H _ _ v u Q I rx ry ⟨c, q, vs, ws, rfl, rfl, .inl (.inl g0), g1, by omega, fun t ht => ?_⟩
    have sm : Same H (upd H t (.lst (vs ++ ws))) := same_new ht
    refine k _ m _ _ hq (ok.ext sm) (ok.grow sm) ?_
    simp only [RD, RP]
    exact ⟨t, _, rfl, ok_none ok ht, .inl (.inl upd_same), RPs.ext (ok.ext sm) _ _ (g3.append g2)⟩
  · exact h.elim
end
end DL
set_option Elab.async false
set_option linter.all false
set_option maxRecDepth 100000
set_option maxHeartbeats 4000000
namespace DL
open PySem PySem.Spec PyProof.Rows L2
section
variable {X : Cx} {a b c e : Expr} {es : List Expr} {f g : DE} {ga : DA} {pos p2 p : Pos}
@[simp] def aIx : D2
  | .dat (.tuple xs), .dat (.int i), m, Q => ∃ p, atI xs i = some p ∧ Q (.dat p) m
  | .dat (.list xs), .dat (.int i), m, Q => ∃ p, atI xs i = some p ∧ Q (.dat p) m
  | .cel a, .dat (.int i), m, Q => ∃ xs p, m a = some (.l xs) ∧ atI xs i = some p ∧ Q (.dat p) m
  | .dat (.str z), .dat (.int i), m, Q => ∃ c, z.length ≤ sizeLine ∧ atI z.cps.toList i = some c ∧ Q (.dat (.str ⟨#[c]⟩)) m
  | _, _, _, _ => False
theorem RPs.at {K : PySem.W.Frag} {Z : Addr → Prop} {m : Mu} {H : Hp} {xs : List PyData} {vs : List V} {i : Int} {p : PyData} (h : RPs K Z m H xs vs) (e : atI xs i = some p) : ∃ v, atI vs i = some v ∧ RP K Z m H p v := by
  unfold atI at e ⊢
  rw [h.length]
  cases q : ixN xs.length i with
  | none => rw [q] at e; cases e
  | some j =>
    rw [q] at e
    exact h.get (i := j) e
theorem le_ix (ha : PE X a (LE X.K f)) (hb : PE X b (LE X.K g)) (hs : PlainIx b := by exact fun _ _ => rfl) : PE X (.Subscript a b pos) (LE X.K (dBin aIx f g)) :=
  PE.imp (pe_ix ix_seq ha hb hs) fun s H Q h => by
    obtain ⟨Z, d, m, R, ok, rs, h, k⟩ := h
    refine ⟨Z, d, m, _, ok, rs, h, fun x m1 v H1 q e1 ok1 rx => ⟨Z, d, m1, _, ok1, rs.ext e1, q, fun y m2 w H2 q2 e2 ok2 ry => ?_⟩⟩
    have rx2 := rx.ext e2
    have e12 := e1.trans e2
    unfold aIx at q2
    split at q2
    · obtain ⟨p, ep, q⟩ := q2
      cases ry.int
      simp only [RD, RP] at rx2
      obtain ⟨a, vs, rfl, h1, h2⟩ := rx2
      obtain ⟨z, ez, rz⟩ := h2.at ep
      exact .inr (.inl ⟨a, vs, _, z, rfl, rfl, h1, ez, k _ m2 z H2 q e12 ok2 rz⟩)
    · obtain ⟨p, ep, q⟩ := q2
      cases ry.int
      simp only [RD, RP] at rx2
      obtain ⟨a, vs, rfl, _, h1, h2⟩ := rx2
      obtain ⟨z, ez, rz⟩ := h2.at ep
      exact .inl ⟨a, vs, _, z, rfl, rfl, h1, ez, k _ m2 z H2 q e12 ok2 rz⟩
    · obtain ⟨xs, p, hm, ep, q⟩ := q2
      cases ry.int
      obtain ⟨rfl, _⟩ := rx2
      obtain ⟨vs, h1, h2⟩ := ok2.l hm
      obtain ⟨z, ez, rz⟩ := h2.at ep
      exact .inl ⟨_, vs, _, z, rfl, rfl, .inl (.inl h1), ez, k _ m2 z H2 q e12 ok2 rz⟩
    · obtain ⟨c, hz, ec, q⟩ := q2
      cases ry.int
      cases rx2.str
      exact .inr (.inr ⟨_, _, c, rfl, rfl, hz, ec, k _ m2 _ H2 q e12 ok2 .ofStr⟩)
    · exact q2.elim
abbrev DO := St2 → Mu → (Option Int → Mu → Prop) → Prop
def LO (K : PySem.W.Frag) (f : DO) : TO := fun s H Q => ∃ (Z : Addr → Prop) (d : St2) (m : Mu) (R : Option Int → Mu → Prop), Ok K Z m H ∧ RS K Z m H d s ∧ f d m R ∧
  ∀ x m' H', R x m' → Ext K Z m H m' H' → Ok K Z m' H' → Q x H'
@[simp] def dNoP : DO := fun _ m Q => Q none m
@[simp] def dPart (f : DE) : DO := fun d m Q => f d m fun x m1 => ∃ i, x = .dat (.int i) ∧ Q (some i) m1
theorem PO.imp {e : Option Expr} {t t' : TO} (h : PO X e t) (q : ∀ s H Q, t' s H Q → t s H Q) : PO X e t' := fun pins s d H Q I w => h pins s d H Q I (q _ _ _ w)
theorem lo_none : PO X none (LO X.K dNoP) := PO.imp po_none fun s H Q h => by
  obtain ⟨Z, d, m, R, ok, rs, h, k⟩ := h
  exact k none m H h Ext.refl ok
theorem lo_some (ha : PE X a (LE X.K f)) : PO X (some a) (LO X.K (dPart f)) := PO.imp (po_some ha) fun s H Q h => by
  obtain ⟨Z, d, m, R, ok, rs, h, k⟩ := h
  refine ⟨Z, d, m, _, ok, rs, h, fun x m1 v H1 ⟨i, e, q⟩ e1 ok1 rd => ?_⟩
  subst e
  exact ⟨i, rd.int, k _ m1 H1 q e1 ok1⟩
def cutP {α : Type} (xs : List α) (lo hi : Option Int) : List α := (xs.drop (HT.sIx xs.length 0 lo)).take (HT.sIx xs.length xs.length hi - HT.sIx xs.length 0 lo)
theorem RPs.cut {K : PySem.W.Frag} {Z : Addr → Prop} {m : Mu} {H : Hp} {xs : List PyData} {vs : List V} {lo hi : Option Int} (h : RPs K Z m H xs vs) : RPs K Z m H (cutP xs lo hi) (cutV vs lo hi) := by
  unfold cutP cutV
  rw [h.length]
  exact (h.drop _).take _
theorem cut_whole {α : Type} (xs : List α) {lo hi : Option Int} (h : HT.sIx xs.length 0 lo = 0 ∧ HT.sIx xs.length xs.length hi = xs.length) : cutP xs lo hi = xs := by
  unfold cutP
  rw [h.1, h.2]
  simp
def rSlW (K : PySem.W.Frag) : V → Option Int → Option Int → Hp → VK → Prop := fun x lo hi H Q => ∃ a xs, x = .ref a ∧ SqT K H a xs ∧
  (HT.sIx xs.length 0 lo = 0 ∧ HT.sIx xs.length xs.length hi = xs.length) ∧ Q (.ref a) H
theorem getItem_tuple_whole {prog : Program} {w : World} {A : Around} {E : Value → Shared → Prop} {s : Shared} {t sl : Addr} {items : Array Value} {vl vu : Value} {lo hi : Option Int} {Q : Value → Shared → Prop} (ht : IsTup s.heap t items) (hs : s.heap.IsSliceOf sl vl vu .none) (pl : IsPart vl lo) (pu : IsPart vu hi)
    (hw : HT.sIx items.size 0 lo = 0 ∧ HT.sIx items.size items.size hi = items.size)
    (h : Q (.ref t) s) : wpAny (model prog w) A (getItem (.ref t) (.ref sl)) Q E s := by
  obtain ⟨os, hos, hcs, hds⟩ := id hs
  have hTs : s.TypeIs (.ref sl) "slice" := ⟨os, hos, hcs⟩
  unfold getItem
  try with_reducible refine wpAny_holding ?_
  first | refine wpAny_bind (wpAny_pure ?_) | skip
  refine wpAny_bind (wpAny_sequenceKey ht.typeIs (by decide) ?_)
  refine wpAny_bind (wpAny_callSpecial?_slot (name := Str.ofString "__getitem__") ht.typeIs PyProof.Rows.slot_tuple_getitem
    (wpAny_call_entry PyProof.Rows.slot_tuple_getitem ht.typeIs entry_tuple_getitem ?_ (args_tuple_getitem _ _)))
  show wpAny _ _ (Builtin.Tuple.tupleItemsOf (.ref t) >>= _) _ _ s
  refine wpAny_bind (tupleItemsOf_ ht ?_)
  refine wpAny_bind (wpAny_typeOf hTs ?_)
  rw [if_pos (by decide)]
  refine wpAny_bind (HT.sliceApplied_gen hs pl pu ?_)
  have hyes : (((HT.sIx items.size 0 lo : Nat) : Int) == 0 && (1 : Int) == 1 && (HT.sIx items.size items.size hi - HT.sIx items.size 0 lo) == items.size) = true := by
    rw [hw.1, hw.2]
    simp
  show wpAny _ _ (if (((HT.sIx items.size 0 lo : Nat) : Int) == 0 && (1 : Int) == 1 && (HT.sIx items.size items.size hi - HT.sIx items.size 0 lo) == items.size) = true then _ else _) _ _ s
  rw [if_pos hyes]
  refine wpAny_bind ?_
  unfold Builtin.Tuple.tupleIsExact
  refine wpAny_bind (wpAny_typeOf ht.typeIs (wpAny_pure ?_))
  rw [if_pos (by decide)]
  first
    | exact wpAny_bind (wpAny_rule (wpAny_pure ⟨_, rfl, wpAny_pure h⟩))
    | exact wpAny_bind (wpAny_rule (wpAny_bind (wpAny_pure (wpAny_pure ⟨_, rfl, wpAny_pure h⟩))))
theorem sl_whole : SlR X (rSlW X.K) := by
  intro pins s σ H x v vl vu lo hi sl Q I rx hs pl pu h
  obtain ⟨a, xs, rfl, hx, hw, q⟩ := h
  cases rx
  obtain ⟨its, r, ht, hz⟩ := I.tuple hx
  have hlen : its.toArray.size = xs.length := by rw [List.size_toArray]; exact r.length.symm
  refine ⟨"tuple", _, PyProof.Rows.slot_tuple_getitem.lookup, ht.typeIs, ?_⟩
  exact getItem_tuple_whole ht hs pl pu (by rw [hlen]; exact hw) ⟨.ref a, H, I, rfl, q⟩
abbrev DC := List D → Mu → DK → Prop
def CallD (X : Cx) (fn : Value) (r : DC) : Prop :=
  ∀ (pins : List (Addr × Obj)) (s : Shared) (σ : L2.St) (H : Hp) (Z : Addr → Prop) (m : Mu) (xs : List V) (ds : List D) (us : List Value) (R : DK) (Q : VK), Inv X pins σ H s → Ok X.K Z m H → Vals xs us → RDs X.K Z m H ds xs → r ds m R →
    (∀ d m' v' H', R d m' → Ext X.K Z m H m' H' → Ok X.K Z m' H' → RD X.K Z m' H' d v' → Q v' H') → wpAny (model X.prog X.w) X.A (call fn us) (EP X pins σ Q) X.xe s
theorem CallD.cr {fn : Value} {r : DC} (h : CallD X fn r) : CallR X fn (fun vs H Q => ∃ Z m ds R, Ok X.K Z m H ∧ RDs X.K Z m H ds vs ∧ r ds m R ∧ ∀ d m' v' H', R d m' → Ext X.K Z m H m' H' → Ok X.K Z m' H' → RD X.K Z m' H' d v' → Q v' H') := by
  intro pins s σ H xs us Q I r1 ⟨Z, m, ds, R, ok, rd, q, k⟩
  exact h pins s σ H Z m xs ds us R Q I ok r1 rd q k
@[simp] def dCallB (r : DC) (g : DA) : DE := fun d m Q => g d m fun xs m1 => r xs m1 Q
theorem LE.call {r : DC} {H : Hp} {σ : L2.St} {Q : VK} (h : LE X.K (dCallB r ga) σ H Q) :
    LA X.K ga σ H fun vs H1 => ∃ Z m ds R, Ok X.K Z m H1 ∧ RDs X.K Z m H1 ds vs ∧ r ds m R ∧ ∀ d m' v' H', R d m' → Ext X.K Z m H1 m' H' → Ok X.K Z m' H' → RD X.K Z m' H' d v' → Q v' H' := by
  obtain ⟨Z, d, m, R, ok, rs, h, k⟩ := h
  exact ⟨Z, d, m, _, ok, rs, h, fun xs m1 vs H1 q e1 ok1 r1 => ⟨Z, m1, xs, R, ok1, r1, q, fun d' m' v' H' h1 h2 h3 h4 => k d' m' v' H' h1 (e1.trans h2) h3 h4⟩⟩
theorem le_callB {x : Str} {id : String} {r : DC} (hc : CallD X (.builtin id) r) (hg : Gl X x) (hm : X.mg x = none) (hv : bootBuiltins x = some (.builtin id)) (ha : PA X (e :: es) (LA X.K ga)) (hn : x ≠ "__name__" := by decide) (hdb : (x == ("__debug__" : Str)) = false := by decide)
    (he : starEach (e :: es) X.env = (false, eval e X.env) :: starEach es X.env := by rfl) (hpl : (backTo pos (starEach es X.env)).any (·.1) = false := by rfl) : PE X (.Call (.Name x p) (e :: es) [] pos) (LE X.K (dCallB r ga)) :=
  PE.imp (pe_callB hc.cr hg hm hv ha hn hdb he hpl) fun s H Q h => h.call
theorem le_callTy {x : Str} {T : String} {r : DC} (hc : CallD X (.type T) r) (hg : Gl X x) (hm : X.mg x = none) (hv : bootBuiltins x = some (.type T)) (ha : PA X (e :: es) (LA X.K ga)) (hn : x ≠ "__name__" := by decide) (hdb : (x == ("__debug__" : Str)) = false := by decide)
    (he : starEach (e :: es) X.env = (false, eval e X.env) :: starEach es X.env := by rfl) (hpl : (backTo pos (starEach es X.env)).any (·.1) = false := by rfl) : PE X (.Call (.Name x p) (e :: es) [] pos) (LE X.K (dCallB r ga)) :=
  PE.imp (pe_callTy hc.cr hg hm hv ha hn hdb he hpl) fun s H Q h => h.call
theorem RDs.one {K : PySem.W.Frag} {Z : Addr → Prop} {m : Mu} {H : Hp} {x : D} {vs : List V} (h : RDs K Z m H [x] vs) : ∃ v, vs = [v] ∧ RD K Z m H x v := by
  obtain ⟨v, r, h1, h2, h3⟩ := h
  cases (show r = [] from h3)
  exact ⟨v, h1, h2⟩
theorem RDs.two {K : PySem.W.Frag} {Z : Addr → Prop} {m : Mu} {H : Hp} {x y : D} {vs : List V} (h : RDs K Z m H [x, y] vs) : ∃ v w, vs = [v, w] ∧ RD K Z m H x v ∧ RD K Z m H y w := by
  obtain ⟨v, r, h1, h2, h3⟩ := h
  obtain ⟨w, rfl, h4⟩ := RDs.one h3
  exact ⟨v, w, h1, h2, h4⟩
@[simp] def bLen : DC
  | [.dat (.tuple xs)], m, Q => Q (.dat (.int xs.length)) m
  | [.dat (.list xs)], m, Q => Q (.dat (.int xs.length)) m
  | [.dat (.str z)], m, Q => z.length ≤ sizeLine ∧ Q (.dat (.int z.length)) m
  | [.cel a], m, Q => ∃ xs, m a = some (.l xs) ∧ Q (.dat (.int xs.length)) m
  | _, _, _ => False
theorem cd_len : CallD X (.builtin "len") bLen := by
  intro pins s σ H Z m xs ds us R Q I ok rv rd h k
  unfold bLen at h
  split at h
  · obtain ⟨v, rfl, r1⟩ := rd.one
    simp only [RD, RP] at r1
    obtain ⟨a, vs, rfl, h1, h2⟩ := r1
    refine call_len_seq pins s σ H _ us Q I rv ⟨a, vs, rfl, .inr h1, ?_⟩
    rw [h2.length]
    exact k _ m _ H h Ext.refl ok .ofInt
  · obtain ⟨v, rfl, r1⟩ := rd.one
    simp only [RD, RP] at r1
    obtain ⟨a, vs, rfl, _, h1, h2⟩ := r1
    refine call_len_seq pins s σ H _ us Q I rv ⟨a, vs, rfl, .inl h1, ?_⟩
    rw [h2.length]
    exact k _ m _ H h Ext.refl ok .ofInt
  · obtain ⟨v, rfl, r1⟩ := rd.one
    cases r1.str
    exact call_len_str pins s σ H _ us Q I rv ⟨_, rfl, h.1, k _ m _ H h.2 Ext.refl ok .ofInt⟩
  · obtain ⟨v, rfl, r1⟩ := rd.one
    obtain ⟨rfl, _⟩ := r1
    obtain ⟨ys, hm, q⟩ := h
    obtain ⟨vs, h1, h2⟩ := ok.l hm
    refine call_len_seq pins s σ H _ us Q I rv ⟨_, vs, rfl, .inl (.inl (.inl h1)), ?_⟩
    rw [h2.length]
    exact k _ m _ H q Ext.refl ok .ofInt
  · exact h.elim
@[simp] def bInt : DC
  | [.dat (.int i)], m, Q => Q (.dat (.int i)) m
  | [.dat (.bool b)], m, Q => Q (.dat (.int (if b then 1 else 0))) m
  | _, _, _ => False
theorem cd_int : CallD X (.type "int") bInt := by
  intro pins s σ H Z m xs ds us R Q I ok rv rd h k
  unfold bInt at h
  split at h
  · obtain ⟨v, rfl, r1⟩ := rd.one
    cases r1.int
    exact call_int1 pins s σ H _ us Q I rv (.inl ⟨_, rfl, k _ m _ H h Ext.refl ok .ofInt⟩)
  · obtain ⟨v, rfl, r1⟩ := rd.one
    cases r1.bl
    exact call_int1 pins s σ H _ us Q I rv (.inr ⟨_, rfl, k _ m _ H h Ext.refl ok .ofInt⟩)
  · exact h.elim
@[simp] def bList : DC
  | [.dat (.tuple xs)], m, Q => Q (.dat (.list xs)) m
  | [.dat (.list xs)], m, Q => Q (.dat (.list xs)) m
  | _, _, _ => False
theorem cd_list : CallD X (.type "list") bList := by
  intro pins s σ H Z m xs ds us R Q I ok rv rd h k
  unfold bList at h
  split at h
  · obtain ⟨v, rfl, r1⟩ := rd.one
    simp only [RD, RP] at r1
    obtain ⟨a, vs, rfl, h1, h2⟩ := r1
    refine call_list_of pins s σ H _ us Q I rv ⟨a, vs, rfl, .inr h1, fun l hl => ?_⟩
    have sm : Same H (upd H l (.lst vs)) := same_new hl
    refine k _ m _ _ h (ok.ext sm) (ok.grow sm) ?_
    simp only [RD, RP]
    exact ⟨l, vs, rfl, ok_none ok hl, .inl (.inl upd_same), RPs.ext (ok.ext sm) _ _ h2⟩
  · obtain ⟨v, rfl, r1⟩ := rd.one
    simp only [RD, RP] at r1
    obtain ⟨a, vs, rfl, _, h1, h2⟩ := r1
    refine call_list_of pins s σ H _ us Q I rv ⟨a, vs, rfl, .inl h1, fun l hl => ?_⟩
    have sm : Same H (upd H l (.lst vs)) := same_new hl
    refine k _ m _ _ h (ok.ext sm) (ok.grow sm) ?_
    simp only [RD, RP]
    exact ⟨l, vs, rfl, ok_none ok hl, .inl (.inl upd_same), RPs.ext (ok.ext sm) _ _ h2⟩
  · exact h.elim
@[simp] def bRepr : DC
  | [.dat p], m, Q => p.showable = true ∧ p.shown.length ≤ sizeLine ∧ p.depth ≤ 100 ∧ Q (.dat (.str p.shown)) m
  | _, _, _ => False
theorem cd_repr (hu : X.A.units + 200 < cLine) (hg : X.A.guards = some []) : CallD X (.builtin "repr") bRepr := by
  intro pins s σ H Z m xs ds us R Q I ok rv rd h k
  unfold bRepr at h
  split at h
  · rename_i p
    obtain ⟨v, rfl, r1⟩ := rd.one
    obtain ⟨u, rfl, ru⟩ := vals1 rv
    obtain ⟨h1, h2, h3, h4⟩ := h
    have fin : ∀ (tk tk' : Nat), EP X pins σ Q (.str p.shown tk) { s with toks := tk' } := fun tk tk' => ⟨.str p.shown, H, I.tok _, ⟨_, rfl⟩, k _ m _ H h4 Ext.refl ok .ofStr⟩
    have nd := RP.noDict X.K p v r1 h1
    obtain ⟨as, rd⟩ := RP.reads I p v u r1 ru
    cases rd with
    | none => exact PySem.P.repr_of_none (fin _ _)
    | bool b => exact PySem.P.repr_of_bool (by simpa only [PyData.shown] using fin _ _)
    | int i t => exact PySem.P.repr_of_int (by simpa [PyData.showable] using h1) (by simpa only [PyData.shown] using fin _ _)
    | str x t => exact PySem.P.repr_of_str (by simpa only [PyData.shown] using fin _ _) (by simpa only [PyData.shown] using h2)
    | list q1 q2 q3 q4 =>
      refine repr_of_reads' (.list q1 q2 q3 q4) h1 (PyData.noDict_hsm nd) hg (by omega) (fun _ _ e => e) (fun h' u tk kp => ⟨.str _, H, I.kept kp, ⟨_, rfl⟩, k _ m _ H h4 Ext.refl ok .ofStr⟩) h2
    | tuple q1 q2 q3 q4 =>
      refine repr_of_reads' (.tuple q1 q2 q3 q4) h1 (PyData.noDict_hsm nd) hg (by omega) (fun _ _ e => e) (fun h' u tk kp => ⟨.str _, H, I.kept kp, ⟨_, rfl⟩, k _ m _ H h4 Ext.refl ok .ofStr⟩) h2
    | dict q1 q2 q3 q4 q5 => simp only [PyData.hasDict] at nd; cases nd
  · exact h.elim
end
end DL
set_option Elab.async false
set_option linter.all false
set_option maxRecDepth 100000
set_option maxHeartbeats 4000000
namespace DL
open PySem PySem.Spec PyProof.Rows L2
section
variable {X : Cx} {st : Stmt} {rest body orelse : List Stmt} {t u b : DS} {e c tg iter : Expr} {f : DE} {tc : DT} {pos : Pos}
@[simp] def dNext : DS := fun E d m => E.nx d m
@[simp] def dSeq (t u : DS) : DS := fun E d m => t { E with nx := u E } d m
theorem lss_nil : PSs X [] (LS X.K dNext) := PSs.imp pss_nil fun E s H h => by
  obtain ⟨Z, d, m, R, ok, rs, h, k, _⟩ := h
  exact k d m s H h Ext.refl ok rs
theorem lss_cons (h1 : PS X st (LS X.K t)) (h2 : PSs X rest (LS X.K u)) : PSs X (st :: rest) (LS X.K (dSeq t u)) := PSs.imp (pss_cons h1 h2) fun E s H h => by
  obtain ⟨Z, d, m, R, ok, rs, h, kn, kr, kb, kc⟩ := h
  refine ⟨Z, d, m, _, ok, rs, h, fun d' m' s' H' q e1 ok1 rs1 => ⟨Z, d', m', R, ok1, rs1, q, ?_, ?_, ?_, ?_⟩, kr, kb, kc⟩
  · exact fun d2 m2 s2 H2 q2 e2 ok2 rs2 => kn d2 m2 s2 H2 q2 (e1.trans e2) ok2 rs2
  · exact fun x m2 v H2 q2 e2 ok2 r2 => kr x m2 v H2 q2 (e1.trans e2) ok2 r2
  · exact fun d2 m2 s2 H2 q2 e2 ok2 rs2 => kb d2 m2 s2 H2 q2 (e1.trans e2) ok2 rs2
  · exact fun d2 m2 s2 H2 q2 e2 ok2 rs2 => kc d2 m2 s2 H2 q2 (e1.trans e2) ok2 rs2
@[simp] def dExpr (f : DE) : DS := fun E d m => f d m fun _ m1 => E.nx d m1
theorem ls_expr (he : PE X e (LE X.K f)) (hs : swapsWith e none pos.line X.env = pure false := by rfl) : PS X (.Expr e pos) (LS X.K (dExpr f)) := PS.imp (ps_expr he hs) fun E s H h => by
  obtain ⟨Z, d, m, R, ok, rs, h, k, _⟩ := h
  exact ⟨Z, d, m, _, ok, rs, h, fun x m1 v H1 q e1 ok1 r1 => k d m1 s H1 q e1 ok1 (rs.ext e1)⟩
@[simp] def dRet (f : DE) : DS := fun E d m => f d m E.rt
theorem ls_ret (he : PE X e (LE X.K f)) : PS X (.Return (some e) pos) (LS X.K (dRet f)) := PS.imp (ps_ret he) fun E s H h => by
  obtain ⟨Z, d, m, R, ok, rs, h, _, kr, _⟩ := h
  exact ⟨Z, d, m, _, ok, rs, h, fun x m1 v H1 q e1 ok1 r1 => kr x m1 v H1 q e1 ok1 r1⟩
@[simp] def dIf (c : DT) (t u : DS) : DS := fun E d m => c d m fun k m1 => if k = true then t E d m1 else u E d m1
theorem ls_if (hc : PT X c (LT X.K tc)) (h1 : PSs X body (LS X.K t)) (h2 : PSs X orelse (LS X.K u)) : PS X (.If c body orelse pos) (LS X.K (dIf tc t u)) := PS.imp (ps_if hc h1 h2) fun E s H h => by
  obtain ⟨Z, d, m, R, ok, rs, h, kn, kr, kb, kc⟩ := h
  refine ⟨Z, d, m, _, ok, rs, h, fun k m1 H1 q e1 ok1 => ?_⟩
  have mk : ∀ {z : DS}, z R d m1 → LS X.K z E s H1 := fun q => ⟨Z, d, m1, R, ok1, rs.ext e1, q,
    fun d2 m2 s2 H2 q2 e2 ok2 rs2 => kn d2 m2 s2 H2 q2 (e1.trans e2) ok2 rs2, fun x m2 v H2 q2 e2 ok2 r2 => kr x m2 v H2 q2 (e1.trans e2) ok2 r2,
    fun d2 m2 s2 H2 q2 e2 ok2 rs2 => kb d2 m2 s2 H2 q2 (e1.trans e2) ok2 rs2, fun d2 m2 s2 H2 q2 e2 ok2 rs2 => kc d2 m2 s2 H2 q2 (e1.trans e2) ok2 rs2⟩
  cases k with
  | true => exact iteT (mk (by simpa using q))
  | false => exact iteF (mk (by simpa using q))
@[simp] def dSet (i : Nat) (f : DE) : DS := fun E d m => f d m fun x m1 => E.nx (d.set i (some x)) m1
theorem ls_set (i : Nat) {x : Str} {pos' : Pos} (hN : X.N.Nodup) (he : PE X e (LE X.K f)) (hi : X.N[i]? = some x := by rfl) (hx : Loc X.env.scope x := by first | exact Or.inl rfl | exact Or.inr rfl)
    (hs : swapsWith e (some (.Name x pos')) pos.line X.env = pure false := by rfl) (hf : X.fn x = true ∨ X.env.scope.names.lookup x = some .local := by first | exact .inl rfl | exact .inr rfl) :
    PS X (.Assign [.Name x pos'] e pos) (LS X.K (dSet i f)) := PS.imp (ps_set hN hi hx he hs hf) fun E s H h => by
  obtain ⟨Z, d, m, R, ok, rs, h, k, _⟩ := h
  exact ⟨Z, d, m, _, ok, rs, h, fun x m1 v H1 q e1 ok1 r1 => k _ m1 _ H1 q e1 ok1 ((rs.ext e1).set r1)⟩
abbrev DG := D → St2 → Mu → (St2 → Mu → Prop) → Prop
abbrev DGs := List PyData → St2 → Mu → (St2 → Mu → Prop) → Prop
def LG (K : PySem.W.Frag) (g : DG) : TG := fun v s H Q => ∃ Z x d m R, Ok K Z m H ∧ RS K Z m H d s ∧ RD K Z m H x v ∧ g x d m R ∧ ∀ d' m' s' H', R d' m' → Ext K Z m H m' H' → Ok K Z m' H' → RS K Z m' H' d' s' → Q s' H'
def LGs (K : PySem.W.Frag) (g : DGs) : TGs := fun vs s H Q => ∃ Z ps d m R, Ok K Z m H ∧ RS K Z m H d s ∧ RPs K Z m H ps vs ∧ g ps d m R ∧ ∀ d' m' s' H', R d' m' → Ext K Z m H m' H' → Ok K Z m' H' → RS K Z m' H' d' s' → Q s' H'
theorem PG.imp {t t' : TG} (h : PG X e t) (q : ∀ v s H Q, t' v s H Q → t v s H Q) : PG X e t' := fun pins s d H v u Q I r w => h pins s d H v u Q I r (q _ _ _ _ w)
theorem PGs.imp {es : List Expr} {t t' : TGs} (h : PGs X es t) (q : ∀ v s H Q, t' v s H Q → t v s H Q) : PGs X es t' := fun pins s d H v u Q I r w => h pins s d H v u Q I r (q _ _ _ _ w)
@[simp] def gN (i : Nat) : DG := fun x d m Q => Q (d.set i (some x)) m
theorem lg_name (i : Nat) {x : Str} (hN : X.N.Nodup) (hi : X.N[i]? = some x := by rfl) (hx : Loc X.env.scope x := by first | exact Or.inl rfl | exact Or.inr rfl)
    (hf : X.fn x = true ∨ X.env.scope.names.lookup x = some .local := by first | exact .inl rfl | exact .inr rfl) : PG X (.Name x pos) (LG X.K (gN i)) := PG.imp (pg_name hN hi hx hf) fun v s H Q h => by
  obtain ⟨Z, x, d, m, R, ok, rs, rd, h, k⟩ := h
  exact k _ m _ H h Ext.refl ok (rs.set rd)
@[simp] def gN0 : DGs := fun ps d m Q => ps = [] ∧ Q d m
@[simp] def gNs (g : DG) (r : DGs) : DGs
  | p :: qs, d, m, Q => g (.dat p) d m fun d' m' => r qs d' m' Q
  | [], _, _, _ => False
theorem lgs_nil : PGs X [] (LGs X.K gN0) := PGs.imp pgs_nil fun vs s H Q h => by
  obtain ⟨Z, ps, d, m, R, ok, rs, rp, ⟨rfl, h⟩, k⟩ := h
  simp only [RPs] at rp
  exact ⟨rp, k d m s H h Ext.refl ok rs⟩
theorem lgs_cons {es : List Expr} {g : DG} {r : DGs} (h1 : PG X e (LG X.K g)) (h2 : PGs X es (LGs X.K r)) (hs : (assignEach (e :: es) X.env).map (·.2) = assign e X.env :: (assignEach es X.env).map (·.2) := by rfl) :
    PGs X (e :: es) (LGs X.K (gNs g r)) := PGs.imp (pgs_cons h1 h2 hs) fun vs s H Q h => by
  obtain ⟨Z, ps, d, m, R, ok, rs, rp, h, k⟩ := h
  match ps, rp, h with
  | [], _, h => exact h.elim
  | p :: qs, rp, h =>
  simp only [RPs] at rp
  obtain ⟨v, w, rfl, r1, r2⟩ := rp
  exact ⟨v, w, rfl, Z, .dat p, d, m, _, ok, rs, r1, h, fun d' m' s' H' q e1 ok1 rs1 => ⟨Z, qs, d', m', R, ok1, rs1, RPs.ext e1 _ _ r2, q, fun d2 m2 s2 H2 q2 e2 ok2 rs2 => k d2 m2 s2 H2 q2 (e1.trans e2) ok2 rs2⟩⟩
@[simp] def gT (n : Nat) (g : DGs) : DG := fun x d m Q => ∃ ps, x = .dat (.tuple ps) ∧ ps.length = n ∧ g ps d m Q
theorem lg_tup {es : List Expr} {j n : Nat} {g : DGs} (hc : X.calm = true) (h : PGs X es (LGs X.K g)) (hn : (assignEach es X.env).length = n := by rfl) (hst : (assignEach es X.env).findIdx? (·.1) = none := by rfl) :
    PG X (.Tuple es j pos) (LG X.K (gT n g)) := PG.imp (pg_tup hc h hn hst) fun v s H Q h => by
  obtain ⟨Z, x, d, m, R, ok, rs, rd, ⟨ps, rfl, hl, h⟩, k⟩ := h
  simp only [RD, RP] at rd
  obtain ⟨a, vs, rfl, h1, h2⟩ := rd
  exact ⟨a, vs, rfl, h1, by rw [h2.length]; exact hl, Z, ps, d, m, R, ok, rs, h2, h, k⟩
abbrev DI := St2 → Mu → (List D → Mu → Prop) → Prop
def Yld (K : PySem.W.Frag) (Z : Addr → Prop) (m : Mu) (H : Hp) (x : D) (v : V) (H2 H3 : Hp) : Prop :=
  (H3 = H2 ∧ RD K Z m H x v) ∨ ∃ p ps vs, x = .dat (.tuple ps) ∧ v = .ref p ∧ H2 p = none ∧ H3 = upd H2 p (.tup vs) ∧ RPs K Z m H ps vs
theorem Yld.same {K : PySem.W.Frag} {Z : Addr → Prop} {m : Mu} {H H2 H3 : Hp} {x : D} {v : V} (h : Yld K Z m H x v H2 H3) : Same H2 H3 := by
  rcases h with ⟨rfl, _⟩ | ⟨p, ps, vs, _, _, hp, rfl, _⟩
  · exact fun _ _ q => q
  · exact same_new hp
theorem Yld.rd {K : PySem.W.Frag} {Z Z' : Addr → Prop} {m m' : Mu} {H H2 H3 : Hp} {x : D} {v : V} (tr : ∀ d v, RD K Z m H d v → RD K Z' m' H2 d v) (ok : Ok K Z' m' H2) (h : Yld K Z m H x v H2 H3) : RD K Z' m' H3 x v := by
  rcases h with ⟨rfl, h⟩ | ⟨p, ps, vs, rfl, rfl, hp, rfl, h⟩
  · exact tr _ _ h
  · have h2 := RPs.lift (fun p v q => tr (.dat p) v q) h
    simp only [RD, RP]
    exact ⟨p, vs, rfl, .inl (.inl upd_same), RPs.ext (ok.ext (same_new hp)) _ _ h2⟩
structure ExtY (K : PySem.W.Frag) (Z : Addr → Prop) (m : Mu) (H : Hp) (m' : Mu) (H' : Hp) : Prop where
  t : ∀ a vs, SqT K H a vs → SqT K H' a vs
  l : ∀ a vs, (m a = none ∧ ¬ Z a) → SqL K H a vs → m' a = none ∧ SqL K H' a vs
  fz : ∀ a o u, H a = some (.frz o u) → H' a = some (.frz o u)
theorem Ext.y {K : PySem.W.Frag} {Z : Addr → Prop} {m m' : Mu} {H H' : Hp} (e : Ext K Z m H m' H') : ExtY K Z m H m' H' := ⟨e.t, e.l, e.fz⟩
def Yields (K : PySem.W.Frag) (Z : Addr → Prop) (m : Mu) (H : Hp) (xs : List D) (J : It) : Prop := ∀ m2 H2, ExtY K Z m H m2 H2 →
  (∀ (i : Nat) (x : D), xs[i]? = some x → J.go i H2 ∧ ∀ v H3, J.yld i H2 v H3 → Yld K Z m H x v H2 H3) ∧ J.stop xs.length H2
def LI (K : PySem.W.Frag) (fi : DI) : TI := fun s H R => ∃ (Z : Addr → Prop) (d : St2) (m : Mu) (ZZ : List D → Mu → Prop), Ok K Z m H ∧ RS K Z m H d s ∧ fi d m ZZ ∧
  ∀ xs m' H' J, ZZ xs m' → Ext K Z m H m' H' → Ok K Z m' H' → Yields K Z m' H' xs J → R J H'
@[simp] def dSeqI (f : DE) : DI := fun d m Q => f d m fun x m1 => (∃ ps, x = .dat (.list ps) ∧ Q (ps.map .dat) m1) ∨ (∃ ps, x = .dat (.tuple ps) ∧ Q (ps.map .dat) m1)
theorem PI.imp {t t' : TI} (h : PI X tg e t) (q : ∀ s H R, t' s H R → t s H R) : PI X tg e t' := fun pins s d H R I w => h pins s d H R I (q _ _ _ w)
theorem get_map {ps : List PyData} {i : Nat} {x : D} (h : (ps.map D.dat)[i]? = some x) : ∃ p, ps[i]? = some p ∧ x = .dat p := by
  rw [List.getElem?_map] at h
  cases e : ps[i]? with
  | none => rw [e] at h; cases h
  | some p => rw [e] at h; cases h; exact ⟨p, rfl, rfl⟩
theorem yields_list {K : PySem.W.Frag} {Z : Addr → Prop} {m : Mu} {H : Hp} {a : Addr} {vs : List V} {ps : List PyData} (h0 : m a = none ∧ ¬ Z a) (h1 : SqL K H a vs) (h2 : RPs K Z m H ps vs) : Yields K Z m H (ps.map .dat) (Itl K a) := by
  intro m2 H2 e
  obtain ⟨q0, q1⟩ := e.l a vs h0 h1
  have q2 := h2
  refine ⟨fun i x hx => ?_, ⟨vs, q1, by rw [q2.length, List.length_map]; exact Nat.le_refl _⟩⟩
  obtain ⟨p, hp, rfl⟩ := get_map hx
  obtain ⟨v, hv, rv⟩ := h2.get hp
  refine ⟨⟨vs, v, q1, hv⟩, fun v' H3 y => .inl ⟨y.1, ?_⟩⟩
  have := y.2 vs q1
  rw [hv] at this
  cases this
  exact rv
theorem yields_tup {K : PySem.W.Frag} {Z : Addr → Prop} {m : Mu} {H : Hp} {a : Addr} {vs : List V} {ps : List PyData} (h1 : SqT K H a vs) (h2 : RPs K Z m H ps vs) : Yields K Z m H (ps.map .dat) (Itt K a) := by
  intro m2 H2 e
  have q1 := e.t a vs h1
  have q2 := h2
  refine ⟨fun i x hx => ?_, ⟨vs, q1, by rw [q2.length, List.length_map]; exact Nat.le_refl _⟩⟩
  obtain ⟨p, hp, rfl⟩ := get_map hx
  obtain ⟨v, hv, rv⟩ := h2.get hp
  refine ⟨⟨vs, v, q1, hv⟩, fun v' H3 y => .inl ⟨y.1, ?_⟩⟩
  have := y.2 vs q1
  rw [hv] at this
  cases this
  exact rv
theorem pi_seq {l : Expr} {tl : TE} (hl : PE X l tl) : PI X tg l (fun s H R => tl s H fun x H1 => (∃ a, x = .ref a ∧ (∃ xs, SqL X.K H1 a xs) ∧ R (Itl X.K a) H1) ∨ (∃ a, x = .ref a ∧ (∃ xs, SqT X.K H1 a xs) ∧ R (Itt X.K a) H1)) := by
  intro pins s σ H R I h
  refine thn (hl pins s σ H _ I h) fun v s1 ⟨x, H1, I1, r1, q1⟩ => ?_
  rcases q1 with ⟨a, e, ⟨xs, hq⟩, q⟩ | ⟨a, e, ⟨xs, hq⟩, q⟩
  · subst e
    cases r1
    obtain ⟨its, rv, p, hz⟩ := I1.list hq
    refine wpAny_pyIter_list p.isList ?_
    refine ⟨s1.heap.objs.size, [s1.heap.objs.size], _, _, H1, rfl, I1.kept (t' := s1.toks) fun b o e => Heap.get?_push_of_some _ e, turn_list a _, ⟨_, Heap.get?_push_size _ rfl, rfl, rfl⟩, fun b hb => ?_, q⟩
    have e : b = s1.heap.objs.size := by simpa using hb
    subst e
    exact I1.fpOk (Nat.le_refl _) (I1.hok.fresh (Nat.le_refl _))
  · subst e
    cases r1
    obtain ⟨its, rv, p, hz⟩ := I1.tuple hq
    refine wpAny_pyIter_tuple (show s1.heap.IsTuple a its.toArray from p) ?_
    refine ⟨s1.heap.objs.size, [s1.heap.objs.size], _, _, H1, rfl, I1.kept (t' := s1.toks) fun b o e => Heap.get?_push_of_some _ e, turn_tuple a _, ⟨_, Heap.get?_push_size _ rfl, rfl, rfl⟩, fun b hb => ?_, q⟩
    have e : b = s1.heap.objs.size := by simpa using hb
    subst e
    exact I1.fpOk (Nat.le_refl _) (I1.hok.fresh (Nat.le_refl _))
theorem li_seq (ha : PE X e (LE X.K f)) : PI X tg e (LI X.K (dSeqI f)) := PI.imp (pi_seq ha) fun s H R h => by
  obtain ⟨Z, d, m, ZZ, ok, rs, h, k⟩ := h
  refine ⟨Z, d, m, _, ok, rs, h, fun x m1 v H1 q e1 ok1 rd => ?_⟩
  rcases q with ⟨ps, rfl, q⟩ | ⟨ps, rfl, q⟩
  · simp only [RD, RP] at rd
    obtain ⟨a, vs, rfl, h0, h1, h2⟩ := rd
    exact .inl ⟨a, rfl, ⟨vs, h1⟩, k _ m1 H1 _ q e1 ok1 (yields_list h0 h1 h2)⟩
  · simp only [RD, RP] at rd
    obtain ⟨a, vs, rfl, h1, h2⟩ := rd
    exact .inr ⟨a, rfl, ⟨vs, h1⟩, k _ m1 H1 _ q e1 ok1 (yields_tup h1 h2)⟩
def intsD (lo : Int) (n : Nat) : List D := (List.range n).map fun i => .dat (.int (lo + (i : Nat)))
@[simp] def dRngI (f : DE) : DI := fun d m Q => f d m fun x m1 => ∃ j : Int, x = .dat (.int j) ∧ -(2 ^ 62) ≤ j ∧ j < 2 ^ 62 ∧ Q (intsD 0 j.toNat) m1
theorem li_range {p : Pos} (hg : Gl X "range") (hm : X.mg "range" = none) (ha : PE X e (LE X.K f)) (hs : starEach [e] X.env = [(false, eval e X.env)] := by rfl) : PI X tg (.Call (.Name "range" p) [e] [] pos) (LI X.K (dRngI f)) :=
  PI.imp (pi_range1 hg hm (pa_cons ha pa_nil (by rw [hs]; rfl)) hs) fun s H R h => by
    obtain ⟨Z, d, m, ZZ, ok, rs, h, k⟩ := h
    refine ⟨Z, d, m, _, ok, rs, h, fun x m1 v H1 ⟨j, e, h1, h2, q⟩ e1 ok1 rd => ?_⟩
    subst e
    cases rd.int
    show ∃ j' : Int, [V.int j] = [V.int j'] ∧ _
    refine ⟨j, rfl, h1, h2, k _ m1 H1 _ q e1 ok1 fun m2 H2 e2 => ⟨fun i x hx => ?_, ?_⟩⟩
    · unfold intsD at hx
      rw [List.getElem?_map] at hx
      cases ei : (List.range j.toNat)[i]? with
      | none => rw [ei] at hx; cases hx
      | some i' =>
        rw [ei] at hx
        cases hx
        have hl := (List.getElem?_eq_some_iff.mp ei).1
        have hi : i' = i := by
          obtain ⟨_, z⟩ := List.getElem?_eq_some_iff.mp ei
          rw [List.getElem_range] at z
          exact z.symm
        subst hi
        rw [List.length_range] at hl
        refine ⟨hl, fun v' H3 y => .inl ⟨y.1, ?_⟩⟩
        rw [y.2]
        exact .ofInt
    · show j.toNat ≤ (intsD 0 j.toNat).length
      unfold intsD
      rw [List.length_map, List.length_range]
      exact Nat.le_refl _
def loopL (g : DG) (b : DS) (E : Ends2) : List D → St2 → Mu → Prop
  | [], d, m => E.nx d m
  | x :: xs, d, m => g x d m fun d' m' => b { E with nx := loopL g b E xs, ct := loopL g b E xs, bk := E.nx } d' m'
@[simp] def dFor (fi : DI) (g : DG) (b : DS) : DS := fun E d m => fi d m fun xs m1 => loopL g b E xs d m1
theorem ls_for {fi : DI} {g : DG} (hp : PassesOwn (model X.prog X.w) X.A X.env X.xe) (hc : X.calm = true) (hi : PI X tg iter (LI X.K fi)) (hg : PG X tg (LG X.K g)) (hb : PSs X body (LS X.K b))
    (hs : ∀ x, foldedSetIterable iter X.env x = pure x := by intro _; rfl) : PS X (.For tg iter body [] pos) (LS X.K (dFor fi g b)) := PS.imp (ps_for hp hc hi hg hb hs) fun E s H h => by
  obtain ⟨Z, d, m, R, ok, rs, h, kn, kr, kb, kc⟩ := h
  refine ⟨Z, d, m, _, ok, rs, h, fun xs m1 H1 J q e1 ok1 yl => ?_⟩
  refine ⟨fun i n s' H' => ∃ d' m', n = xs.length - i ∧ i ≤ xs.length ∧ Ext X.K Z m1 H1 m' H' ∧ Ok X.K Z m' H' ∧ RS X.K Z m' H' d' s' ∧ loopL g b R (xs.drop i) d' m', ⟨xs.length, d, m1, by simp, Nat.zero_le _, Ext.refl, ok1, rs.ext e1, by simpa using q⟩, ?_⟩
  rintro i n s2 H2 ⟨d2, m2, rfl, hi, e2, ok2, rs2, w⟩
  obtain ⟨y1, y2⟩ := yl m2 H2 e2.y
  by_cases hl : i < xs.length
  · rw [List.drop_eq_getElem_cons hl] at w
    obtain ⟨go, yd⟩ := y1 i xs[i] (List.getElem?_eq_getElem hl)
    refine .inr ⟨go, fun s' H' => ∃ d' m', Ext X.K Z m1 H1 m' H' ∧ Ok X.K Z m' H' ∧ RS X.K Z m' H' d' s' ∧ loopL g b R (xs.drop (i + 1)) d' m', fun s' H' ⟨d', m', g1, g2, g3, g4⟩ => ⟨xs.length - (i + 1), by omega, d', m', rfl, hl, g1, g2, g3, g4⟩, fun v H3 y => ?_⟩
    have yy := yd v H3 y
    have e2' := e2.trans (ok2.ext yy.same)
    refine ⟨Z, xs[i], d2, m2, _, ok2.grow yy.same, rs2.ext (ok2.ext yy.same), yy.rd (fun d v h => h.ext e2) ok2, w, fun d3 m3 s3 H3 q3 e3 ok3 rs3 => ?_⟩
    have e23 := e2'.trans e3
    have e13 := e1.trans e23
    exact ⟨Z, d3, m3, _, ok3, rs3, q3, fun d4 m4 s4 H4 q4 e4 ok4 rs4 => ⟨d4, m4, e23.trans e4, ok4, rs4, q4⟩, fun x m4 v H4 q4 e4 ok4 r4 => kr x m4 v H4 q4 (e13.trans e4) ok4 r4,
      fun d4 m4 s4 H4 q4 e4 ok4 rs4 => kn d4 m4 s4 H4 q4 (e13.trans e4) ok4 rs4, fun d4 m4 s4 H4 q4 e4 ok4 rs4 => ⟨d4, m4, e23.trans e4, ok4, rs4, q4⟩⟩
  · have e : i = xs.length := by omega
    subst e
    rw [List.drop_length] at w
    exact .inl ⟨y2, kn d2 m2 s2 H2 w (e1.trans e2) ok2 rs2⟩
end
end DL
set_option Elab.async false
set_option linter.all false
set_option maxRecDepth 100000
set_option maxHeartbeats 4000000
namespace DL
open PySem PySem.Spec PyProof.Rows L2
section
variable {prog : Program} {w : World} {A : Around} {E : Value → Shared → Prop} {s : Shared}
end
section
variable {X : Cx} {a e : Expr} {es : List Expr} {f : DE} {ga : DA} {pos p p1 p2 p3 p4 : Pos}
@[simp] def tyName : PyData → String
  | .none => "NoneType"
  | .bool _ => "bool"
  | .int _ => "int"
  | .str _ => "str"
  | .list _ => "list"
  | .tuple _ => "tuple"
  | .dict _ => "dict"
@[simp] def isK (q : PyData) (c : String) : Bool := tyName q == c || (tyName q == "bool" && c == "int")
def LSp (K : PySem.W.Frag) (n : Nat) (sp : DC) : Sp := fun vs H Q _ => ∃ Z ds m R, Ok K Z m H ∧ RDs K Z m H ds vs ∧ ds.length = n ∧ sp ds m R ∧ ∀ d m' v' H', R d m' → Ext K Z m H m' H' → Ok K Z m' H' → RD K Z m' H' d v' → Q v' H'
theorem LSp.len {K : PySem.W.Frag} {n : Nat} {sp : DC} {vs : List V} {H : Hp} {Q : VK} {E : XK} (h : LSp K n sp vs H Q E) : vs.length = n := by
  obtain ⟨Z, ds, m, R, _, rd, hl, _⟩ := h
  rw [rd.length]
  exact hl
@[simp] def dCall (n : Nat) (sp : DC) (g : DA) : DE := fun d m Q => g d m fun xs m1 => xs.length = n ∧ sp xs m1 Q
theorem le_call {k n : Nat} {fa : Addr} {fd : FuncData} {ps : List Str} {sp : DC} {x : Str} (F : FnOk X.prog X.w X.K X.mg X.base CX0 k fa fd ps (LSp X.K n sp)) (hr : Room k X.A) (hm : X.mg x = some (.ref fa)) (hk : PySem.W.keepIn X.K (.ref fa) = true)
    (hb : Binds X.K fd ps []) (hx : X.xe = fun _ _ => False) (ha : PA X (e :: es) (LA X.K ga)) (hg : Gl X x := by rfl) (hdb : (x == ("__debug__" : Str)) = false := by decide)
    (he : starEach (e :: es) X.env = (false, eval e X.env) :: starEach es X.env := by rfl) (hpl : (backTo pos (starEach es X.env)).any (·.1) = false := by rfl) : PE X (.Call (.Name x p) (e :: es) [] pos) (LE X.K (dCall n sp ga)) :=
  PE.imp (pe_call F hr hg hm hk hb .nil (pass0 (X := X)) ha hdb he hpl) fun s H Q h => by
    obtain ⟨Z, d, m, R, ok, rs, h, k⟩ := h
    refine ⟨Z, d, m, _, ok, rs, h, fun xs m1 vs H1 ⟨hl, q⟩ e1 ok1 rd => ⟨Z, xs, m1, R, ok1, by simpa using rd, hl, q, fun d' m' v' H' h1 h2 h3 h4 => k d' m' v' H' h1 (e1.trans h2) h3 h4⟩⟩
@[simp] def start2 (N : List Str) (ds : List D) : St2 := ds.map some ++ List.replicate (N.length - ds.length) none
theorem RDs.get {K : PySem.W.Frag} {Z : Addr → Prop} {m : Mu} {H : Hp} : ∀ {xs : List D} {vs : List V} {i : Nat} {x : D}, RDs K Z m H xs vs → xs[i]? = some x → ∃ v, vs[i]? = some v ∧ RD K Z m H x v
  | [], _, _, _, _, e => by simp at e
  | _ :: _, _, 0, x, ⟨v, r, h1, h2, _⟩, e => by
    simp at e
    subst h1 e
    exact ⟨v, rfl, h2⟩
  | _ :: xs, _, i + 1, x, ⟨v, r, h1, _, h3⟩, e => by
    obtain ⟨u, q1, q2⟩ := RDs.get (i := i) (x := x) h3 (by simpa using e)
    subst h1
    exact ⟨u, by simpa using q1, q2⟩
theorem rs_start {K : PySem.W.Frag} {Z : Addr → Prop} {m : Mu} {H : Hp} {N : List Str} {ds : List D} {vs : List V} (h : RDs K Z m H ds vs) : RS K Z m H (start2 N ds) (start N vs) := by
  have hl := h.length
  refine ⟨?_, fun i x hx => ?_⟩
  · unfold start2 L2.start
    rw [List.length_append, List.length_append, List.length_map, List.length_map, List.length_replicate, List.length_replicate, hl]
  · unfold start2 at hx
    by_cases hi : i < ds.length
    · rw [List.getElem?_append_left (by simpa using hi), List.getElem?_map] at hx
      cases e : ds[i]? with
      | none => rw [e] at hx; cases hx
      | some y =>
        rw [e] at hx
        cases hx
        obtain ⟨v, q1, q2⟩ := h.get e
        refine ⟨v, ?_, q2⟩
        unfold L2.start
        rw [List.getElem?_append_left (by rw [List.length_map, hl]; exact hi), List.getElem?_map, q1]
        rfl
    · rw [List.getElem?_append_right (by simpa using hi), List.getElem?_replicate] at hx
      split at hx <;> cases hx
end
section
variable {P : Program} {w : World} {K : PySem.W.Frag} {mg : Str → Option Value} {base : Heap}
theorem fn_body {x qual : Str} {st : Stmt} {fa : Addr} {fd : FuncData} {N ps : List Str} {k : Nat} {sp : DC} {body : DS} (F : Fun K x qual st fa fd) (S : FnScope N ps (defScope st))
    (hb : ∀ (cdv : Value) (A : Around) (outer : List Env) (s : Shared) (H : Hp) (E : XK), Room k (A.deeper (envOfC qual (defScope st) s.heap.objs.size fa cdv)) →
      PSs (cxOf CX0 P w K mg base N qual (defScope st) fa cdv A outer s H E).nox (defBody st) (LS K body))
    (hv : ∀ ds m R, ds.length = ps.length → sp ds m R → body { nx := fun _ m => R (.dat .none) m, rt := R } (start2 N ds) m) : FnOk P w K mg base CX0 (k + 1) fa fd ps (LSp K ps.length sp) := by
  refine F.ok S (fun vs H Q E h => h.len) (fun cdv A outer s H vs Q E hr h => ?_)
  obtain ⟨Z, ds, m, R, ok, rd, hl, h, kk⟩ := h
  refine ⟨_, hb cdv A outer s H E hr, Z, start2 N ds, m, _, ok, rs_start rd, hv ds m R hl h, ?_, ?_, ?_, ?_⟩
  · intro d' m' s' H' q e1 ok1 _
    exact kk _ m' _ H' q e1 ok1 (by simp only [RD, RP])
  · exact fun x m' v H' q e1 ok1 r1 => kk x m' v H' q e1 ok1 r1
  · exact fun _ _ _ _ q _ _ _ => q.elim
  · exact fun _ _ _ _ q _ _ _ => q.elim
end
end DL
set_option Elab.async false
set_option linter.all false
set_option maxRecDepth 100000
set_option maxHeartbeats 4000000
namespace L2
open PySem
theorem Room.u100 {k : Nat} {A : Around} (r : Room k A) : A.units + 100 < cLine := by have := r.un; omega
theorem Room.u200 {k : Nat} {A : Around} (r : Room k A) : A.units + 200 < cLine := by have := r.un; omega
end L2
namespace DL
open PySem PySem.Spec PyProof.Rows L2
theorem boot_len_ : bootBuiltins "len" = some (.builtin "len") := by decide +kernel
theorem boot_max_ : bootBuiltins "max" = some (.builtin "max") := by decide +kernel
theorem boot_repr_ : bootBuiltins "repr" = some (.builtin "repr") := by decide +kernel
theorem boot_int_ : bootBuiltins "int" = some (.type "int") := by decide +kernel
theorem boot_list_ : bootBuiltins "list" = some (.type "list") := by decide +kernel
theorem boot_tuple_ : bootBuiltins "tuple" = some (.type "tuple") := by decide +kernel
end DL
set_option Elab.async false
set_option linter.all false
set_option maxRecDepth 100000
set_option maxHeartbeats 4000000
namespace DL
open PySem PySem.Spec PyProof.Rows L2
theorem rps_ints {K : PySem.W.Frag} {Z : Addr → Prop} {m : Mu} {H : Hp} : ∀ ns : List Int, RPs K Z m H (ns.map PyData.int) (ns.map V.int)
  | [] => by simp [RPs]
  | n :: ns => by
    simp only [List.map_cons, RPs]
    exact ⟨_, _, rfl, by simp only [RP], rps_ints ns⟩
theorem lsp_law {K : PySem.W.Frag} {sp : DC} {H : Hp} {a : Addr} {ns : List Int} {E : XK} (hS : SqL K H a (ns.map V.int)) (h : sp [.dat (.list (ns.map .int))] (fun _ => none) (fun d _ => d = .dat (.bool true))) : LSp K 1 sp [.ref a] H (fun v _ => v = .bl true) E := by
  have ok : Ok K (fun _ => False) (fun _ => none) H := ⟨fun b ds e => (by cases e), fun _ z => False.elim z⟩
  refine ⟨fun _ => False, [.dat (.list (ns.map .int))], fun _ => none, fun d _ => d = .dat (.bool true), ok, ⟨.ref a, [], rfl, ?_, rfl⟩, rfl, h, ?_⟩
  · simp only [RD, RP]
    exact ⟨a, _, rfl, by first | exact ⟨rfl, fun z => z⟩ | simp, hS, rps_ints ns⟩
  · rintro d m' v' H' rfl _ _ r
    simpa only [RD, RP] using r
end DL
set_option Elab.async false
set_option linter.all false
set_option maxRecDepth 100000
set_option maxHeartbeats 4000000
namespace DL
open PySem PySem.Spec PyProof.Rows L2
theorem closure_go (env : Env) : ∀ (names : List (Str × NameKind)) (cs : List (Str × Addr)), (∀ x, (x, NameKind.free) ∈ names → ∃ c, env.cells.lookup x = some c) → (∀ p ∈ cs, env.cells.lookup p.1 = some p.2) →
    ∃ cl : List (Str × Addr), (forIn names cs (fun (x : Str × NameKind) (r : List (Str × Addr)) => (if (x.2 == .free) = true then (do let c ← cellOf env x.1; pure (ForInStep.yield ((x.1, c) :: r))) else pure (ForInStep.yield r) : Sem (ForInStep (List (Str × Addr)))))) = pure cl ∧
      (∀ p ∈ cl, env.cells.lookup p.1 = some p.2) ∧ (∀ p ∈ cs, p ∈ cl) ∧ ∀ x, (x, NameKind.free) ∈ names → ∃ c, (x, c) ∈ cl
  | [], cs, _, h => ⟨cs, rfl, h, fun _ z => z, fun x z => nomatch z⟩
  | (n, k) :: r, cs, hf, h => by
    by_cases hk : k = .free
    · subst hk
      obtain ⟨c, hc⟩ := hf n List.mem_cons_self
      obtain ⟨cl, e, h1, h2, h3⟩ := closure_go env r ((n, c) :: cs) (fun x hx => hf x (List.mem_cons_of_mem _ hx)) (fun p hp => by
        rcases List.mem_cons.mp hp with rfl | hp
        · exact hc
        · exact h p hp)
      refine ⟨cl, ?_, h1, fun p hp => h2 p (List.mem_cons_of_mem _ hp), fun x hx => ?_⟩
      · rw [List.forIn_cons]
        have e2 : cellOf env n = pure c := by unfold cellOf; rw [hc]
        simp only [beq_self_eq_true, if_true, e2, pure_bind]
        exact e
      · rcases List.mem_cons.mp hx with z | hx
        · cases z
          exact ⟨c, h2 _ List.mem_cons_self⟩
        · exact h3 x hx
    · obtain ⟨cl, e, h1, h2, h3⟩ := closure_go env r cs (fun x hx => hf x (List.mem_cons_of_mem _ hx)) h
      refine ⟨cl, ?_, h1, h2, fun x hx => ?_⟩
      · rw [List.forIn_cons]
        have e2 : (k == NameKind.free) = false := by simpa using hk
        simp only [e2, Bool.false_eq_true, if_false, pure_bind]
        exact e
      · rcases List.mem_cons.mp hx with z | hx
        · cases z
          exact absurd rfl hk
        · exact h3 x hx
theorem closure_of {scope : Scope} {env : Env} (hf : ∀ x, (x, NameKind.free) ∈ scope.names → ∃ c, env.cells.lookup x = some c) :
    ∃ cl : List (Str × Addr), closureFor scope env = pure cl ∧ (∀ p ∈ cl, env.cells.lookup p.1 = some p.2) ∧ ∀ x, (x, NameKind.free) ∈ scope.names → ∃ c, (x, c) ∈ cl := by
  obtain ⟨cl, e, h1, _, h3⟩ := closure_go env scope.names [] hf (fun _ z => nomatch z)
  refine ⟨cl, ?_, h1, h3⟩
  unfold closureFor
  first
    | exact e
    | (show (do let cs ← forIn scope.names ([] : List (Str × Addr)) _; pure cs : Sem _) = _; rw [e]; rfl)
    | (simp only []; rw [e]; rfl)
section
variable {prog : Program} {w : World} {A : Around} {R : Result → Shared → Prop} {s : Shared}
theorem comp_loop {elt target iter : Expr} {ifs : List Expr} {scope : Scope} {pos : Pos} {it acc : Value} {env : Env} (I : Nat → Shared → Prop)
    (turn : ∀ n s, I n s → wpAny (model prog w) A (pyNext it) (fun r s₁ => match r with
      | none => R (.ok .next) s₁
      | some v => wpAny (model prog w) A (letOwnedTupleGo target it v) (fun _ s₀ => wpAny (model prog w) A (assign target env v) (fun _ s₂ =>
          wpAny (model prog w) A (forIn ifs true fun c r => if r = true then do let ok ← isTrue c env (eval c env); pure (ForInStep.yield ok) else pure (ForInStep.yield r)) (fun ok s₃ =>
            if ok = true then wpAny (model prog w) A (eval elt env) (fun x s₄ =>
              wpAny (model prog w) A (call (.builtin "list.append") [acc, x]) (fun _ s₅ => ∃ m, m < n ∧ I m s₅) (fun _ _ => False) s₄) (fun _ _ => False) s₃
            else ∃ m, m < n ∧ I m s₃) (fun _ _ => False) s₂) (fun _ _ => False) s₀) (fun _ _ => False) s₁) (fun _ _ => False) s)
    (n : Nat) (h : I n s) :
    codeAny (model prog w) A (.compLoop (.ListComp elt [⟨target, iter, ifs, 0⟩] scope pos) 0 it acc env) R s := by
  have ff : ∀ {E : Value → Shared → Prop} (x : Value) (s : Shared), False → E x s := fun _ _ z => z.elim
  refine codeAny_loop rfl I (fun n s hI => ?_) n h
  show wpAny _ A ((compTurn (.ListComp elt [⟨target, iter, ifs, 0⟩] scope pos) 0 it acc env).onRaise (fun x => do noteFrame x env; theTreesLotGoes x)) _ _ s
  refine wpAny_noted ?_
  rw [compTurn_list]
  refine wpAny_bind (wpAny_standAt (wpAny_bind (wpAny_mono (turn n s hI) (fun r s₁ h₁ => ?_) ff)))
  cases r with
  | none => exact wpAny_pure h₁
  | some v =>
    refine wpAny_bind (wpAny_mono h₁ (fun _ s₀ h₀ => ?_) ff)
    refine wpAny_bind (wpAny_mono h₀ (fun _ s₂ h₂ => wpAny_bind (wpAny_mono h₂ (fun ok s₃ h₃ => ?_) ff)) ff)
    cases ok with
    | true =>
      simp only [if_true] at h₃ ⊢
      refine wpAny_bind (wpAny_bind (wpAny_mono h₃ (fun x s₄ h₄ => wpAny_bind (wpAny_mono h₄ (fun _ s₅ h₅ => wpAny_pure (wpAny_pure ⟨rfl, h₅⟩)) ff)) ff))
    | false =>
      simp only [Bool.false_eq_true, if_false] at h₃ ⊢
      exact wpAny_pure ⟨rfl, h₃⟩
end
end DL
set_option Elab.async false
set_option linter.all false
set_option maxRecDepth 100000
set_option maxHeartbeats 4000000
namespace DL
open PySem PySem.Spec PyProof.Rows L2
def cyOf (X : Cx) (scope : Scope) (cl : List (Str × Addr)) (C : Addr) (NC : List Str) (s2 : Shared) (H2 : Hp) (pins : List (Addr × Obj)) (fp : List Addr) : Cx where
  prog := X.prog
  w := X.w
  K := X.K
  mg := X.mg
  base := X.base
  A := X.A
  N := NC
  s₀ := s2
  H₀ := H2
  env := compEnvC scope cl C X.env
  outer := X.stack
  stack := X.stack
  ex := fp
  fn := fun _ => false
  calm := X.calm
  pn := X.pn ++ pins
  xe := fun _ _ => False
theorem mem_of_lookup' {cl : List (Str × Addr)} {x : Str} {c : Addr} (h : cl.lookup x = some c) : (x, c) ∈ cl := PySem.mem_of_lookup h
theorem lookup_of_mem' {cl : List (Str × Addr)} {x : Str} : ∀ {c : Addr}, (x, c) ∈ cl → ∃ c', cl.lookup x = some c' := by
  induction cl with
  | nil => intro c h; cases h
  | cons p r ih =>
    intro c h
    rw [List.lookup_cons]
    cases hx : x == p.1 with
    | true => exact ⟨_, rfl⟩
    | false =>
      rcases List.mem_cons.mp h with e | h
      · subst e
        simp at hx
      · exact ih h
theorem relabel_free {env : Env} : ∀ {names : List (Str × NameKind)} {x : Str}, (∀ y ∈ names, y.2 ≠ .cell) →
    ((names.map fun (n, k) => if (k == NameKind.free && env.scope.kind == .function && env.kindOf n == some .cell) then (n, NameKind.cell) else (n, k)).lookup x = some .cell ∨
     (names.map fun (n, k) => if (k == NameKind.free && env.scope.kind == .function && env.kindOf n == some .cell) then (n, NameKind.cell) else (n, k)).lookup x = some .free) → (x, NameKind.free) ∈ names
  | [], x, _, h => by simp at h
  | (n, k) :: r, x, hc, h => by
    have ih := @relabel_free env r x (fun y hy => hc y (List.mem_cons_of_mem _ hy))
    by_cases hk : (k == NameKind.free && env.scope.kind == .function && env.kindOf n == some .cell) = true
    · have kf : k = .free := by
        rw [Bool.and_eq_true, Bool.and_eq_true] at hk
        exact eq_of_beq hk.1.1
      subst kf
      simp only [List.map_cons, hk, if_true, List.lookup_cons] at h
      cases hx : x == n with
      | true =>
        have : x = n := eq_of_beq hx
        subst this
        exact List.mem_cons_self
      | false =>
        simp only [hx] at h
        exact List.mem_cons_of_mem _ (ih h)
    · have hk' : (k == NameKind.free && env.scope.kind == .function && env.kindOf n == some .cell) = false := by simpa using hk
      simp only [List.map_cons, hk', Bool.false_eq_true, if_false, List.lookup_cons] at h
      cases hx : x == n with
      | true =>
        have : x = n := eq_of_beq hx
        subst this
        simp only [hx] at h
        have hne := hc (x, k) List.mem_cons_self
        rcases h with h | h
        · exact absurd (Option.some.inj h) hne
        · have : k = .free := Option.some.inj h
          subst this
          exact List.mem_cons_self
      | false =>
        simp only [hx] at h
        exact List.mem_cons_of_mem _ (ih h)
section
variable {X : Cx} {pins : List (Addr × Obj)} {σ : L2.St} {H2 : Hp} {s2 : Shared} {scope : Scope} {cl : List (Str × Addr)} {NC : List Str} {fp : List Addr} {C : Addr}
theorem cy_ok (I2 : Inv X pins σ H2 s2) (hf : ∀ b ∈ fp, FpOk X pins H2 b) (hob : ∀ b ∈ fp, ∃ o, s2.heap.get? b = some o ∧ ∀ v, o.data ≠ .cell v) (hkind : scope.kind = .function) (hcell : ∀ y ∈ scope.names, y.2 ≠ .cell)
    (hcl1 : ∀ p ∈ cl, X.env.cells.lookup p.1 = some p.2) (hcl2 : ∀ x, (x, NameKind.free) ∈ scope.names → ∃ c, (x, c) ∈ cl) (hC : s2.heap.objs.size ≤ C) : (cyOf X scope cl C NC s2 H2 pins fp).Ok := by
  have lk : ∀ x c, cl.lookup x = some c → X.env.cells.lookup x = some c := fun x c h => hcl1 (x, c) (mem_of_lookup' h)
  refine ⟨I2.ok.mod, hkind, I2.ok.glob, I2.ok.blt, hC, fun x y c h1 h2 => I2.ok.inj x y c (lk x c h1) (lk y c h2), fun x hx => ?_, fun x c h => absurd (show false = true from h) Bool.false_ne_true, I2.ok.hd, I2.ok.frames, .inl rfl, fun b hb => ⟨?_, fun x c h => ?_⟩, fun b o e => I2.bs b o e,
    Nat.le_trans I2.ok.bsz I2.sz, fun b o e hb => ?_, fun b hb hs => ?_, I2.stack, I2.stkFree⟩
  · obtain ⟨c, hc⟩ := hcl2 x (relabel_free (env := X.env) hcell hx)
    exact lookup_of_mem' hc
  · obtain ⟨o, ho, _⟩ := hob b hb
    exact Nat.ne_of_lt (Nat.lt_of_lt_of_le (Heap.lt_size ho) hC)
  · exact (hf b hb).2.2.2.2.1 x c (lk x c h)
  · rcases (hf b hb).2.2.2.1 with z | z
    · exact I2.ok.noex b o e z
    · exact absurd (Nat.lt_of_lt_of_le (Heap.lt_size e) (Nat.le_trans I2.ok.bsz z)) (Nat.lt_irrefl _)
  · rcases List.mem_cons.mp (I2.stkSub b hs) with z | z
    · exact (hf b hb).2.1 z
    · exact (hf b hb).2.2.1 z
theorem cy_startG {o0 : HO} {σ' : L2.St} {h₁ : Heap} {tk : Nat} {mm : Str → Option Value} (I2 : Inv X pins σ H2 s2) (hf : ∀ b ∈ fp, FpOk X pins H2 b) (hob : ∀ b ∈ fp, ∃ o, s2.heap.get? b = some o ∧ ∀ v, o.data ≠ .cell v) (hkind : scope.kind = .function) (hcell : ∀ y ∈ scope.names, y.2 ≠ .cell)
    (hcl1 : ∀ p ∈ cl, X.env.cells.lookup p.1 = some p.2) (hcl2 : ∀ x, (x, NameKind.free) ∈ scope.names → ∃ c, (x, c) ∈ cl)
    (hlen : σ'.length = NC.length) (hσ : ∀ (i : Nat) (x : Str) (v : V), NC[i]? = some x → σ'[i]? = some (some v) → Vis (relabel scope X.env) x → ((relabel scope X.env).names.lookup x = some .cell ∨ (relabel scope X.env).names.lookup x = some .free) ∧ (X.env.kindOf x = some .cell ∨ X.env.kindOf x = some .free) ∧ ∃ j : Nat, X.N[j]? = some x ∧ σ[j]? = some (some v))
    (hC : C = s2.heap.objs.size + 1) (hns : h₁.Ns C mm) (hk : ∀ b u, s2.heap.get? b = some u → h₁.get? b = some u)
    (hO : ObjOk X.prog X.w (upd H2 s2.heap.objs.size o0) h₁ s2.heap.objs.size o0) :
    Inv (cyOf X scope cl C NC s2 H2 pins fp) [] σ' (upd H2 s2.heap.objs.size o0) { s2 with heap := h₁, toks := tk } := by
  have lk : ∀ x c, cl.lookup x = some c → X.env.cells.lookup x = some c := fun x c h => hcl1 (x, c) (mem_of_lookup' h)
  have hn : H2 s2.heap.objs.size = none := I2.hok.fresh (Nat.le_refl _)
  have le1 : s2.heap.objs.size ≤ C := by rw [hC]; exact Nat.le_succ _
  have ne1 : C ≠ s2.heap.objs.size := by rw [hC]; exact Nat.succ_ne_self _
  have hCn : H2 C = none := I2.hok.fresh le1
  have neD : ∀ b o, s2.heap.get? b = some o → b ≠ s2.heap.objs.size := fun b o e => Nat.ne_of_lt (Heap.lt_size e)
  refine ⟨cy_ok I2 hf hob hkind hcell hcl1 hcl2 le1, rfl, I2.bare, Un.laid hk (Nat.le_refl _) hn, ⟨mm, hns, fun i x v h1 h2 h3 => ?_⟩, fun x c h => ?_, ?_, fun x c h => ?_, fun p hp => ?_, ?_, hlen⟩
  · obtain ⟨hy, hx, j, hj, hv⟩ := hσ i x v h1 h2 h3
    obtain ⟨m, hnX, hl⟩ := I2.loc
    have vis : Vis X.env.scope x := by rcases hx with z | z; exact .inr (.inl z); exact .inr (.inr z)
    obtain ⟨u, r, l⟩ := hl j x v hj hv vis
    refine ⟨u, r, .inr ⟨hy, ?_⟩⟩
    obtain ⟨c', hc'⟩ := hcl2 x (relabel_free (env := X.env) hcell hy)
    obtain ⟨c, hc⟩ := lookup_of_mem' hc'
    refine ⟨c, hc, ?_⟩
    rcases l with ⟨z, _⟩ | ⟨_, c2, e2, o, ho, hd⟩
    · rcases hx with q | q
      · rw [z] at q; cases q
      · rw [z] at q; cases q
    · have := lk x c hc
      rw [e2] at this
      cases this
      exact ⟨o, hk _ o ho, hd⟩
  · obtain ⟨v, o, ho, hd⟩ := I2.cell x c (lk x c h)
    exact ⟨v, o, hk _ o ho, hd⟩
  · show upd H2 s2.heap.objs.size o0 C = none
    rw [upd_ne ne1]
    exact hCn
  · obtain ⟨v, o, ho, hd⟩ := I2.cell x c (lk x c h)
    rw [upd_ne (neD c o ho)]
    exact I2.freeC x c (lk x c h)
  · have hp' : p ∈ X.pn ++ pins := by
      rcases List.mem_append.mp hp with z | z
      · exact z
      · cases z
    obtain ⟨e, n, ne, nf, d⟩ := I2.pin p hp'
    refine ⟨hk _ _ e, by rw [upd_ne (neD _ _ e)]; exact n, ?_, fun z => ?_, d⟩
    · show p.1 ≠ C
      exact Nat.ne_of_lt (Nat.lt_of_lt_of_le (Heap.lt_size e) le1)
    · rcases List.mem_cons.mp (I2.stkSub p.1 z) with q | q
      · exact ne q
      · exact nf q
  · exact I2.hok.laid hk (Nat.le_refl _) hO
theorem cy_start {σ' : L2.St} {h₁ : Heap} {tk : Nat} {mm : Str → Option Value} (I2 : Inv X pins σ H2 s2) (hf : ∀ b ∈ fp, FpOk X pins H2 b) (hob : ∀ b ∈ fp, ∃ o, s2.heap.get? b = some o ∧ ∀ v, o.data ≠ .cell v) (hkind : scope.kind = .function) (hcell : ∀ y ∈ scope.names, y.2 ≠ .cell)
    (hcl1 : ∀ p ∈ cl, X.env.cells.lookup p.1 = some p.2) (hcl2 : ∀ x, (x, NameKind.free) ∈ scope.names → ∃ c, (x, c) ∈ cl)
    (hlen : σ'.length = NC.length) (hσ : ∀ (i : Nat) (x : Str) (v : V), NC[i]? = some x → σ'[i]? = some (some v) → Vis (relabel scope X.env) x → ((relabel scope X.env).names.lookup x = some .cell ∨ (relabel scope X.env).names.lookup x = some .free) ∧ (X.env.kindOf x = some .cell ∨ X.env.kindOf x = some .free) ∧ ∃ j : Nat, X.N[j]? = some x ∧ σ[j]? = some (some v))
    (hC : C = s2.heap.objs.size + 1) (hns : h₁.Ns C mm) (hk : ∀ b u, s2.heap.get? b = some u → h₁.get? b = some u)
    (hD : h₁.get? s2.heap.objs.size = some { cls := .type "list", data := .seq ([] : List Value).toArray }) :
    Inv (cyOf X scope cl C NC s2 H2 pins fp) [] σ' (upd H2 s2.heap.objs.size (.lst [])) { s2 with heap := h₁, toks := tk } :=
  cy_startG I2 hf hob hkind hcell hcl1 hcl2 hlen hσ hC hns hk ⟨Nat.zero_le _, [], 0, .nil, hD⟩
theorem cy_end {py : List (Addr × Obj)} {σ'' : L2.St} {H' : Hp} {s' : Shared} {h' : Heap} (I2 : Inv X pins σ H2 s2) (hf : ∀ b ∈ fp, FpOk X pins H2 b) (Iy : Inv (cyOf X scope cl C NC s2 H2 pins fp) py σ'' H' s') (hC : s2.heap.objs.size ≤ C) (hs : Heap.SameBut C s'.heap h') :
    Inv X pins σ H' { s' with heap := h' } := by
  have u : Un (frs X.stack) fp H2 H' s2.heap s'.heap := Iy.base
  have neC : ∀ b o, s2.heap.get? b = some o → b ≠ C := fun b o e => Nat.ne_of_lt (Nat.lt_of_lt_of_le (Heap.lt_size e) hC)
  have fC : H' C = none := Iy.free
  refine I2.call' (s' := { s' with heap := h' }) (ch := fp) Iy.os ⟨fun b o e n hb hx => (hs.2 b (neC b o e)).trans (u.keep b o e n hb hx), fun b o e n hb hx => ?_, u.free, fun b o e hx => ?_, u.tups, u.frzs, u.tbls⟩ (fun b o e => ?_) Iy.bare fun b hb => ?_
  · obtain ⟨sl, q⟩ := u.slot b o e n hb hx
    exact ⟨sl, (hs.2 b (neC b o e)).trans q⟩
  · obtain ⟨o', q⟩ := u.there b o e hx
    exact ⟨o', (hs.2 b (neC b o e)).trans q⟩
  · refine (Iy.hok b o e).stay (fun c v hc q => (hs.2 c ?_).trans q) (fun _ q => q) (fun _ _ q => q) fun _ _ _ q => q
    rintro rfl
    rcases hc with rfl | hc
    · rw [fC] at e; cases e
    · rw [fC] at hc; cases hc
  · obtain ⟨_, f1, _, f3, f4, f5⟩ := hf b hb
    exact ⟨f3, f1, f4, f5⟩
end
end DL
set_option Elab.async false
set_option linter.all false
set_option maxRecDepth 100000
set_option maxHeartbeats 4000000
namespace DL
open PySem PySem.Spec PyProof.Rows L2
section
variable {K : PySem.W.Frag} {Z Y : Addr → Prop} {m m' : Mu} {H H' : Hp}
mutual
/-- data elsewhere -/
theorem RP.tr0 (ht : ∀ a vs, SqT K H a vs → SqT K H' a vs) (hl : ∀ a vs, (m a = none ∧ ¬ Z a) → SqL K H a vs → (m' a = none ∧ ¬ Y a) ∧ SqL K H' a vs) (hf : ∀ a o u, H a = some (.frz o u) → H' a = some (.frz o u)) : ∀ (p : PyData) (v : V), RP K Z m H p v → RP K Y m' H' p v
  | .none, v, h => by simpa only [RP] using h
  | .bool _, v, h => by simpa only [RP] using h
  | .int _, v, h => by simpa only [RP] using h
  | .str _, v, h => by simpa only [RP] using h
  | .tuple xs, v, h => by
    simp only [RP] at h ⊢
    obtain ⟨a, vs, h1, h2, h3⟩ := h
    exact ⟨a, vs, h1, ht a vs h2, RPs.tr0 ht hl hf xs vs h3⟩
  | .list xs, v, h => by
    simp only [RP] at h ⊢
    obtain ⟨a, vs, h1, h2, h3, h4⟩ := h
    obtain ⟨q1, q2⟩ := hl a vs h2 h3
    exact ⟨a, vs, h1, q1, q2, RPs.tr0 ht hl hf xs vs h4⟩
  | .dict kvs, v, h => by
    simp only [RP] at h ⊢
    obtain ⟨a, o, u, vs, h1, h2, h3, h4⟩ := h
    exact ⟨a, o, u, vs, h1, hf a o u h2, h3, RPd.tr0 ht hl hf kvs _ h4⟩
theorem RPd.tr0 (ht : ∀ a vs, SqT K H a vs → SqT K H' a vs) (hl : ∀ a vs, (m a = none ∧ ¬ Z a) → SqL K H a vs → (m' a = none ∧ ¬ Y a) ∧ SqL K H' a vs) (hf : ∀ a o u, H a = some (.frz o u) → H' a = some (.frz o u)) : ∀ (xs : List (PyData × PyData)) (vs : List (PyData × V)), RPd K Z m H xs vs → RPd K Y m' H' xs vs
  | [], vs, h => by simpa only [RPd] using h
  | (k, p) :: xs, vs, h => by
    simp only [RPd] at h ⊢
    obtain ⟨v, r, h1, h2, h3⟩ := h
    exact ⟨v, r, h1, RP.tr0 ht hl hf p v h2, RPd.tr0 ht hl hf xs r h3⟩
theorem RPs.tr0 (ht : ∀ a vs, SqT K H a vs → SqT K H' a vs) (hl : ∀ a vs, (m a = none ∧ ¬ Z a) → SqL K H a vs → (m' a = none ∧ ¬ Y a) ∧ SqL K H' a vs) (hf : ∀ a o u, H a = some (.frz o u) → H' a = some (.frz o u)) : ∀ (xs : List PyData) (vs : List V), RPs K Z m H xs vs → RPs K Y m' H' xs vs
  | [], vs, h => by simpa only [RPs] using h
  | x :: xs, vs, h => by
    simp only [RPs] at h ⊢
    obtain ⟨v, r, h1, h2, h3⟩ := h
    exact ⟨v, r, h1, RP.tr0 ht hl hf x v h2, RPs.tr0 ht hl hf xs r h3⟩
end
theorem RP.tr (ht : ∀ a vs, SqT K H a vs → SqT K H' a vs) (hl : ∀ a vs, (m a = none ∧ ¬ Z a) → SqL K H a vs → (m' a = none ∧ ¬ Y a) ∧ SqL K H' a vs) (p : PyData) (v : V) (h : RP K Z m H p v) (hf : ∀ a o u, H a = some (.frz o u) → H' a = some (.frz o u) := by first | exact fun _ _ _ q => q | exact Ext.fz ‹_› | (intro a o u q; first | (rw [upd_ne (by rintro rfl; simp_all)]; exact q) | (unfold upd; split <;> simp_all))) : RP K Y m' H' p v := RP.tr0 ht hl hf p v h
theorem RPs.tr (ht : ∀ a vs, SqT K H a vs → SqT K H' a vs) (hl : ∀ a vs, (m a = none ∧ ¬ Z a) → SqL K H a vs → (m' a = none ∧ ¬ Y a) ∧ SqL K H' a vs) (p : List PyData) (v : List V) (h : RPs K Z m H p v) (hf : ∀ a o u, H a = some (.frz o u) → H' a = some (.frz o u) := by first | exact fun _ _ _ q => q | exact Ext.fz ‹_› | (intro a o u q; first | (rw [upd_ne (by rintro rfl; simp_all)]; exact q) | (unfold upd; split <;> simp_all))) : RPs K Y m' H' p v := RPs.tr0 ht hl hf p v h
def rsv (Z : Addr → Prop) (D : Addr) : Addr → Prop := fun a => Z a ∨ a = D
variable {D : Addr} {ys zs : List V}
theorem tr_new_l (hD : H D = none) (hk : K.lookup D = none) : ∀ a vs, (m a = none ∧ ¬ Z a) → SqL K H a vs → (m a = none ∧ ¬ rsv Z D a) ∧ SqL K (upd H D (.lst ys)) a vs := fun a vs h1 h2 =>
  ⟨⟨h1.1, fun z => z.elim h1.2 (SqL.ne hD hk h2)⟩, (same_new hD).seq h2⟩
theorem tr_put_t (hD : H D = some (.lst ys)) : ∀ a vs, SqT K H a vs → SqT K (upd H D (.lst zs)) a vs := fun b xs h => by
  rcases h with (h | ⟨o, h⟩) | h
  · have ne : b ≠ D := by rintro rfl; rw [hD] at h; cases h
    exact .inl (.inl (by rw [upd_ne ne]; exact h))
  · have ne : b ≠ D := by rintro rfl; rw [hD] at h; cases h
    exact .inl (.inr ⟨o, by rw [upd_ne ne]; exact h⟩)
  · exact .inr h
theorem sql_put {a : Addr} {vs : List V} (ne : a ≠ D) (h : SqL K H a vs) : SqL K (upd H D (.lst zs)) a vs := by
  rcases h with (h | ⟨o, h⟩) | h
  · exact .inl (.inl (by rw [upd_ne ne]; exact h))
  · exact .inl (.inr ⟨o, by rw [upd_ne ne]; exact h⟩)
  · exact .inr h
theorem tr_put_l : ∀ a vs, (m a = none ∧ ¬ rsv Z D a) → SqL K H a vs → (m a = none ∧ ¬ rsv Z D a) ∧ SqL K (upd H D (.lst zs)) a vs := fun a vs h1 h2 =>
  ⟨h1, sql_put (fun e => h1.2 (.inr e)) h2⟩
end
section
variable {K : PySem.W.Frag} {Z : Addr → Prop} {m m1 m' : Mu} {H H1 H' : Hp} {D : Addr} {ys zs : List V}
theorem rd_new {x : DL.D} {v : V} (hD : H D = none) (hk : K.lookup D = none) (h : RD K Z m H x v) : RD K (rsv Z D) m (upd H D (.lst ys)) x v := by
  cases x with
  | dat p => exact RP.tr (fun a vs q => SqT.same (same_new hD) q) (tr_new_l hD hk) p v h
  | cel a => exact h
theorem rd_put {x : DL.D} {v : V} (hD : H D = some (.lst ys)) (h : RD K (rsv Z D) m H x v) : RD K (rsv Z D) m (upd H D (.lst zs)) x v := by
  cases x with
  | dat p => exact RP.tr (tr_put_t hD) tr_put_l p v h
  | cel a => exact h
theorem ok_new (ok : Ok K Z m H) (hD : H D = none) (hk : K.lookup D = none) : Ok K (rsv Z D) m (upd H D (.lst ys)) := by
  refine ⟨fun a c h => ?_, fun a h => ?_⟩
  · obtain ⟨o, h1, h2⟩ := ok.g a c h
    have ne : a ≠ D := by rintro rfl; rw [hD] at h1; cases h1
    exact ⟨o, by rw [upd_ne ne]; exact h1, h2.lift fun p v q => RP.tr (fun a vs q => SqT.same (same_new hD) q) (tr_new_l hD hk) p v q⟩
  · rcases h with h | h
    · have ne : a ≠ D := by rintro rfl; exact (ok.z a h).2 hD
      exact ⟨(ok.z a h).1, by rw [upd_ne ne]; exact (ok.z a h).2⟩
    · subst h
      exact ⟨(ok_none ok hD).1, by rw [upd_same]; intro z; cases z⟩
theorem ok_put2 (ok : Ok K (rsv Z D) m H) (hD : H D = some (.lst ys)) : Ok K (rsv Z D) m (upd H D (.lst zs)) := by
  refine ⟨fun a c h => ?_, fun a h => ?_⟩
  · obtain ⟨o, h1, h2⟩ := ok.g a c h
    have ne : a ≠ D := by
      rintro rfl
      have := (ok.z a (.inr rfl)).1
      rw [h] at this
      cases this
    exact ⟨o, by rw [upd_ne ne]; exact h1, h2.lift fun p v q => RP.tr (tr_put_t hD) tr_put_l p v q⟩
  · by_cases e : a = D
    · subst e
      exact ⟨(ok.z a h).1, by rw [upd_same]; intro z; cases z⟩
    · exact ⟨(ok.z a h).1, by rw [upd_ne e]; exact (ok.z a h).2⟩
theorem ok_out (ok : Ok K (rsv Z D) m H) : Ok K Z m H := by
  refine ⟨fun a c h => ?_, fun a h => ok.z a (.inl h)⟩
  obtain ⟨o, h1, h2⟩ := ok.g a c h
  exact ⟨o, h1, h2.lift fun p v q => RP.tr (fun _ _ q => q) (fun a vs q1 q2 => ⟨⟨q1.1, fun z => q1.2 (.inl z)⟩, q2⟩) p v q⟩
theorem ext_inner (e : Ext K Z m1 H1 m H) (hD : H1 D = none) (hk : K.lookup D = none) (e2 : Ext K (rsv Z D) m H m' H') : Ext K Z m1 H1 m' H' :=
  ⟨fun a vs h => e2.t a vs (e.t a vs h), fun a vs h1 h2 => let ⟨q1, q2⟩ := e.l a vs h1 h2; e2.l a vs ⟨q1, fun z => z.elim h1.2 (SqL.ne hD hk h2)⟩ q2, fun a h => (e2.z a (.inl h)).trans (e.z a h), fun a h => e2.c a (e.c a h), fun a o u h => e2.fz a o u (e.fz a o u h), fun a h => by
    have q := e.fm a h
    rw [e2.fm a (by rw [q]; exact h), q]⟩
theorem ext_put2 (e : Ext K Z m1 H1 m H) (ok1 : Ok K Z m1 H1) (hD : H1 D = none) (hk : K.lookup D = none) (hH : H D = some (.lst ys)) : Ext K Z m1 H1 m (upd H D (.lst zs)) :=
  ⟨fun a vs h => tr_put_t hH a vs (e.t a vs h), fun a vs h1 h2 => let ⟨q1, q2⟩ := e.l a vs h1 h2; ⟨q1, sql_put (SqL.ne hD hk h2) q2⟩, fun a h => by
    have ne : a ≠ D := by rintro rfl; exact (ok1.z a h).2 hD
    rw [upd_ne ne]
    exact e.z a h, e.c, fun a o u h => by
    have q := e.fz a o u h
    rw [upd_ne (by rintro rfl; rw [hH] at q; cases q)]
    exact q, e.fm⟩
end
def loopC (g : DG) (t : DT) (f : DE) : List D → List PyData → St2 → Mu → (List PyData → Mu → Prop) → Prop
  | [], acc, _, m, Q => Q acc m
  | x :: xs, acc, d, m, Q => g x d m fun d1 m1 => t d1 m1 fun b m2 => if b = true then f d1 m2 fun y m3 => ∃ p, y = .dat p ∧ acc.length < sizeLine ∧ loopC g t f xs (acc ++ [p]) d1 m3 Q else loopC g t f xs acc d1 m2 Q
def srcOf {α : Type} (src : List (Option Nat)) (d : List (Option α)) : List (Option α) := src.map fun o => o.bind fun j => (d[j]?).join
@[simp] def dLC (src : List (Option Nat)) (fi : DI) (g : DG) (t : DT) (f : DE) : DE := fun d m Q => fi d m fun xs m1 => loopC g t f xs [] (srcOf src d) m1 fun ps m2 => Q (.dat (.list ps)) m2
def PF (Y : Cx) (ifs : List Expr) (t : TT) : Prop := ∀ (pins : List (Addr × Obj)) (s : Shared) (σ : L2.St) (H : Hp) (Q : Bool → Hp → Prop), Inv Y pins σ H s → t σ H Q →
  wpAny (model Y.prog Y.w) Y.A (forIn ifs true fun c r => if r = true then do let ok ← isTrue c Y.env (eval c Y.env); pure (ForInStep.yield ok) else pure (ForInStep.yield r)) (TP Y pins σ Q) Y.xe s
@[simp] def dTrue : DT := fun _ m Q => Q true m
theorem pf_nil {Y : Cx} : PF Y [] (LT Y.K dTrue) := fun pins s σ H Q I h => by
  obtain ⟨Z, d, m, R, ok, rs, h, k⟩ := h
  exact wpAny_tests_nil ⟨H, I, k true m H h Ext.refl ok⟩
theorem pf_one {Y : Cx} {c : Expr} {t : TT} (h : PT Y c t) : PF Y [c] t := fun pins s σ H Q I q => wpAny_tests_one (h pins s σ H Q I q)
theorem rs_src {K : PySem.W.Frag} {Z : Addr → Prop} {m : Mu} {H : Hp} {d : St2} {σ : L2.St} (src : List (Option Nat)) (rs : RS K Z m H d σ) : RS K Z m H (srcOf src d) (srcOf src σ) := by
  refine ⟨by unfold srcOf; rw [List.length_map, List.length_map], fun i x h => ?_⟩
  unfold srcOf at h ⊢
  rw [List.getElem?_map] at h ⊢
  cases e : src[i]? with
  | none => rw [e] at h; cases h
  | some o =>
    rw [e] at h
    cases o with
    | none => cases h
    | some j =>
      have h' : (d[j]?).join = some x := Option.some.inj h
      cases ej : d[j]? with
      | none => rw [ej] at h'; cases h'
      | some w =>
        rw [ej] at h'
        have h2 : w = some x := h'
        subst h2
        obtain ⟨v, q1, q2⟩ := rs.2 j x ej
        exact ⟨v, by rw [Option.map_some, Option.bind_some, q1]; rfl, q2⟩
theorem srcOf_get {α : Type} {src : List (Option Nat)} {d : List (Option α)} {i : Nat} {v : α} (h : (srcOf src d)[i]? = some (some v)) : ∃ j : Nat, src[i]? = some (some j) ∧ d[j]? = some (some v) := by
  unfold srcOf at h
  rw [List.getElem?_map] at h
  cases e : src[i]? with
  | none => rw [e] at h; cases h
  | some o =>
    rw [e] at h
    cases o with
    | none => cases h
    | some j =>
      have h' : (d[j]?).join = some v := Option.some.inj h
      cases ej : d[j]? with
      | none => rw [ej] at h'; cases h'
      | some w =>
        rw [ej] at h'
        have h2 : w = some v := h'
        subst h2
        exact ⟨j, rfl, ej⟩
end DL
set_option Elab.async false
set_option linter.all false
set_option maxRecDepth 100000
set_option maxHeartbeats 4000000
namespace DL
open PySem PySem.Spec PyProof.Rows L2
theorem rd_cross {K : PySem.W.Frag} {Z : Addr → Prop} {m1 m' : Mu} {H1 H' : Hp} {D : Addr} {x : DL.D} {v : V} (hD : H1 D = none) (hk : K.lookup D = none) (e : Ext K Z m1 H1 m' H') (h : RD K Z m1 H1 x v) : RD K (rsv Z D) m' H' x v := by
  cases x with
  | dat p => exact RP.tr e.t (fun a vs h1 h2 => let ⟨q1, q2⟩ := e.l a vs h1 h2; ⟨⟨q1, fun z => z.elim h1.2 (SqL.ne hD hk h2)⟩, q2⟩) p v h
  | cel a => exact ⟨h.1, e.c a h.2⟩
section
variable {X : Cx} {tg iter elt : Expr} {ifs : List Expr} {scope : Scope} {NC : List Str} {fi : DI} {g : DG} {t : DT} {f : DE} {pos : Pos}
def srcChk (X : Cx) (scope : Scope) (NC : List Str) (src : List (Option Nat)) : Prop := NC.length = src.length ∧ ∀ (i : Nat) (x : Str) (j : Nat), NC[i]? = some x → src[i]? = some (some j) → X.N[j]? = some x ∧ (x, NameKind.free) ∈ scope.names ∧
  ((relabel scope X.env).names.lookup x = some .cell ∨ (relabel scope X.env).names.lookup x = some .free)
structure Off (X : Cx) (pins : List (Addr × Obj)) (H : Hp) (C : Addr) : Prop where
  h : H C = none
  l : C ≠ X.env.locals
  s : X.s₀.heap.objs.size ≤ C
  c : ∀ x c, X.env.cells.lookup x = some c → c ≠ C
  p : ∀ p ∈ X.pn ++ pins, p.1 ≠ C
theorem Off.inv {pins : List (Addr × Obj)} {σ : L2.St} {H : Hp} {s : Shared} {C : Addr} {h' : Heap} (o : Off X pins H C) (I : Inv X pins σ H s) (hs : Heap.SameBut C s.heap h') : Inv X pins σ H { s with heap := h' } :=
  I.turned (t' := s.toks) (it := C) (fun b ob hb e => (hs.2 b hb).trans e) o.h o.l (.inr o.s) o.c o.p
theorem lc_core (src : List (Option Nat)) (hc : X.calm = true) (hi : PI X tg iter (LI X.K fi))
    (hg : ∀ cl C s2 H2 pins fp, PG (cyOf X scope cl C NC s2 H2 pins fp) tg (LG X.K g)) (ht : ∀ cl C s2 H2 pins fp, PF (cyOf X scope cl C NC s2 H2 pins fp) ifs (LT X.K t)) (he : ∀ cl C s2 H2 pins fp, PE (cyOf X scope cl C NC s2 H2 pins fp) elt (LE X.K f))
    (hkind : scope.kind = .function) (hcell : ∀ y ∈ scope.names, y.2 ≠ .cell) (hnames : ∀ y ∈ scope.names, y.2 = .local → scope.names.lookup y.1 = some .local)
    (hfree : ∀ x, (x, NameKind.free) ∈ scope.names → X.env.kindOf x = some .cell ∨ X.env.kindOf x = some .free) (hsrc : srcChk X scope NC src)
    (hs : ∀ x, foldedSetIterable iter X.env x = pure x) {use : Option (Value → Sem Unit)} {QQ : Value → Shared → Prop} {pos' : Pos} {pins : List (Addr × Obj)} {s : Shared} {σ : L2.St} {H : Hp} {Z : Addr → Prop} {d : St2} {m : Mu} {RL : List PyData → Mu → Prop}
    (I : Inv X pins σ H s) (ok : Ok X.K Z m H) (rs : RS X.K Z m H d σ) (h : fi d m fun xs m1 => loopC g t f xs [] (srcOf src d) m1 RL)
    (fin : ∀ (s5 : Shared) (C D : Addr) (H' : Hp) (m' : Mu) (ps : List PyData), RL ps m' → Ext X.K Z m H m' H' → Ok X.K Z m' H' → RD X.K Z m' H' (.dat (.list ps)) (.ref D) → (∃ mm, s5.heap.Ns C mm) → Inv X pins σ H' s5 → Off X pins H' C → (m' D = none ∧ Ext X.K Z m H (updM m' D (.l ps)) H' ∧ Ok X.K Z (updM m' D (.l ps)) H') →
      compPost (model X.prog X.w) X.A X.xe use QQ (.ref D) C (.ok .next) s5) :
    wpAny (model X.prog X.w) X.A (comprehension (.ListComp elt [⟨tg, iter, ifs, 0⟩] scope pos) scope X.env pos' (newList []) false (eval iter X.env) use) QQ X.xe s := by
  obtain ⟨cl, hclos, hcl1, hcl2⟩ := closure_of (scope := scope) (env := X.env) fun x hx => I.ok.has x (hfree x hx)
  refine wpAny_comprehension_free (use := use) rfl hs hclos hkind hnames ?_
  refine thn (hi pins s σ H (fun J H1 => ∃ xs m1, Ext X.K Z m H m1 H1 ∧ Ok X.K Z m1 H1 ∧ Yields X.K Z m1 H1 xs J ∧ loopC g t f xs [] (srcOf src d) m1 RL) I
    ⟨Z, d, m, _, ok, rs, h, fun xs m1 H1 J q e1 ok1 y1 => ⟨xs, m1, e1, ok1, y1, q⟩⟩) fun xv s₁ h₁ => thn h₁ fun itv s₂ h₂ => ?_
  obtain ⟨it, fp, tn, J, H2, eit, I2, T, st2, f2, xs, m1, e1, ok1, yl, lp⟩ := h₂
  subst eit
  refine wpAny_newObj_type (wpAny_newFunctionEnv hcell (by intro y hy; simp at hy) (fun h₁ hns₁ hsb₁ => ?_) hkind)
  dsimp only at hns₁ hsb₁ ⊢
  generalize hH2 : s₂.heap.push { cls := .type "list", dict := none, data := .seq ([] : List Value).toArray } = HP at hns₁ hsb₁ ⊢
  have hC : HP.objs.size = s₂.heap.objs.size + 1 := by rw [← hH2, Heap.size_push]
  have leC : s₂.heap.objs.size ≤ HP.objs.size := by rw [hC]; exact Nat.le_succ _
  have old : ∀ b o, s₂.heap.get? b = some o → h₁.get? b = some o := fun b o e => hsb₁.extBut b o (Nat.ne_of_lt (Nat.lt_of_lt_of_le (Heap.lt_size e) leC)) (Heap.get?_push_of_some _ (hH2 ▸ Heap.get?_push_of_some _ e))
  have hacc : h₁.get? s₂.heap.objs.size = some { cls := .type "list", data := .seq ([] : List Value).toArray } := hsb₁.extBut _ _ (by rw [hC]; exact Nat.ne_of_lt (Nat.lt_succ_self _)) (Heap.get?_push_of_some _ (hH2 ▸ Heap.get?_push_size _ rfl))
  have hD : H2 s₂.heap.objs.size = none := I2.hok.fresh (Nat.le_refl _)
  have hkD : X.K.lookup s₂.heap.objs.size = none := by
    cases e : X.K.lookup s₂.heap.objs.size with
    | none => rfl
    | some o => exact absurd (Heap.lt_size (I2.kIn _ o e)) (Nat.lt_irrefl _)
  have obf : ∀ b ∈ fp, ∃ o, s₂.heap.get? b = some o ∧ ∀ v, o.data ≠ .cell v := T.obj 0 _ st2
  have hσ : ∀ (i : Nat) (x : Str) (v : V), NC[i]? = some x → (srcOf src σ)[i]? = some (some v) → Vis (relabel scope X.env) x → ((relabel scope X.env).names.lookup x = some .cell ∨ (relabel scope X.env).names.lookup x = some .free) ∧ (X.env.kindOf x = some .cell ∨ X.env.kindOf x = some .free) ∧ ∃ j : Nat, X.N[j]? = some x ∧ σ[j]? = some (some v) := fun i x v h1 h2 _ => by
    obtain ⟨j, q1, q2⟩ := srcOf_get h2
    obtain ⟨a1, a2, a3⟩ := hsrc.2 i x j h1 q1
    exact ⟨a3, hfree x a2, j, a1, q2⟩
  have I4 := fun tk => cy_start (cl := cl) (NC := NC) (σ' := srcOf src σ) (tk := tk) I2 f2 obf hkind hcell hcl1 hcl2 (by unfold srcOf; rw [List.length_map]; exact hsrc.1.symm) hσ hC hns₁ old hacc
  have st4 : tn 0 h₁ := T.keep 0 _ _ st2 fun b _ o e => old b o e
  -- the loop
  have loop : ∀ s₃ : Shared, s₃ = { s₂ with heap := h₁, toks := s₂.toks + ([] : List (Str × Value)).length } →
      codeAny (model X.prog X.w) X.A (.compLoop (.ListComp elt [⟨tg, iter, ifs, 0⟩] scope pos) 0 (.ref it) (.ref s₂.heap.objs.size) (compEnvC scope cl HP.objs.size X.env))
        (compPost (model X.prog X.w) X.A X.xe use QQ (.ref s₂.heap.objs.size) HP.objs.size) s₃ := by
    rintro s₃ rfl
    refine comp_loop (fun n s' => ∃ (i : Nat) (ys : List V) (acc : List PyData) (d' : St2) (m' : Mu) (σ' : L2.St) (H' : Hp), n = xs.length - i ∧ i ≤ xs.length ∧ Inv (cyOf X scope cl HP.objs.size NC s₂ H2 pins fp) [] σ' H' s' ∧ tn i s'.heap ∧ (∀ b ∈ fp, H' b = none) ∧
      H' s₂.heap.objs.size = some (.lst ys) ∧ RPs X.K (rsv Z s₂.heap.objs.size) m' H' acc ys ∧ Ext X.K Z m1 H2 m' H' ∧ Ok X.K (rsv Z s₂.heap.objs.size) m' H' ∧ RS X.K (rsv Z s₂.heap.objs.size) m' H' d' σ' ∧
      loopC g t f (xs.drop i) acc d' m' RL) ?_ xs.length ?_
    rotate_left
    · have rs1 : RS X.K Z m1 H2 (srcOf src d) (srcOf src σ) := rs_src src (rs.ext e1)
      refine ⟨0, [], [], srcOf src d, m1, srcOf src σ, _, by simp, Nat.zero_le _, I4 _, st4, fun b hb => ?_, upd_same, by simp [RPs], ok1.ext (same_new hD), ok_new ok1 hD hkD, ⟨rs1.1, fun i x hx => ?_⟩, by simpa using lp⟩
      · obtain ⟨o, ho, _⟩ := obf b hb
        rw [upd_ne (Nat.ne_of_lt (Heap.lt_size ho))]
        exact (f2 b hb).1
      · obtain ⟨v, q1, q2⟩ := rs1.2 i x hx
        exact ⟨v, q1, rd_new hD hkD q2⟩
    rintro n s4 ⟨i, ys, acc, d', m', σ', H', rfl, hi', I5, st5, fr5, hDy, racc, eX, ok5, rs5, lp5⟩
    have stat : ∀ b ∈ fp, FpOk (cyOf X scope cl HP.objs.size NC s₂ H2 pins fp) [] H' b := fun b hb => by
      obtain ⟨g0, g1, g2, g3, g4, g5⟩ := f2 b hb
      obtain ⟨o, ho, _⟩ := obf b hb
      refine ⟨fr5 b hb, Nat.ne_of_lt (Nat.lt_of_lt_of_le (Heap.lt_size ho) leC), fun z => ?_, .inl hb, fun x c e => g4 x c (hcl1 (x, c) (mem_of_lookup' e)), fun p hp => ?_⟩
      · rcases List.mem_cons.mp (I2.stkSub b z) with q | q
        · exact g1 q
        · exact g2 q
      · rcases List.mem_append.mp hp with q | q
        · exact g5 p q
        · cases q
    obtain ⟨y1, y2⟩ := yl m' H' eX.y
    by_cases hlt : i < xs.length
    · rw [List.drop_eq_getElem_cons hlt] at lp5
      obtain ⟨go, yd⟩ := y1 i xs[i] (List.getElem?_eq_getElem hlt)
      refine thn (T.item (cyOf X scope cl HP.objs.size NC s₂ H2 pins fp) rfl rfl rfl hc i [] s4 σ' H' (fun _ _ => False) I5 stat st5 go) fun r s5 hq0 => ?_
      obtain ⟨u, hr, h5⟩ := hq0
      subst hr
      refine thn h5 fun _ s6 hq0 => ?_
      obtain ⟨x, H6, I6, r6, yy, st6, fr6⟩ := hq0
      have yy' := yd x H6 yy
      have e56 : Ext X.K (rsv Z s₂.heap.objs.size) m' H' m' H6 := ok5.ext yy'.same
      have rv := yy'.rd (fun d v h => rd_cross hD hkD eX h) ok5
      have hDy := yy'.same _ _ hDy
      have racc := RPs.ext e56 _ _ racc
      have eX := ext_inner eX hD hkD e56
      have rs5 := rs5.ext e56
      have ok5 := ok5.grow yy'.same
      have stat : ∀ b ∈ fp, FpOk (cyOf X scope cl HP.objs.size NC s₂ H2 pins fp) [] H6 b := fun b hb => ⟨fr6 b hb, (stat b hb).2⟩
      have I6' := I6.pinned stat (T.obj _ _ st6)
      -- what stands when a turn is over
      have over : ∀ {s7 : Shared} {σ7 : L2.St} {H7 : Hp} {ys7 : List V} {acc7 : List PyData} {d7 : St2} {m7 : Mu}, Inv (cyOf X scope cl HP.objs.size NC s₂ H2 pins fp) ([] ++ pinsAt fp s6.heap) σ7 H7 s7 → H7 s₂.heap.objs.size = some (.lst ys7) → RPs X.K (rsv Z s₂.heap.objs.size) m7 H7 acc7 ys7 →
          Ext X.K Z m1 H2 m7 H7 → Ok X.K (rsv Z s₂.heap.objs.size) m7 H7 → RS X.K (rsv Z s₂.heap.objs.size) m7 H7 d7 σ7 → (loopC g t f (xs.drop (i + 1)) acc7 d7 m7 RL) →
          ∃ n, n < xs.length - i ∧ ∃ (i : Nat) (ys : List V) (acc : List PyData) (d' : St2) (m' : Mu) (σ' : L2.St) (H' : Hp), n = xs.length - i ∧ i ≤ xs.length ∧ Inv (cyOf X scope cl HP.objs.size NC s₂ H2 pins fp) [] σ' H' s7 ∧ tn i s7.heap ∧ (∀ b ∈ fp, H' b = none) ∧
            H' s₂.heap.objs.size = some (.lst ys) ∧ RPs X.K (rsv Z s₂.heap.objs.size) m' H' acc ys ∧ Ext X.K Z m1 H2 m' H' ∧ Ok X.K (rsv Z s₂.heap.objs.size) m' H' ∧ RS X.K (rsv Z s₂.heap.objs.size) m' H' d' σ' ∧
            loopC g t f (xs.drop i) acc d' m' RL := by
        intro s7 σ7 H7 ys7 acc7 d7 m7 I7 a1 a2 a3 a4 a5 a6
        refine ⟨xs.length - (i + 1), by omega, i + 1, ys7, acc7, d7, m7, σ7, H7, rfl, hlt, I7.unpinned, T.keep _ _ _ st6 fun b hb o e => (I7.pin (b, o) (List.mem_append_right _ (List.mem_append_right _ (mem_pinsAt hb e)))).1, fun b hb => ?_, a1, a2, a3, a4, a5, a6⟩
        obtain ⟨o, e, dd⟩ := T.obj _ _ st6 b hb
        exact (I7.pin (b, o) (List.mem_append_right _ (List.mem_append_right _ (mem_pinsAt hb e)))).2.1
      refine thn (hg cl _ s₂ H2 pins fp _ s6 σ' _ x u (fun σ7 H7 => ∃ d7 m7, Ext X.K (rsv Z s₂.heap.objs.size) m' H6 m7 H7 ∧ Ok X.K (rsv Z s₂.heap.objs.size) m7 H7 ∧ RS X.K (rsv Z s₂.heap.objs.size) m7 H7 d7 σ7 ∧
        t d7 m7 fun b m2 => if b = true then f d7 m2 fun y m3 => ∃ p, y = .dat p ∧ acc.length < sizeLine ∧ loopC g t f (xs.drop (i + 1)) (acc ++ [p]) d7 m3 RL else loopC g t f (xs.drop (i + 1)) acc d7 m2 RL) I6' r6
        ⟨_, xs[i], d', m', _, ok5, rs5, rv, lp5, fun d7 m7 σ7 H7 q7 e7 ok7 rs7 => ⟨d7, m7, e7, ok7, rs7, q7⟩⟩) fun _ s7 hq0 => ?_
      obtain ⟨σ7, H7, I7, d7, m7, e7, ok7, rs7, q7⟩ := hq0
      refine thn (ht cl _ s₂ H2 pins fp _ s7 σ7 H7 (fun b H8 => ∃ m8, Ext X.K (rsv Z s₂.heap.objs.size) m7 H7 m8 H8 ∧ Ok X.K (rsv Z s₂.heap.objs.size) m8 H8 ∧
        if b = true then f d7 m8 fun y m3 => ∃ p, y = .dat p ∧ acc.length < sizeLine ∧ loopC g t f (xs.drop (i + 1)) (acc ++ [p]) d7 m3 RL else loopC g t f (xs.drop (i + 1)) acc d7 m8 RL) I7
        ⟨_, d7, m7, _, ok7, rs7, q7, fun b m8 H8 q8 e8 ok8 => ⟨m8, e8, ok8, q8⟩⟩) fun b s8 hq0 => ?_
      obtain ⟨H8, I8, m8, e8, ok8, q8⟩ := hq0
      have e68 := e7.trans e8
      have hD8 : H8 s₂.heap.objs.size = some (.lst ys) := (e68.z _ (.inr rfl)).trans hDy
      cases b with
      | false =>
        rw [if_neg Bool.false_ne_true] at q8
        exact over I8 hD8 (RPs.ext e68 _ _ racc) (ext_inner eX hD hkD e68) ok8 (rs7.ext e8) q8
      | true =>
        rw [if_pos rfl] at q8
        refine thn (he cl _ s₂ H2 pins fp _ s8 σ7 H8 (fun v H9 => ∃ p m9, RP X.K (rsv Z s₂.heap.objs.size) m9 H9 p v ∧ Ext X.K (rsv Z s₂.heap.objs.size) m8 H8 m9 H9 ∧ Ok X.K (rsv Z s₂.heap.objs.size) m9 H9 ∧ acc.length < sizeLine ∧ loopC g t f (xs.drop (i + 1)) (acc ++ [p]) d7 m9 RL) I8
          ⟨_, d7, m8, _, ok8, rs7.ext e8, q8, fun y m9 v H9 hq1 e9 ok9 r9 => by
            obtain ⟨p, ey, hz, q9⟩ := hq1
            subst ey
            exact ⟨p, m9, r9, e9, ok9, hz, q9⟩⟩) fun yv s9 hq0 => ?_
        obtain ⟨y, H9, I9, ry, p, m9, rp9, e9, ok9, hz, q9⟩ := hq0
        have e69 := e68.trans e9
        have hD9 : H9 s₂.heap.objs.size = some (.lst ys) := (e69.z _ (.inr rfl)).trans hDy
        have racc9 := RPs.ext e69 _ _ racc
        have rs9 := (rs7.ext e8).ext e9
        refine thn (mt_append _ s9 σ7 H9 (.ref s₂.heap.objs.size) [y] (.ref s₂.heap.objs.size) [yv] (fun v H10 => H10 = upd H9 s₂.heap.objs.size (.lst (ys ++ [y]))) I9 rfl (.cons ry .nil) ⟨_, ys, y, rfl, rfl, hD9, by rw [racc9.length]; exact hz, rfl⟩) fun rv s10 hq0 => ?_
        obtain ⟨v10, H10, I10, _, e10⟩ := hq0
        subst e10
        refine over I10 upd_same ?_ (ext_put2 (ext_inner eX hD hkD e69) ok1 hD hkD hD9) (ok_put2 ok9 hD9) ⟨rs9.1, fun j z hj => ?_⟩ q9
        · exact RPs.tr (tr_put_t hD9) tr_put_l _ _ (racc9.append (by simp only [RPs]; exact ⟨y, [], rfl, rp9, rfl⟩))
        · obtain ⟨v, a1, a2⟩ := rs9.2 j z hj
          exact ⟨v, a1, rd_put hD9 a2⟩
    · have e : i = xs.length := by omega
      subst e
      rw [List.drop_length] at lp5
      refine thn (T.done (cyOf X scope cl HP.objs.size NC s₂ H2 pins fp) rfl rfl rfl hc _ [] s4 σ' H' (fun _ _ => False) I5 stat st5 y2) fun r s5 hq0 => ?_
      obtain ⟨hr, I6⟩ := hq0
      subst hr
      have IX := cy_end I2 f2 I6 leC (Heap.SameBut.refl _ _)
      have nz : ¬ Z s₂.heap.objs.size := fun z => (ok1.z _ z).2 hD
      refine fin s5 HP.objs.size s₂.heap.objs.size H' m' acc lp5 (e1.trans eX) (ok_out ok5) ?_ ⟨_, I6.loc.choose_spec.1⟩ IX ⟨I6.free, Nat.ne_of_gt (Nat.lt_of_lt_of_le I2.lt leC), Nat.le_trans I2.sz leC, fun x c e => ?_, fun p hp => ?_⟩ ⟨(ok5.z _ (.inr rfl)).1, ?_, ?_⟩
      · simp only [RD, RP]
        exact ⟨_, ys, rfl, ⟨(ok5.z _ (.inr rfl)).1, nz⟩, .inl (.inl hDy), RPs.tr (fun _ _ q => q) (fun a vs q1 q2 => ⟨⟨q1.1, fun z => q1.2 (.inl z)⟩, q2⟩) _ _ racc⟩
      · obtain ⟨v, q⟩ := I2.cell x c e
        exact Nat.ne_of_lt (Nat.lt_of_lt_of_le q.lt leC)
      · exact Nat.ne_of_lt (Nat.lt_of_lt_of_le (Heap.lt_size (I2.pin p hp).1) leC)
      · refine ⟨fun a vs q => (e1.trans eX).t a vs q, fun a vs q1 q2 => ?_, fun a q => (e1.trans eX).z a q, fun a q => ?_, (e1.trans eX).fz, fun a q => ?_⟩
        · obtain ⟨_, q3⟩ := e1.l a vs q1 q2
          have ne := SqL.ne hD hkD q3
          obtain ⟨q4, q5⟩ := (e1.trans eX).l a vs q1 q2
          exact ⟨by rw [updM_ne ne]; exact q4, q5⟩
        · by_cases ea : a = s₂.heap.objs.size
          · subst ea; rw [updM_same]; rfl
          · rw [updM_ne ea]; exact (e1.trans eX).c a q
        · have fq := (e1.trans eX).fm a q
          have ne : a ≠ s₂.heap.objs.size := by
            rintro rfl
            rw [(ok5.z _ (.inr rfl)).1] at fq
            rw [← fq] at q
            cases q
          rw [updM_ne ne]
          exact fq
      · have tr : ∀ (a : Addr) (vs : List V), (m' a = none ∧ ¬ rsv Z s₂.heap.objs.size a) → SqL X.K H' a vs → (updM m' s₂.heap.objs.size (.l acc) a = none ∧ ¬ Z a) ∧ SqL X.K H' a vs := fun a vs q1 q2 => ⟨⟨by rw [updM_ne fun z => q1.2 (.inr z)]; exact q1.1, fun z => q1.2 (.inl z)⟩, q2⟩
        refine ⟨fun a c q => ?_, fun a q => ?_⟩
        · by_cases ea : a = s₂.heap.objs.size
          · subst ea
            rw [updM_same] at q
            cases q
            exact ⟨_, hDy, RPs.tr (fun _ _ q => q) tr _ _ racc⟩
          · rw [updM_ne ea] at q
            obtain ⟨o, q1, q2⟩ := ok5.g a c q
            exact ⟨o, q1, q2.lift fun p v q3 => RP.tr (fun _ _ q => q) tr p v q3⟩
        · have ne : a ≠ s₂.heap.objs.size := fun z => nz (z ▸ q)
          obtain ⟨q1, q2⟩ := ok5.z a (.inl q)
          exact ⟨by rw [updM_ne ne]; exact q1, q2⟩
  exact codeAny_compStart_list (loop _ rfl) (T.self _ 0 _ _ _ st4 (loop _ rfl))
theorem le_lc (src : List (Option Nat)) (hc : X.calm = true) (hi : PI X tg iter (LI X.K fi))
    (hg : ∀ cl C s2 H2 pins fp, PG (cyOf X scope cl C NC s2 H2 pins fp) tg (LG X.K g)) (ht : ∀ cl C s2 H2 pins fp, PF (cyOf X scope cl C NC s2 H2 pins fp) ifs (LT X.K t)) (he : ∀ cl C s2 H2 pins fp, PE (cyOf X scope cl C NC s2 H2 pins fp) elt (LE X.K f))
    (hkind : scope.kind = .function) (hcell : ∀ y ∈ scope.names, y.2 ≠ .cell) (hnames : ∀ y ∈ scope.names, y.2 = .local → scope.names.lookup y.1 = some .local)
    (hfree : ∀ x, (x, NameKind.free) ∈ scope.names → X.env.kindOf x = some .cell ∨ X.env.kindOf x = some .free) (hsrc : srcChk X scope NC src)
    (hs : ∀ x, foldedSetIterable iter X.env x = pure x := by intro _; rfl) :
    PE X (.ListComp elt [⟨tg, iter, ifs, 0⟩] scope pos) (LE X.K (dLC src fi g t f)) := by
  intro pins s σ H Q I h
  obtain ⟨Z, d, m, R, ok, rs, h, k⟩ := h
  rw [eval_ListComp]
  refine lc_core src hc hi hg ht he hkind hcell hnames hfree hsrc hs (use := none) (QQ := EP X pins σ Q) (RL := fun ps m2 => R (.dat (.list ps)) m2) I ok rs h ?_
  intro s5 C D H' m' ps q e ok' rd ⟨mm, hns⟩ I5 off hcl
  exact ⟨mm, hns, fun h' hs' => ⟨.ref D, H', off.inv I5 hs', rfl, k _ m' _ H' q e ok' rd⟩⟩
theorem ls_lc (i : Nat) {y : Str} {py spos : Pos} (src : List (Option Nat)) (hc : X.calm = true) (hi : PI X tg iter (LI X.K fi))
    (hg : ∀ cl C s2 H2 pins fp, PG (cyOf X scope cl C NC s2 H2 pins fp) tg (LG X.K g)) (ht : ∀ cl C s2 H2 pins fp, PF (cyOf X scope cl C NC s2 H2 pins fp) ifs (LT X.K t)) (he : ∀ cl C s2 H2 pins fp, PE (cyOf X scope cl C NC s2 H2 pins fp) elt (LE X.K f))
    (hkind : scope.kind = .function) (hcell : ∀ y ∈ scope.names, y.2 ≠ .cell) (hnames : ∀ y ∈ scope.names, y.2 = .local → scope.names.lookup y.1 = some .local)
    (hfree : ∀ x, (x, NameKind.free) ∈ scope.names → X.env.kindOf x = some .cell ∨ X.env.kindOf x = some .free) (hsrc : srcChk X scope NC src)
    (hN : X.N.Nodup) (hi2 : X.N[i]? = some y := by rfl) (hx : Loc X.env.scope y := by first | exact Or.inl rfl | exact Or.inr rfl) (hf : X.fn y = true ∨ X.env.scope.names.lookup y = some .local := by first | exact .inl rfl | exact .inr rfl)
    (hsw : swapsWith (.ListComp elt [⟨tg, iter, ifs, 0⟩] scope pos) (some (.Name y py)) spos.line X.env = pure true := by rfl)
    (hs : ∀ x, foldedSetIterable iter X.env x = pure x := by intro _; rfl) :
    PS X (.Assign [.Name y py] (.ListComp elt [⟨tg, iter, ifs, 0⟩] scope pos) spos) (LS X.K (dSet i (dLC src fi g t f))) := by
  intro pins s σ H E I h
  obtain ⟨Z, d, m, R, ok, rs, h, k, _⟩ := h
  rw [exec_Assign_Name_used _ _ _ _ hsw]
  refine wpAny_bind (wpAny_standAt (wpAny_bind ?_))
  rw [arm_evalThenUse_ListComp]
  refine wpAny_bind ?_
  refine thn (lc_core src hc hi hg ht he hkind hcell hnames hfree hsrc hs (use := some (assign (.Name y py) X.env)) (QQ := fun _ s' => SP X pins E .next s') (RL := fun ps m2 => R.nx (d.set i (some (.dat (.list ps)))) m2) I ok rs h ?_) (fun _ s' q => wpAny_pure (wpAny_pure q))
  intro s5 C D H' m' ps q e ok' rd ⟨mm, hns⟩ I5 off hcl
  show wpAny _ X.A (assign (.Name y py) X.env (.ref D)) _ _ s5
  refine wpAny_assign_Name (store_ok2 I5 hN hi2 hx (v := .ref D) rfl (fun s6 I6 ⟨a, hs6, ha⟩ => ?_) hf)
  have ne : C ≠ a := by
    rcases ha with rfl | ha
    · exact off.l
    · exact Ne.symm (off.c _ _ ha)
  refine ⟨mm, hns.sameBut hs6 ne, fun h' hs' => ?_⟩
  exact ⟨_, H', off.inv I6 hs', k _ m' _ H' q e ok' ((rs.ext e).set rd)⟩
end
end DL
set_option Elab.async false
set_option linter.all false
set_option maxRecDepth 100000
set_option maxHeartbeats 4000000
namespace DL
open PySem PySem.Spec PyProof.Rows L2
section
variable {prog : Program} {w : World} {A : Around} {E : Value → Shared → Prop} {s : Shared}
def IsRv (h : Heap) (a t : Addr) (i : Int) : Prop := ∃ o, h.get? a = some o ∧ o.cls = .type "reversed" ∧ o.data = .fields #[.ref t, rawInt i]
theorem IsRv.typeIs {a t : Addr} {i : Int} (x : IsRv s.heap a t i) : s.TypeIs (.ref a) "reversed" := let ⟨o, ho, hc, _⟩ := x; ⟨o, ho, hc⟩
end
end DL
set_option Elab.async false
set_option linter.all false
set_option maxRecDepth 100000
set_option maxHeartbeats 4000000
namespace DL
open PySem PySem.Spec PyProof.Rows L2
theorem ix_meets (l : Addr) (items : Array Value) (x : Value) (e : Value → Bool) (j : Nat) (hj : j < items.size) (hit : e items[j] = true) (hno : ∀ m (hm : m < items.size), m < j → e items[m] = false) :
    Meets (Builtin.«tuple.index» ⟨[.ref l, x], []⟩) (fun A R s => IsTup s.heap l items ∧ (∀ y, y ∈ items → SeqAt.EqAt A.in1 s y x (e y)) ∧ R (.ok (.ret (.int j s.toks))) { s with toks := s.toks + 1 }) :=
  .of_wp fun prog w A R s h => by
    obtain ⟨ht, he, h⟩ := h
    unfold Builtin.«tuple.index»
    refine wpAny_bind (wpAny_of_eq (a := (Value.ref l, [x])) rfl ?_)
    try dsimp only
    refine wpAny_bind (tupleItemsOf_ ht ?_)
    try dsimp only
    refine wpAny_bind (wpAny_pure (wpAny_bind (wpAny_pure ?_)))
    rw [Nat.min_self, Std.Legacy.Range.forIn_eq_forIn_range']
    refine wpAny_bind (wpAny_forIn_list _ (fun rest b s' => s' = s ∧ ∃ k, k ≤ j ∧ rest = List.range' k (items.size - k)) _ ?_ ?_ _ _ ?_)
    · rintro i rest b s' ⟨rfl, k, hk, hr⟩
      have hlt : k < items.size := by omega
      obtain ⟨n, hn⟩ : ∃ n, items.size - k = n + 1 := ⟨items.size - k - 1, by omega⟩
      rw [hn, List.range'_succ] at hr
      obtain ⟨rfl, rfl⟩ := List.cons.inj hr
      have hx : items[i]? = some items[i] := Array.getElem?_eq_getElem hlt
      simp only [hx]
      refine wpAny_bind (he _ (Array.getElem_mem hlt) prog w _ _ ?_)
      by_cases hij : i = j
      · subst hij
        rw [hit]
        exact wpAny_bind (wpAny_bind (wpAny_mkInt (wpAny_pure (wpAny_pure (wpAny_pure ⟨_, rfl, h⟩)))))
      · rw [hno i hlt (by omega)]
        exact wpAny_pure ⟨rfl, i + 1, by omega, by congr 1; omega⟩
    · rintro b s' ⟨rfl, k, hk, hr⟩
      have := congrArg List.length hr
      rw [List.length_range'] at this
      simp at this
      omega
    · exact ⟨rfl, 0, Nat.zero_le _, by simp [Std.Legacy.Range.size]⟩
theorem relv_strs : ∀ {zs : List Str} {us : List Value}, Vals (zs.map V.str) us → ∀ i (h : i < us.length) (h2 : i < zs.length), ∃ t, us[i] = .str zs[i] t
  | [], _, .nil, i, h, _ => absurd h (Nat.not_lt_zero _)
  | z :: zs, _, .cons r t, 0, _, _ => let ⟨k, e⟩ := r; ⟨k, e⟩
  | z :: zs, _, .cons r t, i + 1, h, h2 => relv_strs t i (Nat.lt_of_succ_lt_succ h) (Nat.lt_of_succ_lt_succ h2)
theorem idx_ne {y : Str} : ∀ (zs : List Str) (m : Nat) (h : m < zs.length), m < zs.idxOf y → zs[m] ≠ y
  | [], _, h, _ => absurd h (Nat.not_lt_zero _)
  | z :: zs, 0, _, h => by
    intro e
    rw [List.getElem_cons_zero] at e
    rw [e, List.idxOf_cons_self] at h
    exact absurd h (Nat.lt_irrefl _)
  | z :: zs, m + 1, hl, h => by
    rw [List.getElem_cons_succ]
    refine idx_ne zs m (Nat.lt_of_succ_lt_succ hl) ?_
    rw [List.idxOf_cons] at h
    cases e : z == y with
    | true => simp [e] at h
    | false => simp [e] at h; omega
section
variable {X : Cx} {a e o : Expr} {es : List Expr} {f g : DE} {ga : DA} {pos p p1 p2 : Pos}
def rIdxT (K : PySem.W.Frag) : V → List V → Hp → VK → Prop := fun x xs H Q => ∃ (a : Addr) (y : Str) (zs : List Str), x = .ref a ∧ xs = [.str y] ∧ SqT K H a (zs.map V.str) ∧ y ∈ zs ∧ Q (.int (zs.idxOf y : Nat)) H
theorem mt_idxT : MtR X "tuple.index" (rIdxT X.K) := by
  intro pins s σ H x xs v us Q I rx rs ⟨a, y, zs, e1, e2, hq, hk, q⟩
  subst e1 e2
  cases rx
  obtain ⟨u, rfl, ru⟩ := vals1 rs
  obtain ⟨tk, rfl⟩ := id ru
  obtain ⟨its, rv, p, hz⟩ := I.tuple hq
  have hl := rv.length
  rw [List.length_map] at hl
  have hj : zs.idxOf y < zs.length := List.idxOf_lt_length_iff.mpr hk
  have hit : ∀ m (hm : m < its.toArray.size) (hm2 : m < zs.length), eqU (.str y) its.toArray[m] = (zs[m] == y) := fun m hm hm2 => by
    obtain ⟨t, e⟩ := relv_strs rv m (by simpa using hm) hm2
    have e' : its.toArray[m] = .str zs[m] t := by simpa using e
    rw [e']
    rfl
  have hfl : (zs.map V.str).all flatV = true := by
    rw [List.all_eq_true]
    intro v hv
    obtain ⟨z, _, rfl⟩ := List.mem_map.mp hv
    rfl
  refine call_meets PySem.F.slot_tuple_index p.typeIs PySem.F.entry_tuple_index (PySem.F.args_tuple_index_2 _ _) (ix_meets a its.toArray (.str y tk) (eqU (.str y)) (zs.idxOf y) (by rw [List.size_toArray]; omega) ?_ ?_) ⟨p, ?_, ?_⟩
  · rw [hit _ _ hj, List.getElem_idxOf hj]
    simp
  · intro m hm hlt
    have hm2 : m < zs.length := by omega
    rw [hit m hm hm2]
    simp only [beq_eq_false_iff_ne]
    exact idx_ne _ _ hm2 hlt
  · exact fun w hw => mem_eqAt (x := .str y) ⟨tk, rfl⟩ rfl rv hfl w (by simpa using hw)
  · exact ⟨.int _, H, I.tok _, ⟨_, rfl⟩, q⟩
theorem rps_strs {K : PySem.W.Frag} {Z : Addr → Prop} {m : Mu} {H : Hp} : ∀ {zs : List Str} {vs : List V}, RPs K Z m H (zs.map PyData.str) vs → vs = zs.map V.str
  | [], vs, h => by simpa [RPs] using h
  | z :: zs, vs, h => by
    simp only [List.map_cons, RPs] at h
    obtain ⟨v, r, rfl, h1, h2⟩ := h
    simp only [RP] at h1
    subst h1
    rw [rps_strs h2]
    rfl
theorem strs_rps {K : PySem.W.Frag} {Z : Addr → Prop} {m : Mu} {H : Hp} : ∀ (zs : List Str), RPs K Z m H (zs.map PyData.str) (zs.map V.str)
  | [] => by simp [RPs]
  | z :: zs => by
    simp only [List.map_cons, RPs]
    exact ⟨_, _, rfl, by simp only [RP], strs_rps zs⟩
def KT (K : PySem.W.Frag) (a : Addr) (zs : List Str) : Prop := ∃ (o : Obj) (its : Array Value) (n : Nat), K.lookup a = some o ∧ o.cls = .type "tuple" ∧ o.dict = none ∧ o.data = .seq its n ∧ its.size ≤ sizeLine ∧ Vals (zs.map V.str) its.toList
theorem KT.sq {K : PySem.W.Frag} {a : Addr} {zs : List Str} {H : Hp} (h : KT K a zs) : SqT K H a (zs.map V.str) := by
  obtain ⟨o, its, n, h1, h2, h3, h4, h5, h6⟩ := h
  exact .inr ⟨o, its, n, h1, ⟨h2, h3⟩, h4, h5, h6⟩
@[simp] def bTuple : DC
  | [.dat (.tuple xs)], m, Q => Q (.dat (.tuple xs)) m
  | [.dat (.list xs)], m, Q => Q (.dat (.tuple xs)) m
  | [.cel c], m, Q => ∃ xs, m c = some (.l xs) ∧ Q (.dat (.tuple xs)) m
  | _, _, _ => False
theorem cd_tuple : CallD X (.type "tuple") bTuple := by
  intro pins s σ H Z m xs ds us R Q I ok rv rd h k
  unfold bTuple at h
  split at h
  · obtain ⟨v, rfl, r1⟩ := rd.one
    have r0 := r1
    simp only [RD, RP] at r1
    obtain ⟨a, vs, rfl, h1, h2⟩ := r1
    exact call_tuple_of pins s σ H _ us Q I rv ⟨a, vs, rfl, .inr ⟨h1, k _ m _ H h Ext.refl ok r0⟩⟩
  · obtain ⟨v, rfl, r1⟩ := rd.one
    simp only [RD, RP] at r1
    obtain ⟨a, vs, rfl, _, h1, h2⟩ := r1
    refine call_tuple_of pins s σ H _ us Q I rv ⟨a, vs, rfl, .inl ⟨h1, fun l hl => ?_⟩⟩
    have sm : Same H (upd H l (.tup vs)) := same_new hl
    refine k _ m _ _ h (ok.ext sm) (ok.grow sm) ?_
    simp only [RD, RP]
    exact ⟨l, vs, rfl, .inl (.inl upd_same), RPs.ext (ok.ext sm) _ _ h2⟩
  · obtain ⟨v, rfl, r1⟩ := rd.one
    obtain ⟨rfl, _⟩ := r1
    obtain ⟨ys, hm, q⟩ := h
    obtain ⟨vs, h1, h2⟩ := ok.l hm
    refine call_tuple_of pins s σ H _ us Q I rv ⟨_, vs, rfl, .inl ⟨.inl (.inl h1), fun l hl => ?_⟩⟩
    have sm : Same H (upd H l (.tup vs)) := same_new hl
    refine k _ m _ _ q (ok.ext sm) (ok.grow sm) ?_
    simp only [RD, RP]
    exact ⟨l, vs, rfl, .inl (.inl upd_same), RPs.ext (ok.ext sm) _ _ h2⟩
  · exact h.elim
end
end DL
set_option Elab.async false
set_option linter.all false
set_option maxRecDepth 100000
set_option maxHeartbeats 4000000
namespace DL
open PySem PySem.Spec PyProof.Rows L2
def chkB (scope : Scope) (env : Env) : Bool := scope.names.all fun y => (decide (y.2 ≠ .cell)) && (!decide (y.2 = .local) || decide (scope.names.lookup y.1 = some .local)) && (!decide (y.2 = .free) || decide (env.kindOf y.1 = some .cell) || decide (env.kindOf y.1 = some .free))
def chkS (N : List Str) (scope : Scope) (env : Env) : List Str → List (Option Nat) → Bool
  | [], [] => true
  | x :: xs, o :: os => (match o with | none => true | some j => decide (N[j]? = some x) && decide ((x, NameKind.free) ∈ scope.names) && (decide ((relabel scope env).names.lookup x = some .cell) || decide ((relabel scope env).names.lookup x = some .free))) && chkS N scope env xs os
  | _, _ => false
theorem chkB.ok {scope : Scope} {env : Env} (h : chkB scope env = true) : (∀ y ∈ scope.names, y.2 ≠ .cell) ∧ (∀ y ∈ scope.names, y.2 = .local → scope.names.lookup y.1 = some .local) ∧ ∀ x, (x, NameKind.free) ∈ scope.names → env.kindOf x = some .cell ∨ env.kindOf x = some .free := by
  unfold chkB at h
  rw [List.all_eq_true] at h
  have q : ∀ y ∈ scope.names, y.2 ≠ .cell ∧ (y.2 = .local → scope.names.lookup y.1 = some .local) ∧ (y.2 = .free → env.kindOf y.1 = some .cell ∨ env.kindOf y.1 = some .free) := fun y hy => by
    have := h y hy
    simp only [Bool.and_eq_true, Bool.or_eq_true, Bool.not_eq_true', decide_eq_true_eq, decide_eq_false_iff_not] at this
    obtain ⟨⟨a, b⟩, c⟩ := this
    refine ⟨a, fun e => b.resolve_left (fun n => n e), fun e => ?_⟩
    rcases c with (c | c) | c
    · exact absurd e c
    · exact .inl c
    · exact .inr c
  exact ⟨fun y hy => (q y hy).1, fun y hy => (q y hy).2.1, fun x hx => (q _ hx).2.2 rfl⟩
theorem chkS.ok {X : Cx} {scope : Scope} : ∀ {NC : List Str} {src : List (Option Nat)}, chkS X.N scope X.env NC src = true → srcChk X scope NC src
  | [], [], _ => ⟨rfl, fun i x j h => by simp at h⟩
  | [], _ :: _, h => by simp [chkS] at h
  | _ :: _, [], h => by simp [chkS] at h
  | y :: ys, o :: os, h => by
    simp only [chkS, Bool.and_eq_true] at h
    obtain ⟨h1, h2⟩ := h
    obtain ⟨q1, q2⟩ := chkS.ok h2
    refine ⟨by rw [List.length_cons, List.length_cons, q1], fun i x j e1 e2 => ?_⟩
    cases i with
    | zero =>
      simp at e1 e2
      subst e1 e2
      simp only [Bool.and_eq_true, Bool.or_eq_true, decide_eq_true_eq] at h1
      exact ⟨h1.1.1, h1.1.2, h1.2⟩
    | succ i => exact q2 i x j (by simpa using e1) (by simpa using e2)
section
variable {X : Cx} {tg iter elt : Expr} {ifs : List Expr} {scope : Scope} {fi : DI} {g : DG} {t : DT} {f : DE} {pos : Pos}
theorem le_lcB (NC : List Str) (src : List (Option Nat)) (hc : X.calm = true) (hi : PI X tg iter (LI X.K fi))
    (hg : ∀ cl C s2 H2 pins fp, PG (cyOf X scope cl C NC s2 H2 pins fp) tg (LG X.K g)) (ht : ∀ cl C s2 H2 pins fp, PF (cyOf X scope cl C NC s2 H2 pins fp) ifs (LT X.K t)) (he : ∀ cl C s2 H2 pins fp, PE (cyOf X scope cl C NC s2 H2 pins fp) elt (LE X.K f))
    (hkind : scope.kind = .function := by rfl) (hB : chkB scope X.env = true := by rfl) (hS : chkS X.N scope X.env NC src = true := by rfl)
    (hs : ∀ x, foldedSetIterable iter X.env x = pure x := by intro _; rfl) : PE X (.ListComp elt [⟨tg, iter, ifs, 0⟩] scope pos) (LE X.K (dLC src fi g t f)) :=
  le_lc (NC := NC) src hc hi hg ht he hkind (chkB.ok hB).1 (chkB.ok hB).2.1 (chkB.ok hB).2.2 (chkS.ok hS) hs
theorem ls_lcB (i : Nat) {y : Str} {py spos : Pos} (NC : List Str) (src : List (Option Nat)) (hc : X.calm = true) (hN : X.N.Nodup) (hi : PI X tg iter (LI X.K fi))
    (hg : ∀ cl C s2 H2 pins fp, PG (cyOf X scope cl C NC s2 H2 pins fp) tg (LG X.K g)) (ht : ∀ cl C s2 H2 pins fp, PF (cyOf X scope cl C NC s2 H2 pins fp) ifs (LT X.K t)) (he : ∀ cl C s2 H2 pins fp, PE (cyOf X scope cl C NC s2 H2 pins fp) elt (LE X.K f))
    (hkind : scope.kind = .function := by rfl) (hB : chkB scope X.env = true := by rfl) (hS : chkS X.N scope X.env NC src = true := by rfl)
    (hi2 : X.N[i]? = some y := by rfl) (hx : Loc X.env.scope y := by first | exact Or.inl rfl | exact Or.inr rfl) (hf : X.fn y = true ∨ X.env.scope.names.lookup y = some .local := by first | exact .inl rfl | exact .inr rfl)
    (hsw : swapsWith (.ListComp elt [⟨tg, iter, ifs, 0⟩] scope pos) (some (.Name y py)) spos.line X.env = pure true := by rfl)
    (hs : ∀ x, foldedSetIterable iter X.env x = pure x := by intro _; rfl) : PS X (.Assign [.Name y py] (.ListComp elt [⟨tg, iter, ifs, 0⟩] scope pos) spos) (LS X.K (dSet i (dLC src fi g t f))) :=
  ls_lc (NC := NC) i src hc hi hg ht he hkind (chkB.ok hB).1 (chkB.ok hB).2.1 (chkB.ok hB).2.2 (chkS.ok hS) hN hi2 hx hf hsw hs
end
end DL
set_option Elab.async false
set_option linter.all false
set_option maxRecDepth 100000
set_option maxHeartbeats 4000000
namespace DL
open PySem PySem.Spec PyProof.Rows L2
section
variable {prog : Program} {w : World} {A : Around} {R : Result → Shared → Prop} {s : Shared}
end
structure ExtW (K : PySem.W.Frag) (Z : Addr → Prop) (D : Addr) (m : Mu) (H : Hp) (m' : Mu) (H' : Hp) : Prop where
  t : ∀ a vs, SqT K H a vs → SqT K H' a vs
  l : ∀ a vs, (m a = none ∧ ¬ rsv Z D a) → SqL K H a vs → m' a = none ∧ SqL K H' a vs
  z : ∀ a, Z a → H' a = H a
  c : ∀ a, (m a).isSome = true → (m' a).isSome = true
  fz : ∀ a o u, H a = some (.frz o u) → H' a = some (.frz o u)
  fm : ∀ a, isF (m a) = true → m' a = m a
section
variable {K : PySem.W.Frag} {Z : Addr → Prop} {m m1 m' m2 : Mu} {H H1 H' H2 : Hp} {D : Addr} {ys zs : List V}
theorem ExtW.refl : ExtW K Z D m H m H := ⟨fun _ _ h => h, fun _ _ h1 h2 => ⟨h1.1, h2⟩, fun _ _ => rfl, fun _ h => h, fun _ _ _ h => h, fun _ _ => rfl⟩
theorem ExtW.y (e : ExtW K Z D m H m' H') : ExtY K (rsv Z D) m H m' H' := ⟨e.t, e.l, e.fz⟩
theorem ExtW.trans (a : ExtW K Z D m H m' H') (b : ExtW K Z D m' H' m2 H2) : ExtW K Z D m H m2 H2 :=
  ⟨fun x vs h => b.t x vs (a.t x vs h), fun x vs h1 h2 => let ⟨q1, q2⟩ := a.l x vs h1 h2; b.l x vs ⟨q1, h1.2⟩ q2, fun x h => (b.z x h).trans (a.z x h), fun x h => b.c x (a.c x h), fun x o u h => b.fz x o u (a.fz x o u h), fun x h => by
    have q := a.fm x h
    rw [b.fm x (by rw [q]; exact h), q]⟩
theorem Ext.w (e : Ext K (rsv Z D) m H m' H') : ExtW K Z D m H m' H' := ⟨e.t, e.l, fun a h => e.z a (.inl h), e.c, e.fz, e.fm⟩
theorem ExtW.put (hz : ¬ Z D) (hD : H D = some (.lst ys)) : ExtW K Z D m H m (upd H D (.lst zs)) :=
  ⟨tr_put_t hD, fun a vs h1 h2 => ⟨h1.1, sql_put (fun e => h1.2 (.inr e)) h2⟩, fun a h => by
    have ne : a ≠ D := by rintro rfl; exact hz h
    rw [upd_ne ne], fun _ h => h, fun a o u h => by
    rw [upd_ne (by rintro rfl; rw [hD] at h; cases h)]
    exact h, fun _ _ => rfl⟩
theorem ExtW.rd {x : DL.D} {v : V} (e : ExtW K Z D m H m' H') (h : RD K (rsv Z D) m H x v) : RD K (rsv Z D) m' H' x v := by
  cases x with
  | dat p => exact RP.tr e.t (fun a vs h1 h2 => let ⟨q1, q2⟩ := e.l a vs h1 h2; ⟨⟨q1, h1.2⟩, q2⟩) p v h e.fz
  | cel a => exact ⟨h.1, e.c a h.2⟩
end
section
variable {Y : Cx} {tg iter tg2 iter2 elt : Expr} {ifs ifs2 : List Expr} {scope : Scope} {fi2 : DI} {g2 : DG} {t2 : DT} {f : DE} {pos : Pos}
end
end DL
set_option Elab.async false
set_option linter.all false
set_option maxRecDepth 100000
set_option maxHeartbeats 4000000
namespace DL
open PySem PySem.Spec PyProof.Rows L2
section
variable {X : Cx} {tg iter tg2 iter2 elt : Expr} {ifs ifs2 : List Expr} {scope : Scope} {NC : List Str} {fi fi2 : DI} {g g2 : DG} {t t2 : DT} {f : DE} {pos : Pos}
theorem le_call0 {k n : Nat} {fa : Addr} {fd : FuncData} {ps : List Str} {sp : DC} {x : Str} {p : Pos} (F : FnOk X.prog X.w X.K X.mg X.base CX0 k fa fd ps (LSp X.K n sp)) (hr : Room k X.A) (hm : X.mg x = some (.ref fa)) (hk : PySem.W.keepIn X.K (.ref fa) = true)
    (hb : Binds X.K fd ps []) (hx : X.xe = fun _ _ => False) (hg : Gl X x := by rfl) (hdb : (x == ("__debug__" : Str)) = false := by decide) : PE X (.Call (.Name x p) [] [] pos) (LE X.K (dCall n sp dNil)) :=
  PE.imp (pe_call0 F hr hg hm hk hb .nil (pass0 (X := X)) hdb) fun s H Q h => by
    obtain ⟨Z, d, m, R, ok, rs, ⟨hl, q⟩, k⟩ := h
    exact ⟨Z, [], m, R, ok, by simp [RDs], hl, q, fun d' m' v' H' h1 h2 h3 h4 => k d' m' v' H' h1 h2 h3 h4⟩
end
end DL
set_option Elab.async false
set_option linter.all false
set_option maxRecDepth 100000
set_option maxHeartbeats 4000000
namespace DL
open PySem PySem.Spec PyProof.Rows L2
section
variable {prog : Program} {w : World} {A : Around} {E : Value → Shared → Prop} {s : Shared}
end
end DL
set_option Elab.async false
set_option linter.all false
set_option maxRecDepth 100000
set_option maxHeartbeats 4000000
namespace DL
open PySem PySem.Spec PyProof.Rows L2
section
variable {X : Cx} {pins : List (Addr × Obj)} {σ : L2.St} {H : Hp} {s : Shared} {h' : Heap}
end
section
variable {prog : Program} {w : World} {A : Around} {E : Value → Shared → Prop} {s : Shared}
end
section
variable {X : Cx} {a b : Expr} {elts : List Expr} {j : Nat} {f g : DE} {pos p p2 : Pos}
end
end DL
set_option Elab.async false
set_option linter.all false
set_option maxRecDepth 100000
set_option maxHeartbeats 4000000
namespace DL
open PySem PySem.Spec PyProof.Rows L2
section
variable {X : Cx} {a e o : Expr} {es : List Expr} {f g : DE} {ga : DA} {pos p p1 p2 : Pos}
theorem boot_sorted_ : bootBuiltins "sorted" = some (.builtin "sorted") := by decide +kernel
theorem pick_len (x : Str) (l u : Option (Int × Tok)) : (slicePicked x l u none).length ≤ x.length := by
  unfold slicePicked Builtin.Str.strSliceIndices sliceRange
  simp only [List.length_map, List.length_range, Option.map_none, Option.getD_none]
  have h1 : (1 : Int) > 0 := by decide
  simp only [h1, if_true]
  cases l <;> cases u <;> simp only [Option.map_none, Option.map_some] <;> repeat' split <;> omega
theorem fm_len {α β : Type} (f : α → Option β) : ∀ xs : List α, (xs.filterMap f).length ≤ xs.length
  | [] => Nat.le_refl _
  | x :: xs => by
    rw [List.filterMap_cons]
    have := fm_len f xs
    cases f x with
    | none => exact Nat.le_succ_of_le this
    | some y => exact Nat.succ_le_succ this
def rSlS : V → Option Int → Option Int → Hp → VK → Prop := fun x lo hi H Q => ∃ z : Str, x = .str z ∧ z.length ≤ sizeLine ∧ ∀ y : Str, y.length ≤ z.length → Q (.str y) H
theorem part_of {v : Value} {lo : Option Int} (h : IsPart v lo) : ∃ l, v = partValue l := by
  cases h with
  | none => exact ⟨none, rfl⟩
  | int i t => exact ⟨some (i, t), rfl⟩
theorem sl_str : SlR X rSlS := by
  intro pins s σ H x v vl vu lo hi sl Q I rx hs pl pu h
  obtain ⟨z, rfl, hz, q⟩ := h
  obtain ⟨t, rfl⟩ := rx
  obtain ⟨l, rfl⟩ := part_of pl
  obtain ⟨u, rfl⟩ := part_of pu
  refine ⟨"str", _, PySem.F.slot_str_getitem.lookup, typeIs_str s z t, ?_⟩
  refine wpAny_getItem_str_slice (l := l) (u := u) (st := none) hs rfl ?_
  unfold sliceMade
  split
  · exact ⟨.str z, H, I, ⟨_, rfl⟩, q z (Nat.le_refl _)⟩
  · have hl : (⟨((slicePicked z l u none).filterMap (z.cps[·]?)).toArray⟩ : Str).length ≤ z.length := by
      show ((slicePicked z l u none).filterMap (z.cps[·]?)).toArray.size ≤ z.length
      rw [List.size_toArray]
      exact Nat.le_trans (fm_len _ _) (pick_len z l u)
    exact ⟨Nat.le_trans hl hz, .str _, H, I.tok _, ⟨_, rfl⟩, q _ hl⟩
@[simp] def dApp (fo g : DE) : DE := fun d m Q => fo d m fun o m1 => ∃ c, o = .cel c ∧ (∃ ys, m1 c = some (.l ys)) ∧ g d m1 fun x m2 => ∃ xs p, x = .dat p ∧ m2 c = some (.l xs) ∧ xs.length < sizeLine ∧ Q (.dat .none) (updM m2 c (.l (xs ++ [p])))
theorem le_app {apos cpos : Pos} (ho : PE X o (LE X.K f)) (he : PE X e (LE X.K g)) (hbase : attributeBase o "append" X.env (eval o X.env) = eval o X.env := by rfl)
    (hfew : ((backTo cpos (starEach [e] X.env)).all (fun x => !x.1) && (backToKw cpos (keywordEach [] X.env)).all (fun x => x.1.isSome) && decide ([e].length + ([] : List Keyword).length + (if ([] : List Keyword).isEmpty then 0 else 1) < 30)) = true := by rfl)
    (hline : (apos.endLine == cpos.line) = true := by rfl) (hs : starEach [e] X.env = (false, eval e X.env) :: starEach [] X.env := by rfl) : PE X (.Call (.Attribute o "append" apos) [e] [] cpos) (LE X.K (dApp f g)) :=
  PE.imp (pe_bm (T := "list") (id := "list.append") (name := "append") PySem.F.plainAttrs_list PySem.F.slot_list_append PySem.F.type_list_append mt_append ho (pa_cons he pa_nil hs) hbase hfew hline hs rfl) fun s H Q h => by
    obtain ⟨Z, d, m, R, ok, rs, h, k⟩ := h
    refine ⟨Z, d, m, _, ok, rs, h, fun x m1 v H1 ⟨c, ex, ⟨xs0, hx0⟩, q⟩ e1 ok1 rd => ?_⟩
    subst ex
    obtain ⟨rfl, hc⟩ := rd
    obtain ⟨vs0, g0, _⟩ := ok1.l hx0
    refine ⟨.inl ⟨rfl, vs0, .inl (.inl g0)⟩, Z, d, m1, _, ok1, rs.ext e1, q, fun y m2 w H2 ⟨xs, pp, ey, hm, hz, q2⟩ e2 ok2 rd2 => ?_⟩
    subst ey
    obtain ⟨vs, g1, g2⟩ := ok2.l hm
    refine ⟨c, vs, w, rfl, rfl, g1, by rw [g2.length]; exact hz, ?_⟩
    refine k _ _ _ _ q2 (e1.trans (e2.trans (Ext.put ok2 hm g1))) (ok2.put hm g1 (show RPs _ _ _ _ _ _ from g2.append ?_)) (by simp only [RD, RP])
    simp only [RPs]
    exact ⟨w, [], rfl, rd2, rfl⟩
@[simp] def dSlX (f : DE) (lo hi : DO) : DE := fun d m Q => f d m fun x m1 => lo d m1 fun l m2 => hi d m2 fun u m3 =>
  (∃ xs, x = .dat (.tuple xs) ∧ Q (.dat (.tuple (cutP xs l u))) m3) ∨ (∃ xs, x = .dat (.list xs) ∧ Q (.dat (.list (cutP xs l u))) m3) ∨ (∃ z : Str, x = .dat (.str z) ∧ z.length ≤ sizeLine ∧ ∀ y : Str, y.length ≤ z.length → Q (.dat (.str y)) m3)
theorem le_slX {lo hi : Option Expr} {tl th : DO} (ha : PE X a (LE X.K f)) (hl : PO X lo (LO X.K tl)) (hu : PO X hi (LO X.K th)) : PE X (.Subscript a (.Slice lo hi none p2) pos) (LE X.K (dSlX f tl th)) :=
  PE.imp (pe_slice (sl_tup.or (sl_whole.or (sl_list.or sl_str))) ha hl hu) fun s H Q h => by
    obtain ⟨Z, d, m, R, ok, rs, h, k⟩ := h
    refine ⟨Z, d, m, _, ok, rs, h, fun x m1 v H1 q e1 ok1 rx => ⟨Z, d, m1, _, ok1, rs.ext e1, q, fun l m2 H2 q2 e2 ok2 => ⟨Z, d, m2, _, ok2, (rs.ext e1).ext e2, q2, fun u m3 H3 q3 e3 ok3 => ?_⟩⟩⟩
    have e13 := e1.trans (e2.trans e3)
    have rx3 := rx.ext (e2.trans e3)
    rcases q3 with ⟨xs, rfl, q4⟩ | ⟨xs, rfl, q4⟩ | ⟨z, rfl, hz, q4⟩
    · simp only [RD, RP] at rx3
      obtain ⟨a, vs, rfl, h1, h2⟩ := rx3
      by_cases hw : HT.sIx vs.length 0 l = 0 ∧ HT.sIx vs.length vs.length u = vs.length
      · refine .inr (.inl ⟨a, vs, rfl, h1, hw, k _ m3 _ H3 q4 e13 ok3 ?_⟩)
        rw [h2.length] at hw
        rw [cut_whole xs hw]
        simp only [RD, RP]
        exact ⟨a, vs, rfl, h1, h2⟩
      · refine .inl ⟨a, vs, rfl, h1, hw, fun p hp => ?_⟩
        have sm : Same H3 (upd H3 p (.tup (cutV vs l u))) := same_new hp
        refine k _ m3 _ _ q4 (e13.trans (ok3.ext sm)) (ok3.grow sm) ?_
        simp only [RD, RP]
        exact ⟨p, _, rfl, .inl (.inl upd_same), RPs.ext (ok3.ext sm) _ _ h2.cut⟩
    · simp only [RD, RP] at rx3
      obtain ⟨a, vs, rfl, h0, h1, h2⟩ := rx3
      refine .inr (.inr (.inl ⟨a, vs, rfl, h1, fun p hp => ?_⟩))
      have sm : Same H3 (upd H3 p (.lst (cutV vs l u))) := same_new hp
      refine k _ m3 _ _ q4 (e13.trans (ok3.ext sm)) (ok3.grow sm) ?_
      simp only [RD, RP]
      exact ⟨p, _, rfl, ok_none ok3 hp, .inl (.inl upd_same), RPs.ext (ok3.ext sm) _ _ h2.cut⟩
    · cases rx3.str
      exact .inr (.inr (.inr ⟨z, rfl, hz, fun y hy => k _ m3 _ H3 (q4 y hy) e13 ok3 .ofStr⟩))
end
end DL
set_option Elab.async false
set_option linter.all false
set_option maxRecDepth 100000
set_option maxHeartbeats 4000000
namespace DL
open PySem PySem.Spec PyProof.Rows L2
def valP {κ : Type} [DecidableEq κ] (kvs : List (κ × PyData)) (k : κ) : Option PyData := (kvs.find? fun kv => decide (kv.1 = k)).map (·.2)
def putP {κ : Type} [DecidableEq κ] (kvs : List (κ × PyData)) (k : κ) (p : PyData) : List (κ × PyData) :=
  if (kvs.any fun kv => decide (kv.1 = k)) = true then kvs.map (fun kv => if kv.1 = k then (kv.1, p) else kv) else kvs ++ [(k, p)]
section
variable {κ : Type} [DecidableEq κ] {K : PySem.W.Frag} {Z : Addr → Prop} {m : Mu} {H : Hp}
theorem RKV.length : ∀ {kvs : List (κ × PyData)} {vs : List (κ × V)}, RKV K Z m H kvs vs → vs.length = kvs.length
  | [], _, h => by cases (show _ = [] from h); rfl
  | _ :: _, _, ⟨v, r, h1, _, h3⟩ => by subst h1; rw [List.length_cons, List.length_cons, RKV.length h3]
theorem RKV.val {k : κ} {p : PyData} : ∀ {kvs : List (κ × PyData)} {vs : List (κ × V)}, RKV K Z m H kvs vs → valP kvs k = some p → ∃ v, valV vs k = some v ∧ RP K Z m H p v
  | [], _, _, e => by simp [valP] at e
  | (j, q) :: xs, _, ⟨v, r, h1, h2, h3⟩, e => by
    subst h1
    unfold valP at e
    unfold valV
    by_cases c : j = k
    · simp [List.find?_cons, c] at e ⊢
      exact e ▸ h2
    · simp [List.find?_cons, c] at e ⊢
      have := RKV.val (k := k) (p := p) h3 (by unfold valP; simpa using e)
      unfold valV at this
      simpa using this
theorem RKV.any {k : κ} : ∀ {kvs : List (κ × PyData)} {vs : List (κ × V)}, RKV K Z m H kvs vs → (vs.any fun kv => decide (kv.1 = k)) = (kvs.any fun kv => decide (kv.1 = k))
  | [], _, h => by cases (show _ = [] from h); rfl
  | _ :: _, _, ⟨v, r, h1, _, h3⟩ => by subst h1; rw [List.any_cons, List.any_cons, RKV.any h3]
theorem RKV.repl {k : κ} {p : PyData} {v : V} (hp : RP K Z m H p v) : ∀ {kvs : List (κ × PyData)} {vs : List (κ × V)}, RKV K Z m H kvs vs → RKV K Z m H (kvs.map fun kv => if kv.1 = k then (kv.1, p) else kv) (vs.map fun kv => if kv.1 = k then (kv.1, v) else kv)
  | [], _, h => by cases (show _ = [] from h); exact (rfl : ([] : List (κ × V)) = [])
  | (j, q) :: xs, _, ⟨w, r, h1, h2, h3⟩ => by
    subst h1
    rw [List.map_cons, List.map_cons]
    by_cases c : j = k
    · rw [if_pos c, if_pos c]
      exact ⟨v, _, rfl, hp, RKV.repl hp h3⟩
    · rw [if_neg c, if_neg c]
      exact ⟨w, _, rfl, h2, RKV.repl hp h3⟩
theorem RKV.snoc {k : κ} {p : PyData} {v : V} (hp : RP K Z m H p v) : ∀ {kvs : List (κ × PyData)} {vs : List (κ × V)}, RKV K Z m H kvs vs → RKV K Z m H (kvs ++ [(k, p)]) (vs ++ [(k, v)])
  | [], _, h => by cases (show _ = [] from h); exact ⟨v, [], rfl, hp, rfl⟩
  | _ :: _, _, ⟨w, r, h1, h2, h3⟩ => by subst h1; exact ⟨w, _, rfl, h2, RKV.snoc hp h3⟩
theorem RKV.put {k : κ} {p : PyData} {v : V} {kvs : List (κ × PyData)} {vs : List (κ × V)} (h : RKV K Z m H kvs vs) (hp : RP K Z m H p v) : RKV K Z m H (putP kvs k p) (putK vs k v) := by
  unfold putP putK
  rw [h.any]
  split
  · exact h.repl hp
  · exact h.snoc hp
end
@[simp] def keyD : D → Option Key
  | .dat (.str z) => some (.inr z)
  | .dat (.int i) => some (.inl i)
  | _ => none
theorem RD.key {K : PySem.W.Frag} {Z : Addr → Prop} {m : Mu} {H : Hp} {x : D} {v : V} {k : Key} (h : RD K Z m H x v) (e : keyD x = some k) : v = kV k := by
  unfold keyD at e
  split at e
  · cases e; cases h.str; rfl
  · cases e; cases h.int; rfl
  · cases e
section
variable {X : Cx} {o i e : Expr} {fo fi f : DE} {pos tpos : Pos}
@[simp] def dDPut (fo fi f : DE) : DS := fun E d m => f d m fun x m1 => fo d m1 fun o m2 => fi d m2 fun y m3 => ∃ c k kvs p, o = .cel c ∧ keyD y = some k ∧ x = .dat p ∧ m3 c = some (.d kvs) ∧ kvs.length < sizeLine ∧ E.nx d (updM m3 c (.d (putP kvs k p)))
theorem ls_dput (hu : X.A.units + 100 < cLine) (he : PE X e (LE X.K f)) (ho : PE X o (LE X.K fo)) (hi : PE X i (LE X.K fi)) (hs : swapsWith e (some (.Subscript o i tpos)) pos.line X.env = pure false := by rfl) :
    PS X (.Assign [.Subscript o i tpos] e pos) (LS X.K (dDPut fo fi f)) := PS.imp (ps_dput (by omega) ho hi he hs) fun E s H h => by
  obtain ⟨Z, d, m, R, ok, rs, h, k, _⟩ := h
  refine ⟨Z, d, m, _, ok, rs, h, fun x m1 v H1 q e1 ok1 r1 => ⟨Z, d, m1, _, ok1, rs.ext e1, q, fun o m2 w H2 q2 e2 ok2 r2 => ⟨Z, d, m2, _, ok2, (rs.ext e1).ext e2, q2, fun y m3 z H3 q3 e3 ok3 r3 => ?_⟩⟩⟩
  obtain ⟨c, ky, kvs, p, rfl, hk, rfl, hm, hl, q⟩ := q3
  cases r3.key hk
  obtain ⟨rfl, _⟩ := r2.ext e3
  obtain ⟨vs, g1, g2⟩ := ok3.d hm
  have r1' := r1.ext (e2.trans e3)
  refine ⟨c, _, rfl, .inl ⟨vs, ky, g1, rfl, by rw [g2.length]; exact hl, rfl⟩, ?_⟩
  have e4 : Ext X.K Z m3 H3 (updM m3 c (.d (putP kvs ky p))) (upd H3 c (.dK (putK vs ky v))) := Ext.put ok3 hm g1
  exact k d _ s _ q (e1.trans (e2.trans (e3.trans e4))) (ok3.put hm g1 (show RKV _ _ _ _ _ _ from g2.put r1')) ((rs.ext e1).ext (e2.trans (e3.trans e4)))
@[simp] def dDGet (fo fi : DE) : DE := fun d m Q => fo d m fun o m1 => fi d m1 fun y m2 => ∃ c k kvs p, o = .cel c ∧ keyD y = some k ∧ m2 c = some (.d kvs) ∧ valP kvs k = some p ∧ Q (.dat p) m2
theorem le_dget (hu : X.A.units + 100 < cLine) (ho : PE X o (LE X.K fo)) (hi : PE X i (LE X.K fi)) (hs : NoSl i := by exact fun _ _ => rfl) : PE X (.Subscript o i pos) (LE X.K (dDGet fo fi)) :=
  PE.imp (pe_dget (by omega) ho hi hs) fun s H Q h => by
    obtain ⟨Z, d, m, R, ok, rs, h, k⟩ := h
    refine ⟨Z, d, m, _, ok, rs, h, fun o m1 v H1 q e1 ok1 r1 => ⟨Z, d, m1, _, ok1, rs.ext e1, q, fun y m2 w H2 q2 e2 ok2 r2 => ?_⟩⟩
    obtain ⟨c, ky, kvs, p, rfl, hk, hm, hv, q⟩ := q2
    cases r2.key hk
    obtain ⟨rfl, _⟩ := r1.ext e2
    obtain ⟨vs, g1, g2⟩ := ok2.d hm
    obtain ⟨v, hv', rv⟩ := g2.val hv
    exact ⟨c, v, rfl, .inl ⟨vs, ky, .inl g1, rfl, hv'.symm⟩, k _ m2 _ H2 q (e1.trans e2) ok2 rv⟩
end
end DL
set_option Elab.async false
set_option linter.all false
set_option maxRecDepth 100000
set_option maxHeartbeats 4000000
namespace DL
open PySem PySem.Spec PyProof.Rows L2
open AutoSeq1 (wpAny_loadPart')
section
variable {prog : Program} {w : World} {A : Around} {E : Value → Shared → Prop} {s : Shared}
end
section
variable {X : Cx} {e : Expr} {f : DE} {pos p p2 pos2 : Pos}
end
end DL
set_option Elab.async false
set_option linter.all false
set_option maxRecDepth 100000
set_option maxHeartbeats 4000000
namespace DL
open PySem PySem.Spec PyProof.Rows L2
def KEnt (w : World) : List DictEntry → List (Str × V) → Prop
  | [], [] => True
  | e :: es, (z, v) :: kvs => e.hash = PyData.keyHash w.params z ∧ (∃ t, e.key = .str z t) ∧ RelV v e.val ∧ KEnt w es kvs
  | _, _ => False
def KDt (K : PySem.W.Frag) (w : World) (a : Addr) (kvs : List (Str × V)) : Prop :=
  ∃ (o : Obj) (es : Array DictEntry) (ep : Nat), K.lookup a = some o ∧ o.cls = .type "dict" ∧ o.dict = none ∧ o.slots = #[] ∧ o.data = .dict es ep ∧ KEnt w es.toList kvs ∧ (kvs.map (·.1)).Nodup ∧ (a == sysModules) = false
def KD (K : PySem.W.Frag) (w : World) (a : Addr) (kvs : List (Str × PyData)) : Prop := ∃ vs : List (Str × V), KDt K w a vs ∧ ∀ (Z : Addr → Prop) (m : Mu) (H : Hp), RKV K Z m H kvs vs
def inrs {α : Type} (kvs : List (Str × α)) : List (Key × α) := kvs.map fun kv => (.inr kv.1, kv.2)
theorem KEnt.out {P : Program} {w : World} : ∀ {es : List DictEntry} {kvs : List (Str × V)}, KEnt w es kvs → ∃ vs : List (Str × Value), KV (inrs kvs) (inrs vs) ∧ Pairs (mixKind P w) es (inrs vs) ∧ (∀ e ∈ es, ∃ k, (mixKind P w).is k e.key = true ∧ e.hash = (mixKind P w).hash k) ∧ vs.map (·.1) = kvs.map (·.1)
  | [], [], _ => ⟨[], .nil, .nil, by simp, rfl⟩
  | e :: es, (z, v) :: kvs, ⟨h1, ⟨t, h2⟩, h3, h4⟩ => by
    obtain ⟨vs, q1, q2, q3, q4⟩ := KEnt.out (P := P) h4
    have hk : (mixKind P w).is (.inr z) e.key = true := by
      rw [h2]
      exact decide_eq_true (rfl : z = z)
    refine ⟨(z, e.val) :: vs, .cons ⟨rfl, h3⟩ q1, .cons hk rfl q2, fun x hx => ?_, by simp [q4]⟩
    rcases List.mem_cons.mp hx with rfl | hx
    · exact ⟨_, hk, h1⟩
    · exact q3 x hx
  | [], _ :: _, h => h.elim
  | _ :: _, [], h => h.elim
theorem KDt.dictOf {K : PySem.W.Frag} {P : Program} {w : World} {a : Addr} {kvs : List (Str × V)} {h : Heap} (q : KDt K w a kvs) (hK : K.In h) : ∃ vs : List (Key × Value), KV (inrs kvs) vs ∧ h.DictOf (mixKind P w) a vs := by
  obtain ⟨o, es, ep, h1, h2, h3, h4, h5, h6, h7, _⟩ := q
  obtain ⟨vs, q1, q2, q3, q4⟩ := KEnt.out (P := P) h6
  refine ⟨_, q1, o, es, ep, hK _ _ h1, ⟨h2, h3, h4⟩, h5, fun e he => q3 e (by simpa using he), q2, ?_⟩
  have e : (inrs vs).map (·.1) = (kvs.map (·.1)).map Sum.inr := by
    rw [← q4]
    simp [inrs, Function.comp_def]
  rw [e]
  exact List.Pairwise.map _ (fun a b hab h => hab (Sum.inr.inj h)) h7
theorem valV_inrs {z : Str} : ∀ kvs : List (Str × V), valV (inrs kvs) (.inr z) = valV kvs z
  | [] => rfl
  | (y, v) :: kvs => by
    have ih := valV_inrs (z := z) kvs
    unfold valV inrs at *
    by_cases c : y = z
    · simp [List.find?_cons, c]
    · simp only [List.map_cons, List.find?_cons, c, decide_false, Sum.inr.injEq]
      exact ih
theorem rp_ints {K : PySem.W.Frag} {Z : Addr → Prop} {m : Mu} {H : Hp} {a : Addr} {is : List Int} (h : SqT K H a (is.map V.int)) : RP K Z m H (.tuple (is.map PyData.int)) (.ref a) := by
  simp only [RP]
  exact ⟨a, _, rfl, h, rps_ints is⟩
section
variable {X : Cx} {i e g : Expr} {fi f fg : DE} {p pos apos cpos : Pos}
@[simp] def dDGetC (kvs : List (Str × PyData)) (fi : DE) : DE := fun d m Q => fi d m fun y m1 => ∃ (z : Str) (q : PyData), y = .dat (.str z) ∧ valP kvs z = some q ∧ Q (.dat q) m1
theorem le_dgetC {x : Str} {c : Addr} {kvs : List (Str × PyData)} (hg : Gl X x) (hm : X.mg x = some (.ref c)) (hk : KD X.K X.w c kvs) (hi : PE X i (LE X.K fi)) (hd : (x == ("__debug__" : Str)) = false := by decide) (hs : NoSl i := by exact fun _ _ => rfl) :
    PE X (.Subscript (.Name x p) i pos) (LE X.K (dDGetC kvs fi)) := by
  intro pins s σ H Q I h
  obtain ⟨Z, d, m, R, ok, rs, h, k⟩ := h
  obtain ⟨vs, kd, rk⟩ := hk
  refine subD_of PySem.F.slot_dict_getitem.lookup hs (thn (pe_glob (v := .ref c) hg hm rfl hd pins s σ H (fun x H1 => x = .ref c ∧ H1 = H) I ⟨rfl, rfl⟩) fun u s1 ⟨x, H1, I1, rx, ex, eH⟩ => ?_)
  subst ex; subst eH
  obtain rfl : u = Value.ref c := rx
  refine thn (hi pins s1 σ _ (fun v H2 => ∃ (z : Str) (w : V), v = .str z ∧ valV vs z = some w ∧ Q w H2) I1 ⟨Z, d, m, _, ok, rs, h, fun y m1 v H1 ⟨z, q, ey, hv, hq⟩ e1 ok1 r1 => ?_⟩) fun iv s2 ⟨y, H2, I2, ry, z, w, ey, hw, q2⟩ => ?_
  · subst ey
    cases r1.str
    obtain ⟨w, hw, rw'⟩ := (rk Z m1 H1).val hv
    exact ⟨z, w, rfl, hw, k _ m1 _ H1 hq e1 ok1 rw'⟩
  · subst ey
    obtain ⟨ws, rel, dd⟩ := kd.dictOf (P := X.prog) I2.kIn
    obtain ⟨w', hw', rw'⟩ := RelO.some_of (v := w) (o := valueAt ws (.inr z)) (by rw [← hw, ← valV_inrs]; exact rel.val _)
    exact ⟨dd.typeIs, wpAny_getItem_of (kV_is (k := .inr z) ry) dd.mapOf hw' ⟨w, H2, I2.tok _, rw', q2⟩⟩
end
end DL
set_option Elab.async false
set_option linter.all false
set_option maxRecDepth 100000
set_option maxHeartbeats 4000000
namespace DL
open PySem PySem.Spec PyProof.Rows L2
section
variable {X : Cx} {e g : Expr} {f fg : DE} {tg : Expr} {pos : Pos}
end
end DL
set_option Elab.async false
set_option linter.all false
set_option maxRecDepth 100000
set_option maxHeartbeats 4000000
namespace DL
open PySem PySem.Spec PyProof.Rows L2
theorem dl_plain : plainId "dict.update.loop" = true := by decide +kernel
theorem dl_entry : entryFor table "dict.update.loop" = some Builtin.«dict.update.loop» := entryFor_of_fast (by kernel_rfl)
section
variable {prog : Program} {w : World} {A : Around} {E : Value → Shared → Prop} {s : Shared}
end
section
variable {prog : Program} {w : World} {κ : Type} [DecidableEq κ] {knd : KeyKind prog w κ} {A : Around} {E : Value → Shared → Prop} {s : Shared}
def PairsAt (knd : KeyKind prog w κ) (h : Heap) : List Value → List (κ × Value) → Prop
  | [], [] => True
  | x :: xs, (k, v) :: r => (∃ b key, x = .ref b ∧ h.IsTuple b #[key, v] ∧ knd.is k key = true) ∧ PairsAt knd h xs r
  | _, _ => False
def putAll (acc : List (κ × Value)) (r : List (κ × Value)) : List (κ × Value) := r.foldl (fun acc kv => stored acc kv.1 kv.2) acc
theorem stored_len (acc : List (κ × Value)) (k : κ) (v : Value) : (stored acc k v).length ≤ acc.length + 1 := by
  unfold stored
  split
  · simp
  · simp
end
end DL
set_option Elab.async false
set_option linter.all false
set_option maxRecDepth 100000
set_option maxHeartbeats 4000000
namespace DL
open PySem PySem.Spec PyProof.Rows L2
@[simp] def keysD : List D → Option (List Key)
  | [] => some []
  | x :: xs => match keyD x, keysD xs with
    | some k, some ks => some (k :: ks)
    | _, _ => none
theorem RDs.keys {K : PySem.W.Frag} {Z : Addr → Prop} {m : Mu} {H : Hp} : ∀ {xs : List D} {vs : List V} {ks : List Key}, RDs K Z m H xs vs → keysD xs = some ks → vs = ks.map kV
  | [], vs, ks, h, e => by
    cases e
    exact h
  | x :: xs, vs, ks, h, e => by
    obtain ⟨v, r, rfl, h1, h2⟩ := h
    unfold keysD at e
    cases e1 : keyD x with
    | none => rw [e1] at e; cases e
    | some k =>
      cases e2 : keysD xs with
      | none => rw [e1, e2] at e; cases e
      | some ks' =>
        rw [e1, e2] at e
        cases e
        rw [h1.key e1, RDs.keys h2 e2]
        rfl
section
variable {X : Cx} {o i e : Expr} {es : List Expr} {fo f : DE} {fa : DA} {pos tpos ipos : Pos} {j : Nat}
@[simp] def dTNew : DE := fun _ m Q => ∀ a, m a = none → Q (.cel a) (updM m a (.t []))
theorem le_tnew : PE X (.Dict [] [] pos) (LE X.K dTNew) := by
  intro pins s σ H Q I h
  obtain ⟨Z, d, m, R, ok, rs, h, k⟩ := h
  have hp : H s.heap.objs.size = none := I.hok.fresh (Nat.le_refl _)
  have hk : X.K.lookup s.heap.objs.size = none := by
    cases e : X.K.lookup s.heap.objs.size with
    | none => rfl
    | some o => exact absurd (Heap.lt_size (I.kIn _ o e)) (Nat.lt_irrefl _)
  refine wpAny_Dict_empty ⟨.ref s.heap.objs.size, _, I.laid (a := s.heap.objs.size) (o := .dT []) (t' := s.toks) (fun _ _ q => Heap.get?_push_of_some _ q) (Nat.le_refl _) (dt_empty s.heap I.big), rfl, ?_⟩
  exact k _ _ _ _ (h _ (ok_none ok hp).1) (Ext.cell ok hp hk) (ok.cell hp hk (show RKV _ _ _ _ _ _ from rfl)) ⟨rfl, by rw [updM_same]; rfl⟩
@[simp] def dTPut (fo : DE) (fa : DA) (f : DE) : DS := fun E d m => f d m fun x m1 => fo d m1 fun o m2 => fa d m2 fun ys m3 => ∃ c ks kvs p, o = .cel c ∧ keysD ys = some ks ∧ x = .dat p ∧ m3 c = some (.t kvs) ∧ kvs.length < sizeLine ∧ ks.length ≤ sizeLine ∧ E.nx d (updM m3 c (.t (putP kvs ks p)))
theorem ls_tput (hu : X.A.units + 100 < cLine) (he : PE X e (LE X.K f)) (ho : PE X o (LE X.K fo)) (ha : PA X es (LA X.K fa)) (hs : swapsWith e (some (.Subscript o (.Tuple es j ipos) tpos)) pos.line X.env = pure false := by rfl) :
    PS X (.Assign [.Subscript o (.Tuple es j ipos) tpos] e pos) (LS X.K (dTPut fo fa f)) := PS.imp (ps_dput (by omega) ho (pe_tup ha) he hs) fun E s H h => by
  obtain ⟨Z, d, m, R, ok, rs, h, k, _⟩ := h
  refine ⟨Z, d, m, _, ok, rs, h, fun x m1 v H1 q e1 ok1 r1 => ⟨Z, d, m1, _, ok1, rs.ext e1, q, fun o m2 w H2 q2 e2 ok2 r2 => ⟨Z, d, m2, _, ok2, (rs.ext e1).ext e2, q2, fun ys m3 zs H3 q3 e3 ok3 r3 => ?_⟩⟩⟩
  obtain ⟨c, ks, kvs, p, rfl, hk, rfl, hm, hl, hz, q⟩ := q3
  cases r3.keys hk
  refine ⟨by simpa using hz, fun b hb => ?_⟩
  have sm : Same H3 (upd H3 b (.tup (ks.map kV))) := same_new hb
  have e4 := ok3.ext sm
  have ok4 := ok3.grow sm
  obtain ⟨rfl, _⟩ := r2.ext e3
  obtain ⟨vs, g1, g2⟩ := ok4.t hm
  have r1' := r1.ext (e2.trans (e3.trans e4))
  refine ⟨c, _, rfl, .inr ⟨vs, ks, b, g1, rfl, upd_same, by rw [g2.length]; exact hl, rfl⟩, ?_⟩
  have e5 : Ext X.K Z m3 (upd H3 b (.tup (ks.map kV))) (updM m3 c (.t (putP kvs ks p))) (upd (upd H3 b (.tup (ks.map kV))) c (.dT (putK vs ks v))) := Ext.put ok4 hm g1
  exact k d _ s _ q (e1.trans (e2.trans (e3.trans (e4.trans e5)))) (ok4.put hm g1 (show RKV _ _ _ _ _ _ from g2.put r1')) ((rs.ext e1).ext (e2.trans (e3.trans (e4.trans e5))))
end
end DL
set_option Elab.async false
set_option linter.all false
set_option maxRecDepth 100000
set_option maxHeartbeats 4000000
namespace DL
open PySem PySem.Spec PyProof.Rows L2
def keyP : Key → PyData
  | .inl i => .int i
  | .inr z => .str z
theorem Inv.noD {X : Cx} {pins : List (Addr × Obj)} {σ : L2.St} {H : Hp} {s : Shared} {a : Addr} {xs : List V} (I : Inv X pins σ H s) (h : SqT X.K H a xs) : NoD s.heap a := by
  rcases h with h | ⟨o, its, n, hk, hc, hs, hz, r⟩
  · obtain ⟨z, its, r, p⟩ := h.ok I.hok
    exact z.2
  · exact ⟨o, I.kIn a o hk, hc.2⟩
theorem pairs_at {X : Cx} {pins : List (Addr × Obj)} {σ : L2.St} {H : Hp} {s : Shared} {Z : Addr → Prop} {m : Mu} (I : Inv X pins σ H s) : ∀ {kvs : List (Key × PyData)} {vs : List V} {us : List Value}, RPs X.K Z m H (kvs.map fun kv => PyData.tuple [keyP kv.1, kv.2]) vs → Vals vs us →
    ∃ ws : List (Key × V), ∃ xs : List (Key × Value), RKV X.K Z m H kvs ws ∧ KV ws xs ∧ PairsAt (mixKind X.prog X.w) s.heap us xs ∧ xs.length = kvs.length
  | [], vs, us, h, r => by
    simp only [List.map_nil, RPs] at h
    subst h
    cases r
    exact ⟨[], [], rfl, .nil, trivial, rfl⟩
  | (k, p) :: kvs, vs, us, h, r => by
    simp only [List.map_cons, RPs] at h
    obtain ⟨v, vs', rfl, h1, h2⟩ := h
    cases r with
    | cons r1 r2 =>
      obtain ⟨ws, xs, q1, q2, q3, q4⟩ := pairs_at I h2 r2
      simp only [RP] at h1
      obtain ⟨a, ps, rfl, hs, hp⟩ := h1
      obtain ⟨its, rv, it, _⟩ := I.tuple hs
      simp only [RPs] at hp
      obtain ⟨v1, r', rfl, g1, v2, r'', rfl, g2, rfl⟩ := hp
      cases rv with
      | cons w1 rv =>
        cases rv with
        | cons w2 rv =>
          cases rv
          have ev : v1 = kV k := by
            cases k with
            | inl i =>
              simp only [keyP, RP] at g1
              exact g1
            | inr z =>
              simp only [keyP, RP] at g1
              exact g1
          subst ev
          refine ⟨(k, v2) :: ws, (k, _) :: xs, ⟨_, _, rfl, g2, q1⟩, .cons ⟨rfl, w2⟩ q2, ⟨⟨a, _, r1, it, kV_is w1⟩, q3⟩, by simp [q4]⟩
def putsP (acc : List (Key × PyData)) (r : List (Key × PyData)) : List (Key × PyData) := r.foldl (fun acc kv => putP acc kv.1 kv.2) acc
def putsV (acc : List (Key × V)) (r : List (Key × V)) : List (Key × V) := r.foldl (fun acc kv => putK acc kv.1 kv.2) acc
theorem RKV.puts {K : PySem.W.Frag} {Z : Addr → Prop} {m : Mu} {H : Hp} : ∀ {r : List (Key × PyData)} {ws : List (Key × V)} {acc : List (Key × PyData)} {aw : List (Key × V)}, RKV K Z m H acc aw → RKV K Z m H r ws → RKV K Z m H (putsP acc r) (putsV aw ws)
  | [], ws, acc, aw, ha, hr => by
    cases (show ws = [] from hr)
    exact ha
  | (k, p) :: r, vs, acc, aw, ha, h => by
    obtain ⟨v, ws, rfl, h1, h2⟩ := h
    exact RKV.puts (r := r) (ws := ws) (acc := putP acc k p) (aw := putK aw k v) (ha.put h1) h2
theorem KV.puts {ws : List (Key × V)} {xs : List (Key × Value)} (t : KV ws xs) : ∀ {aw : List (Key × V)} {ax : List (Key × Value)}, KV aw ax → KV (putsV aw ws) (putAll ax xs) := by
  unfold KV at t
  induction t with
  | nil => exact fun ha => ha
  | @cons p q ps qs h t ih =>
    intro aw ax ha
    obtain ⟨e, h⟩ := h
    have := ih (KV.put ha p.1 h)
    show KV (putsV (putK aw p.1 p.2) ps) (putAll (stored ax q.1 q.2) qs)
    rw [← e]
    exact this
theorem puts_len : ∀ (r acc : List (Key × PyData)), (putsP acc r).length ≤ acc.length + r.length
  | [], acc => by simp [putsP]
  | kv :: r, acc => by
    have := puts_len r (putP acc kv.1 kv.2)
    have h2 : (putP acc kv.1 kv.2).length ≤ acc.length + 1 := by
      unfold putP
      split
      · rw [List.length_map]; omega
      · simp
    unfold putsP at *
    simp only [List.foldl_cons, List.length_cons]
    omega
section
variable {X : Cx} {e : Expr} {f : DE} {pos p : Pos}
end
end DL
set_option Elab.async false
set_option linter.all false
set_option maxRecDepth 100000
set_option maxHeartbeats 4000000
namespace DL
open PySem PySem.Spec PyProof.Rows L2
def KTEnt (K : PySem.W.Frag) (w : World) : List DictEntry → List (List Str × Addr × V) → Prop
  | [], [] => True
  | e :: es, (zs, a, v) :: xs => e.hash = reduceHash (Builtin.Tuple.tupleHashOf (zs.map (PyData.keyHash w.params))) ∧ e.key = .ref a ∧ RelV v e.val ∧ KT K a zs ∧ KTEnt K w es xs
  | _, _ => False
def KTDt (K : PySem.W.Frag) (w : World) (c : Addr) (xs : List (List Str × Addr × V)) : Prop :=
  ∃ (o : Obj) (es : Array DictEntry) (ep : Nat), K.lookup c = some o ∧ o.cls = .type "dict" ∧ o.dict = none ∧ o.slots = #[] ∧ o.data = .dict es ep ∧ KTEnt K w es.toList xs ∧ (xs.map (·.1)).Nodup ∧ (c == sysModules) = false
theorem kV_strs (zs : List Str) : (zs.map (Sum.inr : Str → Key)).map kV = zs.map V.str := by
  rw [List.map_map]
  rfl
section
variable {X : Cx} {pins : List (Addr × Obj)} {σ : L2.St} {H : Hp} {s : Shared}
theorem key_sq {a : Addr} {zs : List Str} (I : Inv X pins σ H s) (h : SqT X.K H a (zs.map V.str)) : (tupleKind (mixKind X.prog X.w)).is s.heap (zs.map Sum.inr) a := by
  obtain ⟨its, r, ⟨o, h1, h2, n, h3⟩, _⟩ := I.tuple h
  rw [← kV_strs] at r
  exact ⟨o, its.toArray, n, h1, h2, h3, by simpa using items_are r⟩
theorem KTEnt.out (I : Inv X pins σ H s) : ∀ {es : List DictEntry} {xs : List (List Str × Addr × V)}, KTEnt X.K X.w es xs → ∃ ys : List (List Key × Addr × Value), es = ys.map (entryOfKey (tupleKind (mixKind X.prog X.w))) ∧ (∀ y ∈ ys, (tupleKind (mixKind X.prog X.w)).is s.heap y.1 y.2.1) ∧ ys.map (·.1) = xs.map (fun x => x.1.map Sum.inr) ∧
    ∀ zs : List Str, RelO (valV (xs.map fun x => (x.1, x.2.2)) zs) ((atKey ys (zs.map Sum.inr)).map (·.2))
  | [], [], _ => ⟨[], rfl, by simp, rfl, fun _ => True.intro⟩
  | e :: es, (zs, a, v) :: xs, ⟨h1, h2, h3, h4, h5⟩ => by
    obtain ⟨ys, q1, q2, q3, q4⟩ := KTEnt.out I h5
    refine ⟨(zs.map Sum.inr, a, e.val) :: ys, ?_, fun y hy => ?_, by simp [q3], fun z => ?_⟩
    · rw [List.map_cons, ← q1]
      congr 1
      obtain ⟨eh, ek, ev⟩ := e
      simp only at h1 h2
      subst h1 h2
      unfold entryOfKey
      congr 1
      show _ = reduceHash (Builtin.Tuple.tupleHashOf ((zs.map Sum.inr).map (mixKind X.prog X.w).hash))
      rw [List.map_map]
      rfl
    · rcases List.mem_cons.mp hy with rfl | hy
      · exact key_sq I h4.sq
      · exact q2 y hy
    · by_cases c : zs = z
      · subst c
        unfold valV atKey
        simp only [List.map_cons, List.find?_cons, decide_true, Option.map_some]
        exact h3
      · have c' : ¬ zs.map (Sum.inr : Str → Key) = z.map Sum.inr := fun h => c ((List.map_inj_right (fun _ _ q => Sum.inr.inj q)).mp h)
        have := q4 z
        unfold valV atKey at this ⊢
        simp only [List.map_cons, List.find?_cons, decide_eq_false c, decide_eq_false c']
        exact this
  | [], _ :: _, h => h.elim
  | _ :: _, [], h => h.elim
theorem KTDt.out {c : Addr} {xs : List (List Str × Addr × V)} (I : Inv X pins σ H s) (q : KTDt X.K X.w c xs) : (c == sysModules) = false ∧ ∃ ys : List (List Key × Addr × Value), s.heap.DictOfH (tupleKind (mixKind X.prog X.w)) c ys ∧
    ∀ zs : List Str, RelO (valV (xs.map fun x => (x.1, x.2.2)) zs) ((atKey ys (zs.map Sum.inr)).map (·.2)) := by
  obtain ⟨o, es, ep, h1, h2, h3, h4, h5, h6, h7, h8⟩ := q
  obtain ⟨ys, q1, q2, q3, q4⟩ := KTEnt.out I h6
  refine ⟨h8, ys, ⟨o, es, ep, I.kIn _ _ h1, ⟨h2, h3, h4⟩, h5, q1, q2, ?_⟩, q4⟩
  rw [q3]
  have e : xs.map (fun x => x.1.map (Sum.inr : Str → Key)) = (xs.map (·.1)).map (fun z => z.map Sum.inr) := by simp
  rw [e]
  exact List.Pairwise.map _ (fun a b hab h => hab ((List.map_inj_right (fun _ _ q => Sum.inr.inj q)).mp h)) h7
end
theorem KT.rp {K : PySem.W.Frag} {a : Addr} {zs : List Str} {Z : Addr → Prop} {m : Mu} {H : Hp} (h : KT K a zs) : RP K Z m H (.tuple (zs.map PyData.str)) (.ref a) := by
  simp only [RP]
  exact ⟨a, _, rfl, h.sq, strs_rps zs⟩
section
variable {X : Cx} {e g : Expr} {fi fg : DE} {p apos cpos : Pos}
end
end DL
set_option Elab.async false
set_option linter.all false
set_option maxRecDepth 100000
set_option maxHeartbeats 4000000
namespace DL
open PySem PySem.Spec PyProof.Rows L2
section
variable {X : Cx} {o e : Expr} {f g : DE} {apos cpos : Pos}
def rIdxL (K : PySem.W.Frag) : V → List V → Hp → VK → Prop := fun x xs H Q => ∃ (a : Addr) (y : Str) (zs : List Str), x = .ref a ∧ xs = [.str y] ∧ SqL K H a (zs.map V.str) ∧ y ∈ zs ∧ Q (.int (zs.idxOf y : Nat)) H
theorem mt_idxL : MtR X "list.index" (rIdxL X.K) := by
  intro pins s σ H x xs v us Q I rx rs ⟨a, y, zs, e1, e2, hq, hk, q⟩
  subst e1 e2
  cases rx
  obtain ⟨u, rfl, ru⟩ := vals1 rs
  obtain ⟨tk, rfl⟩ := id ru
  obtain ⟨its, rv, p, hz⟩ := I.list hq
  have hl := rv.length
  rw [List.length_map] at hl hz
  have hj : zs.idxOf y < zs.length := List.idxOf_lt_length_iff.mpr hk
  have hsz : (zs.length : Int) ≤ 1000000000 := by
    rw [sizeLine_eq] at hz
    omega
  have hit : ∀ m (hm : m < its.toArray.size) (hm2 : m < zs.length), eqU (.str y) its.toArray[m] = (zs[m] == y) := fun m hm hm2 => by
    obtain ⟨t, e⟩ := relv_strs rv m (by simpa using hm) hm2
    have e' : its.toArray[m] = .str zs[m] t := by simpa using e
    rw [e']
    rfl
  have hfl : (zs.map V.str).all flatV = true := by
    rw [List.all_eq_true]
    intro v hv
    obtain ⟨z, _, rfl⟩ := List.mem_map.mp hv
    rfl
  obtain ⟨⟨cl, dd, dt, sl⟩, n, p1, p2, p3, p4⟩ := id p
  simp only at p2 p4
  subst p2 p4
  refine call_meets PySem.F.slot_list_index p.isList.typeIs PySem.F.entry_list_index (PySem.F.args_list_index_2 _ _) (SeqAt.list_indexAt a its.toArray n dd sl (.str y tk) (eqU (.str y)) (zs.idxOf y) (by rw [List.size_toArray]; omega) (by omega) ?_ ?_) ⟨p1, ?_, ?_⟩
  · rw [hit _ _ hj, List.getElem_idxOf hj]
    simp
  · intro m hm hlt
    have hm2 : m < zs.length := by omega
    rw [hit m hm hm2]
    simp only [beq_eq_false_iff_ne]
    exact idx_ne _ _ hm2 hlt
  · exact fun w hw => mem_eqAt (x := .str y) ⟨tk, rfl⟩ rfl rv hfl w (by simpa using hw)
  · exact ⟨.int _, H, I.tok _, ⟨_, rfl⟩, q⟩
def SqX (t : Bool) (K : PySem.W.Frag) (H : Hp) (a : Addr) (zs : List Str) : Prop := if t then SqT K H a (zs.map V.str) else SqL K H a (zs.map V.str)
@[simp] def dIdxV (f g : DE) : DE := fun d m Q => f d m fun x m1 => ∃ zs : List Str, (x = .dat (.tuple (zs.map .str)) ∨ x = .dat (.list (zs.map .str))) ∧ g d m1 fun y m2 => ∃ z : Str, y = .dat (.str z) ∧ z ∈ zs ∧ Q (.dat (.int (zs.idxOf z : Nat))) m2
theorem le_idxV (ho : PE X o (LE X.K f)) (he : PE X e (LE X.K g)) (hbase : attributeBase o "index" X.env (eval o X.env) = eval o X.env := by rfl)
    (hfew : ((backTo cpos (starEach [e] X.env)).all (fun x => !x.1) && (backToKw cpos (keywordEach [] X.env)).all (fun x => x.1.isSome) && decide ([e].length + ([] : List Keyword).length + (if ([] : List Keyword).isEmpty then 0 else 1) < 30)) = true := by rfl)
    (hline : (apos.endLine == cpos.line) = true := by rfl) (hs : backTo cpos (starEach [e] X.env) = [(false, eval e X.env)] := by rfl) : PE X (.Call (.Attribute o "index" apos) [e] [] cpos) (LE X.K (dIdxV f g)) := by
  intro pins s σ H Q I h
  obtain ⟨Z, d, m, R, ok, rs, h, k⟩ := h
  refine wpAny_Call_method_late hbase hfew hline rfl (thn (ho pins s σ H (fun v H1 => ∃ (t : Bool) (a : Addr) (zs : List Str), v = .ref a ∧ SqX t X.K H1 a zs ∧ LE X.K g σ H1 fun v2 H2 => ∃ z : Str, v2 = .str z ∧ z ∈ zs ∧ SqX t X.K H2 a zs ∧ Q (.int (zs.idxOf z : Nat)) H2) I ⟨Z, d, m, _, ok, rs, h, fun x m1 v H1 ⟨zs, ex, hq⟩ e1 ok1 r1 => ?_⟩) fun v s1 ⟨x, H1, I1, rx, t, a, zs, ex, sq, q1⟩ => ?_)
  · rcases ex with rfl | rfl
    · have r1' := r1
      simp only [RD, RP] at r1'
      obtain ⟨a, vs, rfl, h1, h2⟩ := r1'
      cases rps_strs h2
      refine ⟨true, a, zs, rfl, h1, Z, d, m1, _, ok1, rs.ext e1, hq, fun y m2 v2 H2 ⟨z, ey, hz, q⟩ e2 ok2 r2 => ?_⟩
      subst ey
      cases r2.str
      have r3 := r1.ext e2
      simp only [RD, RP] at r3
      obtain ⟨a', vs', e', h1', h2'⟩ := r3
      cases e'
      cases rps_strs h2'
      exact ⟨z, rfl, hz, h1', k _ m2 _ H2 q (e1.trans e2) ok2 .ofInt⟩
    · have r1' := r1
      simp only [RD, RP] at r1'
      obtain ⟨a, vs, rfl, _, h1, h2⟩ := r1'
      cases rps_strs h2
      refine ⟨false, a, zs, rfl, h1, Z, d, m1, _, ok1, rs.ext e1, hq, fun y m2 v2 H2 ⟨z, ey, hz, q⟩ e2 ok2 r2 => ?_⟩
      subst ey
      cases r2.str
      have r3 := r1.ext e2
      simp only [RD, RP] at r3
      obtain ⟨a', vs', e', _, h1', h2'⟩ := r3
      cases e'
      cases rps_strs h2'
      exact ⟨z, rfl, hz, h1', k _ m2 _ H2 q (e1.trans e2) ok2 .ofInt⟩
  · subst ex
    obtain rfl : v = Value.ref a := rx
    cases t with
    | true =>
      obtain ⟨its, _, p, _⟩ := I1.tuple (show SqT _ _ _ _ from sq)
      refine ⟨"tuple", "tuple.index", PySem.F.plainAttrs_tuple, PySem.F.slot_tuple_index, PySem.F.type_tuple_index, p.typeIs, fun b e => by cases e; exact Inv.noD I1 (show SqT _ _ _ _ from sq), ?_⟩
      rw [hs]
      refine Calls.callWith_builtin rfl (Calls.evalArgs_plain (Calls.spliced_cons (thn (he pins s1 σ H1 _ I1 q1) fun iv s2 ⟨v2, H2, I2, ry, z, ez, hz, sq2, q2⟩ => Calls.spliced_nil ?_)))
      subst ez
      exact mt_idxT pins s2 σ H2 (.ref a) [.str z] _ [iv] Q I2 rfl (.cons ry .nil) ⟨a, z, zs, rfl, rfl, sq2, hz, q2⟩
    | false =>
      obtain ⟨its, _, p, _⟩ := I1.list (show SqL _ _ _ _ from sq)
      refine ⟨"list", "list.index", PySem.F.plainAttrs_list, PySem.F.slot_list_index, PySem.F.type_list_index, p.isList.typeIs, fun b e => by cases e; obtain ⟨ob, n, e, c, hd, _⟩ := p; exact ⟨ob, e, hd⟩, ?_⟩
      rw [hs]
      refine Calls.callWith_builtin rfl (Calls.evalArgs_plain (Calls.spliced_cons (thn (he pins s1 σ H1 _ I1 q1) fun iv s2 ⟨v2, H2, I2, ry, z, ez, hz, sq2, q2⟩ => Calls.spliced_nil ?_)))
      subst ez
      exact mt_idxL pins s2 σ H2 (.ref a) [.str z] _ [iv] Q I2 rfl (.cons ry .nil) ⟨a, z, zs, rfl, rfl, sq2, hz, q2⟩
end
end DL
set_option Elab.async false
set_option linter.all false
set_option maxRecDepth 100000
set_option maxHeartbeats 4000000
namespace DL
open PySem PySem.Spec PyProof.Rows L2
section
variable {X : Cx} {a : Expr} {f : DE} {pos p2 : Pos}
end
end DL
set_option Elab.async false
set_option linter.all false
set_option maxRecDepth 100000
set_option maxHeartbeats 4000000
namespace DL
open PySem PySem.Spec PyProof.Rows L2
section
variable {X : Cx} {a : Expr} {elts : List Expr} {j : Nat} {f : DE} {pos p p2 : Pos}
end
end DL
set_option Elab.async false
set_option linter.all false
set_option maxRecDepth 100000
set_option maxHeartbeats 4000000
namespace DL
open PySem PySem.Spec PyProof.Rows L2
section
variable {prog : Program} {w : World} {A : Around} {E : Value → Shared → Prop} {s : Shared}
end
section
variable {X : Cx} {a : Expr} {elts : List Expr} {j : Nat} {f : DE} {pos p p2 : Pos}
end
end DL
set_option Elab.async false
set_option linter.all false
set_option maxRecDepth 100000
set_option maxHeartbeats 4000000
namespace DL
open PySem PySem.Spec PyProof.Rows L2
section
variable {prog : Program} {w : World} {A : Around} {E : Value → Shared → Prop} {s : Shared}
end
def Itl (K : PySem.W.Frag) (t1 t2 : Addr) (n : Nat) : It :=
  ⟨fun i H => i < n ∧ ∃ xs ys, SqL K H t1 xs ∧ SqT K H t2 ys ∧ n = min xs.length ys.length, fun i H v H' => ∃ p x y, v = .ref p ∧ H p = none ∧ H' = upd H p (.tup [x, y]) ∧ ∀ xs ys, SqL K H t1 xs → SqT K H t2 ys → xs[i]? = some x ∧ ys[i]? = some y,
    fun i H => i = n ∧ ∃ xs ys, SqL K H t1 xs ∧ SqT K H t2 ys ∧ n = min xs.length ys.length⟩
section
variable {X : Cx} {a b : Expr} {elts : List Expr} {j : Nat} {f g : DE} {pos p p2 : Pos}
end
end DL
set_option Elab.async false
set_option linter.all false
set_option maxRecDepth 100000
set_option maxHeartbeats 4000000
namespace DL
open PySem PySem.Spec PyProof.Rows L2
section
variable {K : PySem.W.Frag} {Z : Addr → Prop} {m m' : Mu} {H : Hp}
def offM (m : Mu) (a : Addr) : Mu := fun b => if b = a then none else m b
theorem off_none {a b : Addr} (h : m b = none) : offM m a b = none := by unfold offM; split <;> first | rfl | exact h
end
section
variable {X : Cx} {a : Expr} {f : DE} {pos p2 : Pos}
end
end DL
set_option Elab.async false
set_option linter.all false
set_option maxRecDepth 100000
set_option maxHeartbeats 4000000
namespace DL
open PySem PySem.Spec PyProof.Rows L2
theorem lk_keysL : typeLookup (.type "list") "keys" = pure none := by rw [typeLookup_type, builtinLookup_eq_fast]; kernel_rfl
section
variable {prog : Program} {w : World} {A : Around} {E : Value → Shared → Prop} {s : Shared}
theorem keys_missL {a : Addr} {o : Obj} {xs : Array Value} {k : Nat} {Q : Option Value → Shared → Prop}
    (hx : s.heap.get? a = some o) (hc : o.cls = .type "list") (hdat : o.data = .seq xs k) (hd : o.dict = none) (hA : A.handled = none)
    (h : ∀ h' tk, (∀ b ob, s.heap.get? b = some ob → h'.get? b = some ob) → Q none { s with heap := h', toks := tk }) :
    wpAny (model prog w) A (getAttr? (.ref a) "keys") Q E s := by
  obtain ⟨c, dct, dat, sl⟩ := o
  simp only at hc hdat hd
  subst hc hdat hd
  obtain ⟨hp, g, d, tk, os⟩ := s
  have hT : ∀ tk', (⟨hp, g, d, tk', os⟩ : Shared).TypeIs (.ref a) "list" := fun _ => ⟨_, hx, rfl⟩
  have f1 := sub_AttributeError
  have f3 := F.slot_list_getattribute.lookup
  have f4 := F.slot_list_getattribute.bind (.ref a)
  have f5 := am_list_getattr_none
  have hsz : (Str.ofString "keys").length + 100 ≤ sizeLine := by rw [sizeLine_eq]; decide
  have hname : (["__module__", "__name__", "__qualname__", "__doc__", "__annotations__"] : List Str).contains (Str.ofString "keys") = false := by decide
  unfold getAttr? getAttrBy? getAttrBy
  repeat (any_goals (first | assumption | exact hT _ | ((with_reducible show wpAny _ _ (call (Value.builtin "list.__getattribute__") _ _) _ _ _); refine call_meets F.slot_list_getattribute (hT _) am_entry_list_getattribute (F.args_list_getattribute_2 _ _) (meets_getattribute_miss_list a xs k sl (Str.ofString "keys") _ lk_keysL hname hsz) ⟨hx, hA, fun h' tk' e hx' => ?_⟩) | wp_step))
  obtain ⟨t', u', he⟩ := hx'.there
  show wpAny _ _ (getattributeRaised _ _ _ _ _ _ _) _ _ _
  unfold getattributeRaised
  repeat (any_goals (first | assumption | wp_step))
  exact h h' tk' hx'.keeps
end
section
variable {prog : Program} {w : World} {κ : Type} [DecidableEq κ] {knd : KeyKind prog w κ} {A : Around} {E : Value → Shared → Prop} {s : Shared}
theorem dict_loopL {R : Result → Shared → Prop} {hb : Heap} {d it tq : Addr} {items : Array Value} (hh : A.handled = none) (hd : hb.get? d = none) (hi : hb.get? it = none) (hne : d ≠ it) (ht : hb.IsList tq items) :
    ∀ (rest : List (κ × Value)) (i : Nat) (s : Shared) (acc : List (κ × Value)) (tk0 : Tok), (∀ b o, hb.get? b = some o → s.heap.get? b = some o) → s.heap.IsListIter it tq i → s.heap.DictOf knd d acc → PairsAt knd hb (items.toList.drop i) rest → acc.length + rest.length ≤ sizeLine →
    (∀ h' tk, (∀ b o, hb.get? b = some o → h'.get? b = some o) → h'.DictOf knd d (putAll acc rest) → R (.ok (.ret .none)) { s with heap := h', toks := tk }) →
    codeAny (model prog w) A (.builtin "dict.update.loop" ⟨[.ref d, .ref it, .int i tk0, .none], []⟩) R s
  | [], i, s, acc, tk0, keeps, hit, hdo, hp, hsz, hR => by
    have hx : items[i]? = none := by
      cases e : items.toList.drop i with
      | nil =>
        have := List.drop_eq_nil_iff.mp e
        rw [Array.getElem?_eq_none_iff]
        simpa using this
      | cons x xs => rw [e] at hp; exact hp.elim
    have ht' : s.heap.IsList tq items := by
      obtain ⟨o, ho, r⟩ := ht
      exact ⟨o, keeps _ _ ho, r⟩
    refine codeAny_builtin dl_entry ?_
    rw [Around.under_plainId dl_plain _]
    show wpAny _ A.in1 (pyNext (.ref it) >>= _) _ _ s
    refine wpAny_bind (wpAny_pyNext_list_end hh hit ht' hx fun h' hs => ?_)
    show wpAny _ A.in1 (Builtin.Dict.addKeywords d [] >>= _) _ _ _
    refine wpAny_bind (wpAny_pure (wpAny_pure ?_))
    refine hR h' s.toks (fun b o e => hs b o (fun q => by rw [q, hi] at e; cases e) (keeps b o e)) (hdo.extBut hs hne)
  | (k, v) :: rest, i, s, acc, tk0, keeps, hit, hdo, hp, hsz, hR => by
    cases e : items.toList.drop i with
    | nil => rw [e] at hp; exact hp.elim
    | cons x xs =>
      rw [e] at hp
      obtain ⟨⟨b, key, rfl, hb2, hk⟩, hp2⟩ := hp
      have hx : items[i]? = some (.ref b) := by
        have := congrArg List.head? e
        rw [List.head?_drop] at this
        simpa using this
      have e2 : items.toList.drop (i + 1) = xs := by
        have := congrArg List.tail e
        rw [List.tail_drop] at this
        simpa using this
      have ht' : s.heap.IsList tq items := by
        obtain ⟨o, ho, r⟩ := ht
        exact ⟨o, keeps _ _ ho, r⟩
      refine codeAny_builtin dl_entry ?_
      rw [Around.under_plainId dl_plain _]
      show wpAny _ A.in1 (pyNext (.ref it) >>= _) _ _ s
      refine wpAny_bind (wpAny_pyNext_list_item hit ht' hx fun h1 hit1 hs1 => ?_)
      have k1 : ∀ b o, hb.get? b = some o → h1.get? b = some o := fun b o e => hs1.extBut b o (fun q => by rw [q, hi] at e; cases e) (keeps b o e)
      have ht1 : ({ s with heap := h1 } : Shared).heap.IsTuple b #[key, v] := by
        obtain ⟨o, ho, r⟩ := hb2
        exact ⟨o, k1 _ _ ho, r⟩
      have hdo1 : ({ s with heap := h1 } : Shared).heap.DictOf knd d acc := hdo.sameBut hs1 hne
      obtain ⟨o, ho, hoc, no, hod⟩ := id ht1
      refine wpAny_bind (wpAny_holding (wpAny_bind (wpAny_tryCatch ?_)))
      unfold Builtin.Dict.pairItems
      refine wpAny_bind (wpAny_typeOf ht1.typeIs ?_)
      rw [if_pos (by decide)]
      refine wpAny_bind (wpAny_seqItems ho hod (wpAny_pure ?_))
      show wpAny _ A.in1 (holding [key, v] (dictSet d key v)) _ _ _
      refine wpAny_holding (wpAny_dictSet_pairs (hsz := by simp at hsz; omega) hk hdo1 fun h2 hdo2 hs2 => ?_)
      refine wpAny_pure ⟨plainId_quiet dl_plain _, ?_⟩
      have ih := dict_loopL (R := R) hh hd hi hne ht rest (i + 1) { s with heap := h2, toks := s.toks + 1 } (stored acc k v) 0
        (fun b o e => hs2.extBut b o (fun q => by rw [q, hd] at e; cases e) (k1 b o e)) (hit1.extBut hs2.extBut (Ne.symm hne)) hdo2 (by rw [e2]; exact hp2)
        (by have := stored_len acc k v; simp at hsz; omega) (fun h' tk q1 q2 => hR h' tk q1 q2)
      exact ih
theorem call_dict_pairsL {Q : Value → Shared → Prop} {tq : Addr} {o : Obj} {items : Array Value} {n : Nat} {kvs : List (κ × Value)} (hh : A.handled = none) (ho : s.heap.get? tq = some o) (hc : o.cls = .type "list") (hdn : o.dict = none) (hdat : o.data = .seq items n)
    (hp : PairsAt knd s.heap items.toList kvs) (hsz : kvs.length ≤ sizeLine)
    (hQ : ∀ h' tk, (∀ b o, s.heap.get? b = some o → h'.get? b = some o) → h'.DictOf knd s.heap.objs.size (putAll [] kvs) → Q (.ref s.heap.objs.size) { s with heap := h', toks := tk }) :
    wpAny (model prog w) A (call (.type "dict") [.ref tq]) Q E s := by
  refine callType_codes (Q₁ := fun obj s₁ => obj = .ref s.heap.objs.size ∧ s₁ = { s with heap := s.heap.push { cls := .type "dict", data := .dict #[] } }) F.kt_called_dict (F.kt_typeCall_dict_1 _) F.entry_dict_init (kt_code_dict_new _ ⟨rfl, rfl⟩) ?_
  rintro obj s₁ ⟨rfl, rfl⟩
  have hnew : (s.heap.push { cls := .type "dict", data := .dict #[] }).DictOf knd s.heap.objs.size [] := Heap.DictOf.new s.heap
  refine ⟨hnew.typeIs, F.args_dict_init_2 _ _, ?_⟩
  unfold Builtin.«dict.__init__»
  refine wpAny_bind ?_
  unfold Builtin.Dict.selfAndRest
  refine wpAny_bind (wpAny_notOrdered_dict hnew.typeIs ?_)
  show wpAny _ _ (pure (s.heap.objs.size, [Value.ref tq])) _ _ _
  refine wpAny_pure ?_
  show wpAny _ _ (Builtin.Dict.updateFrom "dict.__init__" s.heap.objs.size (.ref tq) [] .none) _ _ _
  unfold Builtin.Dict.updateFrom
  have ho1 : (s.heap.push { cls := .type "dict", data := .dict #[] }).get? tq = some o := Heap.get?_push_of_some _ ho
  refine wpAny_bind (wpAny_typeOf (T := "list") ⟨_, ho1, hc⟩ ?_)
  rw [if_pos (by decide)]
  refine wpAny_bind (keys_missL ho1 hc hdat hdn hh fun h1 tk1 k1 => ?_)
  rw [if_pos (show (none : Option Value).isNone = true from rfl)]
  have g0 : s.heap.get? s.heap.objs.size = none := by
    cases e : s.heap.get? s.heap.objs.size with
    | none => rfl
    | some ob => exact absurd (Heap.lt_size e) (Nat.lt_irrefl _)
  have g1 : s.heap.get? h1.objs.size = none := by
    cases e : s.heap.get? h1.objs.size with
    | none => rfl
    | some ob => exact absurd (Heap.lt_size (k1 _ _ (Heap.get?_push_of_some _ e))) (Nat.lt_irrefl _)
  have hd1 : h1.DictOf knd s.heap.objs.size [] := by
    obtain ⟨ob, es, ep, q, r⟩ := hnew
    exact ⟨ob, es, ep, k1 _ _ q, r⟩
  have hne : s.heap.objs.size ≠ h1.objs.size := by
    obtain ⟨ob, es, ep, q, r⟩ := hd1
    exact Nat.ne_of_lt (Heap.lt_size q)
  have ht : s.heap.IsList tq items := ⟨o, ho, hc, n, hdat⟩
  refine wpAny_bind (wpAny_rule (wpAny_bind (wpAny_pyIter_list (l := tq) (items := items) ⟨o, k1 _ _ ho1, hc, n, hdat⟩ ?_)))
  refine wpAny_pure ⟨plainId_quiet dl_plain _, ?_⟩
  refine dict_loopL (A := A.in1) (knd := knd) (hb := s.heap) (show A.in1.handled = none from hh) g0 g1 hne ht kvs 0 { s with heap := h1.push { cls := .type "list_iterator", data := .fields #[.ref tq, .int 0 0] }, toks := tk1 } [] 0 (fun b ob e => Heap.get?_push_of_some _ (k1 _ _ (Heap.get?_push_of_some _ e))) ⟨_, Heap.get?_push_size _ rfl, rfl, rfl⟩ (hd1.push _) (by simpa using hp) (by simpa using hsz) fun h' tk q1 q2 => ?_
  exact ⟨rfl, hQ h' tk q1 q2⟩
end
section
variable {X : Cx} {e : Expr} {f : DE} {pos p : Pos}
@[simp] def dDictL (f : DE) : DE := fun d m Q => f d m fun x m1 => ∃ kvs : List (Key × PyData), x = .dat (.list (kvs.map fun kv => .tuple [keyP kv.1, kv.2])) ∧ kvs.length ≤ sizeLine ∧ ∀ a, m1 a = none → Q (.cel a) (updM m1 a (.d (putsP [] kvs)))
theorem le_dictL (hc : X.calm = true) (hg : Gl X "dict") (hm : X.mg "dict" = none) (he : PE X e (LE X.K f)) (hs : starEach [e] X.env = [(false, eval e X.env)] := by rfl) : PE X (.Call (.Name "dict" p) [e] [] pos) (LE X.K (dDictL f)) := by
  intro pins s σ H Q I h
  obtain ⟨Z, d, m, R, ok, rs, h, k⟩ := h
  have hA := pa_cons (X := X) he pa_nil (by rw [hs]; rfl) pos pins s σ H (fun vs H1 => ∃ (v : V) (kvs : List (Key × PyData)) (m1 : Mu), vs = [v] ∧ RD X.K Z m1 H1 (.dat (.list (kvs.map fun kv => .tuple [keyP kv.1, kv.2]))) v ∧ kvs.length ≤ sizeLine ∧ (∀ a, m1 a = none → R (.cel a) (updM m1 a (.d (putsP [] kvs)))) ∧ Ext X.K Z m H m1 H1 ∧ Ok X.K Z m1 H1) I ⟨Z, d, m, _, ok, rs, h, fun x m1 v H1 ⟨kvs, ex, hn, q⟩ e1 ok1 rd => by
    subst ex
    exact ⟨v, kvs, m1, rfl, rd, hn, q, e1, ok1⟩⟩
  refine Call_ (ld_blt I hg hm boot_dict (PyProof.Rows.callWith_type1 (thn hA fun us s1 ⟨vs, H1, I1, r1, q1⟩ => ?_) hs rfl))
  obtain ⟨v, kvs, m1, ev, rd, hn, q, e1, ok1⟩ := q1
  subst ev
  simp only [RD, RP] at rd
  obtain ⟨a, ps, rfl, _, hsq, hp⟩ := rd
  obtain ⟨u, rfl, hu⟩ := vals1 r1
  cases (show u = Value.ref a from hu)
  obtain ⟨its, rv, ⟨o, n, ho, hoc, hdn, hod⟩, _⟩ := I1.list hsq
  obtain ⟨ws, xs, q1, q2, q3, q4⟩ := pairs_at (Z := Z) (m := m1) I1 hp rv
  have hp0 : H1 s1.heap.objs.size = none := I1.hok.fresh (Nat.le_refl _)
  have hk0 : X.K.lookup s1.heap.objs.size = none := by
    cases e : X.K.lookup s1.heap.objs.size with
    | none => rfl
    | some o => exact absurd (Heap.lt_size (I1.kIn _ o e)) (Nat.lt_irrefl _)
  refine call_dict_pairsL (knd := mixKind X.prog X.w) (I1.ok.hd hc) ho hoc hdn hod (by simpa using q3) (by rw [q4]; exact hn) fun h' tk kp dd => ?_
  have rk : RKV X.K Z m1 H1 (putsP [] kvs) (putsV [] ws) := RKV.puts (show RKV _ _ _ _ _ _ from rfl) q1
  have ob : ObjOk X.prog X.w (upd H1 s1.heap.objs.size (.dK (putsV [] ws))) h' s1.heap.objs.size (.dK (putsV [] ws)) := by
    refine ⟨?_, beq_eq_false_iff_ne.mpr (Ne.symm (Nat.ne_of_lt I1.big)), _, KV.puts q2 .nil, dd⟩
    rw [rk.length]
    exact Nat.le_trans (puts_len kvs []) (by simpa using hn)
  exact ⟨.ref s1.heap.objs.size, _, I1.laid (t' := tk) kp (Nat.le_refl _) ob, rfl, k _ _ _ _ (q _ (ok_none ok1 hp0).1) (e1.trans (Ext.cell ok1 hp0 hk0)) (ok1.cell hp0 hk0 (show RKV _ _ _ _ _ _ from rk)) ⟨rfl, by rw [updM_same]; rfl⟩⟩
end
end DL
set_option Elab.async false
set_option linter.all false
set_option maxRecDepth 100000
set_option maxHeartbeats 4000000
namespace DL
open PySem PySem.Spec PyProof.Rows L2
section
variable {prog : Program} {w : World} {A : Around} {E : Value → Shared → Prop} {s : Shared}
end
end DL
set_option Elab.async false
set_option linter.all false
set_option maxRecDepth 100000
set_option maxHeartbeats 4000000
namespace DL
open PySem PySem.Spec PyProof.Rows L2
section
variable {prog : Program} {w : World} {A : Around} {E : Value → Shared → Prop} {s : Shared}
end
section
variable {X : Cx} {pins : List (Addr × Obj)} {σ : L2.St}
def PairsH (H : Hp) (xs ys : List V) (ps : List Addr) : Prop := ∀ (j : Nat) (p : Addr), ps[j]? = some p → ∃ x y, xs[j]? = some x ∧ ys[j]? = some y ∧ H p = some (.tup [x, y])
theorem PairsH.same {H H' : Hp} {xs ys : List V} {ps : List Addr} (h : PairsH H xs ys ps) (e : Same H H') : PairsH H' xs ys ps := fun j p q => let ⟨x, y, h1, h2, h3⟩ := h j p q; ⟨x, y, h1, h2, e _ _ h3⟩
theorem PairsH.snoc {H : Hp} {xs ys : List V} {ps : List Addr} {a : Addr} {x y : V} (h : PairsH H xs ys ps) (hx : xs[ps.length]? = some x) (hy : ys[ps.length]? = some y) (ha : H a = some (.tup [x, y])) : PairsH H xs ys (ps ++ [a]) := fun j p q => by
  rcases Nat.lt_or_ge j ps.length with c | c
  · rw [List.getElem?_append_left c] at q
    exact h j p q
  · rw [List.getElem?_append_right c] at q
    have : j - ps.length = 0 := by
      rcases Nat.eq_zero_or_pos (j - ps.length) with z | z
      · exact z
      · rw [List.getElem?_eq_none (by simp; omega)] at q; cases q
    rw [this] at q
    cases q
    have e : j = ps.length := by omega
    subst e
    exact ⟨x, y, hx, hy, ha⟩
end
end DL
set_option Elab.async false
set_option linter.all false
set_option maxRecDepth 100000
set_option maxHeartbeats 4000000
namespace DL
open PySem PySem.Spec PyProof.Rows L2
open AutoSeq1 (wpAny_loadPart')
section
variable {X : Cx} {pins : List (Addr × Obj)} {σ : L2.St}
end
end DL
set_option Elab.async false
set_option linter.all false
set_option maxRecDepth 100000
set_option maxHeartbeats 4000000
namespace DL
open PySem PySem.Spec PyProof.Rows L2
open AutoSeq1 (wpAny_loadPart')
section
variable {X : Cx} {pins : List (Addr × Obj)} {σ : L2.St}
end
section
variable {X : Cx} {a b : Expr} {f g : DE} {pos p p2 pos2 : Pos}
end
end DL
set_option Elab.async false
set_option linter.all false
set_option maxRecDepth 100000
set_option maxHeartbeats 4000000
namespace DL
open PySem PySem.Spec PyProof.Rows L2
section
variable {X : Cx} {o e : Expr} {f g : DE}
theorem RPs.eraseIdx {K : PySem.W.Frag} {Z : Addr → Prop} {m : Mu} {H : Hp} {xs : List PyData} {vs : List V} (h : RPs K Z m H xs vs) (i : Nat) : RPs K Z m H (xs.eraseIdx i) (vs.eraseIdx i) := by
  rw [List.eraseIdx_eq_take_drop_succ, List.eraseIdx_eq_take_drop_succ]
  exact (h.take _).append (h.drop _)
end
end DL
set_option Elab.async false
set_option linter.all false
set_option maxRecDepth 100000
set_option maxHeartbeats 4000000
namespace DL
open PySem PySem.Spec PyProof.Rows L2
section
variable {K : PySem.W.Frag} {Z : Addr → Prop} {m m1 : Mu} {H H1 : Hp}
theorem Ok.off {a : Addr} (ok : Ok K Z m H) : Ok K Z (offM m a) H :=
  ⟨fun b c h => by
    unfold offM at h
    split at h
    · cases h
    · obtain ⟨o, h1, h2⟩ := ok.g b c h
      exact ⟨o, h1, h2.lift fun p v q => RP.tr (fun _ _ q => q) (fun b ws q1 q2 => ⟨⟨off_none q1.1, q1.2⟩, q2⟩) p v q⟩, fun b hz => ⟨off_none (ok.z b hz).1, (ok.z b hz).2⟩⟩
theorem Ext.off {a : Addr} (e : Ext K Z m H m1 H1) (h : m a = none) : Ext K Z m H (offM m1 a) H1 :=
  ⟨e.t, fun b vs h1 h2 => let ⟨q1, q2⟩ := e.l b vs h1 h2; ⟨off_none q1, q2⟩, e.z, fun b hb => by
    unfold offM
    split
    · rename_i q; rw [q, h] at hb; cases hb
    · exact e.c b hb, e.fz, fun b hb => by
    unfold offM
    split
    · rename_i q; rw [q, h] at hb; cases hb
    · exact e.fm b hb⟩
end
section
variable {X : Cx} {e : Expr} {f : DE}
end
end DL
set_option Elab.async false
set_option linter.all false
set_option maxRecDepth 100000
set_option maxHeartbeats 4000000
namespace DL
open PySem PySem.Spec PyProof.Rows L2
section
variable {X : Cx} {pos : Pos}
@[simp] def dPs : List (DE × DE) → St2 → Mu → (List (Key × PyData) → Mu → Prop) → Prop
  | [], _, m, Q => Q [] m
  | (fk, fv) :: r, d, m, Q => fk d m fun x m1 => ∃ k, keyD x = some k ∧ fv d m1 fun y m2 => ∃ p, y = .dat p ∧ dPs r d m2 fun kvs m3 => Q ((k, p) :: kvs) m3
theorem ps_run {K : PySem.W.Frag} {Z : Addr → Prop} : ∀ {ps : List (DE × DE)} {d : St2} {m : Mu} {s : L2.St} {H : Hp} {R : List (Key × PyData) → Mu → Prop} {Q : List (V × V) → Hp → Prop}, Ok K Z m H → RS K Z m H d s → dPs ps d m R →
    (∀ kvs m' vs H', R kvs m' → Ext K Z m H m' H' → Ok K Z m' H' → RKV K Z m' H' kvs vs → Q (vs.map fun kv => (kV kv.1, kv.2)) H') → tPairs (ps.map fun z => (LE K z.1, LE K z.2)) s H Q
  | [], d, m, s, H, R, Q, ok, rs, h, k => k [] m [] H h Ext.refl ok rfl
  | (fk, fv) :: r, d, m, s, H, R, Q, ok, rs, h, k => by
    refine ⟨Z, d, m, _, ok, rs, h, fun x m1 v H1 q e1 ok1 r1 => ?_⟩
    obtain ⟨ky, hk, q⟩ := q
    cases r1.key hk
    refine ⟨Z, d, m1, _, ok1, rs.ext e1, q, fun y m2 w H2 q2 e2 ok2 r2 => ?_⟩
    obtain ⟨p, rfl, q2⟩ := q2
    refine ps_run ok2 ((rs.ext e1).ext e2) q2 fun kvs m3 vs H3 q3 e3 ok3 rk => ?_
    exact k ((ky, p) :: kvs) m3 ((ky, w) :: vs) H3 q3 (e1.trans (e2.trans e3)) ok3 ⟨w, vs, rfl, RP.ext e3 _ _ r2, rk⟩
@[simp] def dDisp (ps : List (DE × DE)) : DE := fun d m Q => ∀ p, m p = none → dPs ps d (updM m p (.d [])) fun kvs m2 => m2 p = some (.d []) ∧ kvs.length ≤ 15 ∧ Q (.cel p) (updM m2 p (.d (putsP [] kvs)))
def PD (X : Cx) (pos : Pos) (keys : List (Option Expr)) (values : List Expr) (ps : List (DE × DE)) : Prop := PPs X pos keys values (ps.map fun z => (LE X.K z.1, LE X.K z.2))
theorem ld_nil : PD X pos [] [] [] := pps_nil
theorem ld_cons {k v : Expr} {ks : List (Option Expr)} {vs : List Expr} {fk fv : DE} {ps : List (DE × DE)} (hk : PE X k (LE X.K fk)) (hv : PE X v (LE X.K fv)) (hr : PD X pos ks vs ps) : PD X pos (some k :: ks) (v :: vs) ((fk, fv) :: ps) := pps_cons hk hv hr
theorem le_disp {keys : List (Option Expr)} {values : List Expr} {ps : List (DE × DE)} (h : PD X pos keys values ps) (hall : keys.all (·.isSome) = true := by rfl) (hl : keys.length = values.length := by rfl) (h0 : keys ≠ [] := by exact List.cons_ne_nil _ _)
    (h15 : keys.length ≤ 15 := by decide) : PE X (.Dict keys values pos) (LE X.K (dDisp ps)) := by
  intro pins s σ H Q I q
  obtain ⟨Z, d, m, R, ok, rs, hd, k⟩ := q
  have hn := I.hok.fresh (Nat.le_refl s.heap.objs.size)
  have hk : X.K.lookup s.heap.objs.size = none := by
    cases e : X.K.lookup s.heap.objs.size with
    | none => rfl
    | some o => exact absurd (Heap.lt_size (I.kIn _ o e)) (Nat.lt_irrefl _)
  have e0 := Ext.cell (c := .d []) (o := .dK []) ok hn hk
  have I1 := I.laid (a := s.heap.objs.size) (o := .dK []) (h' := s.heap.push { cls := .type "dict", data := .dict #[] }) (t' := s.toks) (fun _ _ q => Heap.get?_push_of_some _ q) (Nat.le_refl _) (dk_empty s.heap I.big)
  have run : tPairs (ps.map fun z => (LE X.K z.1, LE X.K z.2)) σ (upd H s.heap.objs.size (.dK [])) fun ps H2 => H2 s.heap.objs.size = some (.dK []) ∧ ∃ kvs : List (Key × V), ps = kvs.map (fun kv => (kV kv.1, kv.2)) ∧ kvs.length ≤ 15 ∧ Q (.ref s.heap.objs.size) (upd H2 s.heap.objs.size (.dK (mergeK [] kvs))) := by
    refine ps_run (ok.cell (c := .d []) (o := .dK []) hn hk (show RKV (κ := Key) X.K Z m H [] [] from rfl)) (rs.ext e0) (hd _ (ok_none ok hn).1) fun kvs m2 vs H2 q2 e2 ok2 rk => ?_
    obtain ⟨hm, hlen, q⟩ := q2
    obtain ⟨ws, g1, g2⟩ := ok2.d hm
    cases (show ws = [] from g2)
    exact ⟨g1, vs, rfl, by rw [rk.length]; exact hlen, k _ _ _ _ q (e0.trans (e2.trans (Ext.put ok2 hm g1))) (ok2.put hm g1 (show RKV _ _ _ _ _ _ from RKV.puts (acc := []) (aw := []) rfl rk)) ⟨rfl, by rw [updM_same]; rfl⟩⟩
  refine wpAny_Dict_walk (knd := mixKind X.prog X.w) hall hl h0 h15 (thn (h pins _ σ _ _ I1 run) fun ws s2 ⟨ps, H2, I2, rel, e, kvs, ep, lk, q2⟩ => ?_)
  subst ep
  obtain ⟨rs, c, rk⟩ := carries_of (P := X.prog) (w := X.w) rel
  obtain ⟨z, hd, vs0, r0, dd⟩ := dk_of I2.hok e
  cases r0
  refine ⟨rs, c, dd, fun h' dd' hs => ⟨.ref s.heap.objs.size, _, ?_, rfl, q2⟩⟩
  have hz : (mergeK [] kvs).length ≤ sizeLine := by
    have h1 := length_mergeK kvs []
    rw [List.length_nil] at h1
    rw [sizeLine_eq]; omega
  have he : ∃ q, h'.get? s.heap.objs.size = some q := let ⟨q, _, _, hq, _⟩ := dd'; ⟨q, hq⟩
  exact d_write I2 (by rw [e]; exact True.intro) hs he (dk_new hz hd (rk.merge .nil) dd')
variable {o e : Expr} {f g : DE}
@[simp] def dDUpd (fo g : DE) : DE := fun d m Q => fo d m fun o m1 => ∃ c, o = .cel c ∧ (∃ kvs, m1 c = some (.d kvs)) ∧ g d m1 fun x m2 => ∃ kvs more b, x = .cel b ∧ c ≠ b ∧ m2 c = some (.d kvs) ∧ m2 b = some (.d more) ∧ kvs.length + more.length ≤ sizeLine ∧ Q (.dat .none) (updM m2 c (.d (putsP kvs more)))
theorem le_dupd {apos cpos : Pos} (ho : PE X o (LE X.K f)) (he : PE X e (LE X.K g)) (M : M1 X o "update" apos e cpos := by exact ⟨by rfl, by rfl, by rfl, by rfl⟩) : PE X (.Call (.Attribute o "update" apos) [e] [] cpos) (LE X.K (dDUpd f g)) := by
  intro pins s σ H Q I h
  obtain ⟨Z, d, m, R, ok, rs, h, k⟩ := h
  refine wpAny_Call_method M.base M.few M.line PySem.F.plainAttrs_dict PySem.F.slot_dict_update PySem.F.type_dict_update (thn (ho pins s σ H (fun x H1 => ∃ c m1 kvs, x = .ref c ∧ m1 c = some (.d kvs) ∧ (g d m1 fun x m2 => ∃ kvs more b, x = .cel b ∧ c ≠ b ∧ m2 c = some (.d kvs) ∧ m2 b = some (.d more) ∧ kvs.length + more.length ≤ sizeLine ∧ R (.dat .none) (updM m2 c (.d (putsP kvs more)))) ∧ Ext X.K Z m H m1 H1 ∧ Ok X.K Z m1 H1) I
    ⟨Z, d, m, _, ok, rs, h, fun x m1 v H1 ⟨c, ex, ⟨kvs, hm⟩, q⟩ e1 ok1 rd => by subst ex; obtain ⟨rfl, _⟩ := rd; exact ⟨c, m1, kvs, rfl, hm, q, e1, ok1⟩⟩) fun u s1 ⟨x, H1, I1, rx, c, m1, kvs, ex, hm, q, e1, ok1⟩ => ?_)
  subst ex
  obtain rfl : u = Value.ref c := rx
  obtain ⟨vs, g1, g2⟩ := ok1.d hm
  obtain ⟨t1, t2, _⟩ := isD_at I1 (.inl ⟨vs, .inl g1⟩)
  refine ⟨t1, t2, ?_⟩
  rw [M.trees]
  refine Calls.callWith_builtin rfl (Calls.evalArgs_plain (Calls.spliced_cons (thn (he pins s1 σ H1 (fun y H2 => ∃ b m2 kvs more, y = .ref b ∧ c ≠ b ∧ m2 c = some (.d kvs) ∧ m2 b = some (.d more) ∧ kvs.length + more.length ≤ sizeLine ∧ R (.dat .none) (updM m2 c (.d (putsP kvs more))) ∧ Ext X.K Z m1 H1 m2 H2 ∧ Ok X.K Z m2 H2) I1
    ⟨Z, d, m1, _, ok1, rs.ext e1, q, fun y m2 w H2 ⟨kvs, more, b, ey, hcb, h1, h2, hz, q2⟩ e2 ok2 rd => by subst ey; obtain ⟨rfl, _⟩ := rd; exact ⟨b, m2, kvs, more, rfl, hcb, h1, h2, hz, q2, e2, ok2⟩⟩) fun iv s2 ⟨y, H2, I2, ry, b, m2, kvs, more, ey, hcb, h1, h2, hz, q2, e2, ok2⟩ => Calls.spliced_nil ?_)))
  subst ey
  obtain rfl : iv = Value.ref b := ry
  obtain ⟨ws, g3, g4⟩ := ok2.d h1
  obtain ⟨us, g5, g6⟩ := ok2.d h2
  obtain ⟨z1, hd1, vs1, rel1, dd1⟩ := dk_of I2.hok g3
  obtain ⟨z2, hd2, vs2, rel2, dd2⟩ := dk_of I2.hok g5
  have lz : vs1.length + vs2.length ≤ sizeLine := by rw [← rel1.length, ← rel2.length, g4.length, g6.length]; exact hz
  refine call_meetsIn PySem.F.slot_dict_update dd1.typeIs PySem.F.entry_dict_update (PySem.F.args_dict_update_2 _ _) (meets_dict_update (mixKind X.prog X.w) c b hcb hd2) ⟨vs1, vs2, dd1, dd2, lz, fun h' dd' _ hs => ⟨.non, upd H2 c (.dK (mergeK ws us)), ?_, rfl, ?_⟩⟩
  · have he : ∃ q, h'.get? c = some q := let ⟨q, _, _, hq, _⟩ := dd'; ⟨q, hq⟩
    have hz' : (mergeK ws us).length ≤ sizeLine := by
      have := length_mergeK us ws
      rw [g4.length, g6.length] at this
      omega
    exact d_write (t' := s2.toks) I2 (by rw [g3]; exact True.intro) hs he (dk_new hz' hd1 (rel2.merge rel1) dd')
  · have e3 : Ext X.K Z m2 H2 (updM m2 c (.d (putsP kvs more))) (upd H2 c (.dK (mergeK ws us))) := Ext.put ok2 h1 g3
    exact k _ _ _ _ q2 (e1.trans (e2.trans e3)) (ok2.put h1 g3 (show RKV _ _ _ _ _ _ from RKV.puts g4 g6)) (by simp only [RD, RP])
end
end DL
set_option Elab.async false
set_option linter.all false
set_option maxRecDepth 100000
set_option maxHeartbeats 4000000
namespace DL
open PySem PySem.Spec PyProof.Rows L2
section
variable {X : Cx} {o i : Expr} {fo fi : DE} {pos : Pos}
end
end DL
set_option Elab.async false
set_option linter.all false
set_option maxRecDepth 100000
set_option maxHeartbeats 4000000
namespace DL
open PySem PySem.Spec PyProof.Rows L2
section
variable {X : Cx} {e : Expr} {f : DE} {pos p p2 pos2 : Pos}
variable {e2 : Expr} {f2 : DE}
end
end DL
set_option Elab.async false
set_option linter.all false
set_option maxRecDepth 100000
set_option maxHeartbeats 4000000
namespace DL
open PySem PySem.Spec PyProof.Rows L2
section
variable {X : Cx} {a b c : Expr} {f g h : DE} {pos : Pos}
@[simp] def dChain (r r' : D2) (f g h : DE) : DE := fun d m Q => f d m fun x m1 => g d m1 fun y m2 => r x y m2 fun z m3 => ∃ k, z = .dat (.bool k) ∧ (if k = true then h d m3 fun w m4 => r' y w m4 Q else Q (.dat (.bool false)) m3)
theorem le_chain {op op' : CmpOp} {r r' : D2} (ho : OpD X (compareOp op) r) (ho' : OpD X (compareOp op') r') (ha : PE X a (LE X.K f)) (hb : PE X b (LE X.K g)) (hc : PE X c (LE X.K h))
    (hm : lastMarks [op, op'] [b, c] = false := by with_unfolding_all rfl) : PE X (.Compare a [op, op'] [b, c] pos) (LE X.K (dChain r r' f g h)) := by
  intro pins s σ H Q I hh
  obtain ⟨Z, d, m, R, ok, rs, hf, k⟩ := hh
  refine Compare_chain (thn (ha pins s σ H (fun x H1 => ∃ (dx : D) (m1 : Mu), RD X.K Z m1 H1 dx x ∧ (g d m1 fun y m2 => r dx y m2 fun z m3 => ∃ k, z = .dat (.bool k) ∧ (if k = true then h d m3 fun w m4 => r' y w m4 R else R (.dat (.bool false)) m3)) ∧ Ext X.K Z m H m1 H1 ∧ Ok X.K Z m1 H1) I
    ⟨Z, d, m, _, ok, rs, hf, fun x m1 v H1 q e1 ok1 rd => ⟨x, m1, rd, q, e1, ok1⟩⟩) fun v s1 ⟨x, H1, I1, r1, dx, m1, rd, q, e1, ok1⟩ => chain_link (thn (hb pins s1 σ H1 (fun y H2 => ∃ (dy : D) (m2 : Mu), RD X.K Z m2 H2 dy y ∧ (r dx dy m2 fun z m3 => ∃ k, z = .dat (.bool k) ∧ (if k = true then h d m3 fun w m4 => r' dy w m4 R else R (.dat (.bool false)) m3)) ∧ Ext X.K Z m1 H1 m2 H2 ∧ Ok X.K Z m2 H2) I1
    ⟨Z, d, m1, _, ok1, rs.ext e1, q, fun y m2 w H2 q2 e2 ok2 rd2 => ⟨y, m2, rd2, q2, e2, ok2⟩⟩) fun u s2 ⟨y, H2, I2, r2, dy, m2, rd2, q2, e2, ok2⟩ =>
    thn (ho pins s2 σ H2 Z m2 x y dx dy v u _ (fun z H3 => ∃ (kk : Bool) (m3 : Mu), z = .bl kk ∧ (if kk = true then h d m3 fun w m4 => r' dy w m4 R else R (.dat (.bool false)) m3) ∧ Ext X.K Z m2 H2 m3 H3 ∧ Ok X.K Z m3 H3) I2 ok2 r1 r2 (rd.ext e2) rd2 q2 (fun z m3 v3 H3 ⟨kk, ez, q3⟩ e3 ok3 rd3 => by subst ez; exact ⟨kk, m3, by simpa only [RD, RP] using rd3, q3, e3, ok3⟩))
      fun cv s3 ⟨z, H3, I3, r3, kk, m3, ez, q3, e3, ok3⟩ => ?_)) hm
  subst ez
  cases r3
  refine wpAny_truthy_bool ?_
  cases kk with
  | false => exact ite_ff ⟨.bl false, H3, I3, rfl, k _ m3 _ H3 (by simpa using q3) (e1.trans (e2.trans e3)) ok3 .ofBl⟩
  | true =>
    refine ite_tt (chain_last (thn (hc pins s3 σ H3 (fun w H4 => ∃ (dw : D) (m4 : Mu), RD X.K Z m4 H4 dw w ∧ r' dy dw m4 R ∧ Ext X.K Z m3 H3 m4 H4 ∧ Ok X.K Z m4 H4) I3 ⟨Z, d, m3, _, ok3, ((rs.ext e1).ext e2).ext e3, by simpa using q3, fun w m4 v4 H4 q4 e4 ok4 rd4 => ⟨w, m4, rd4, q4, e4, ok4⟩⟩)
      fun w' s4 ⟨z', H4, I4, r4, dw, m4, rd4, q4, e4, ok4⟩ => ?_))
    exact ho' pins s4 σ H4 Z m4 y z' dy dw u w' R Q I4 ok4 r2 r4 (rd2.ext (e3.trans e4)) rd4 q4 fun d' m' v' H' h1 h2 h3 h4 => k d' m' v' H' h1 (e1.trans (e2.trans (e3.trans (e4.trans h2)))) h3 h4
end
end DL
set_option Elab.async false
set_option linter.all false
set_option maxRecDepth 100000
set_option maxHeartbeats 4000000
namespace DL
open PySem PySem.Spec PyProof.Rows L2
section
variable {K : PySem.W.Frag} {Z : Addr → Prop} {m : Mu} {H : Hp}
end
section
variable {X : Cx}
end
end DL
set_option Elab.async false
set_option linter.all false
set_option maxRecDepth 100000
set_option maxHeartbeats 4000000
namespace DL
open PySem PySem.Spec PyProof.Rows L2
section
variable {X : Cx}
end
end DL
set_option Elab.async false
set_option linter.all false
set_option maxRecDepth 100000
set_option maxHeartbeats 4000000
namespace DL
open PySem PySem.Spec PyProof.Rows L2
section
variable {P : Program} {w : World} {A : Around} {E : Value → Shared → Prop} {s : Shared} {it d : Addr} {i ep : Nat} {es : Array DictEntry} {od : Obj}
theorem keys_start {Q : Value → Shared → Prop} (hd : (d == sysModules) = false) (hod : s.heap.get? d = some od) (hx : od.ExactDict) (hdd : od.data = .dict es ep)
    (hQ : Q (.ref s.heap.objs.size) { s with heap := s.heap.push { cls := .type "dict_keyiterator", data := .fields #[.ref d, .int 0 0, .int es.size 0, .int ep 0] } }) : wpAny (model P w) A (pyIter (.ref d)) Q E s := by
  have hT : s.TypeIs (.ref d) "dict" := ⟨od, hod, hx.1⟩
  refine wpAny_pyIter_slot hT PySem.F.slot_dict_iter (wpAny_call_entry PySem.F.slot_dict_iter hT PySem.F.entry_dict_iter ?_ (PySem.F.args_dict_iter_1 _))
  unfold Builtin.«dict.__iter__» Builtin.Dict.dictSlotNone
  refine wpAny_bind (wpAny_bind (wpAny_notOrdered_dict hT (show wpAny _ _ (pure (Value.ref d)) _ _ s from wpAny_pure ?_)))
  show wpAny _ _ (Builtin.Dict.showsAll d >>= _) _ _ s
  unfold Builtin.Dict.showsAll
  rw [hd, if_neg (by decide)]
  refine wpAny_bind (wpAny_pure (wpAny_bind (wpAny_dictEntries hod hdd (wpAny_bind (wpAny_dictEpoch hod hdd (wpAny_bind (wpAny_newObj_type (wpAny_pure ⟨_, rfl, "dict_keyiterator", _, ⟨_, Heap.get?_push_size _ rfl, rfl⟩, PySem.F.slot_dict_keyiterator_next.lookup, ?_⟩))))))))
  simpa [rawInt] using hQ
theorem own_key : Builtin.Dict_items.ownsTuple "dict_keyiterator" = false := by decide
theorem key_item {Q : Option Value → Shared → Prop} (st : s.heap.IsKeyIter it d i es.size ep) (hod : s.heap.get? d = some od) (hdd : od.data = .dict es ep) (hi : i < es.size)
    (hQ : ∀ h', h'.IsKeyIter it d (i + 1) es.size ep → Heap.SameBut it s.heap h' → Q (some es[i].key) { s with heap := h' }) : wpAny (model P w) A (pyNext (.ref it)) Q E s := by
  obtain ⟨o, ho, hc, hf⟩ := id st
  have ty := st.typeIs
  unfold pyNext
  refine wpAny_bind (wpAny_attempt (wpAny_callSpecial?_slot (name := Str.ofString "__next__") ty PySem.F.slot_dict_keyiterator_next (wpAny_call_entry PySem.F.slot_dict_keyiterator_next ty PySem.F.entry_dict_keyiterator_next ?_ (PySem.F.args_dict_keyiterator_next_1 _))))
  refine wpAny_bind (wpAny_pure (wpAny_bind (wpAny_bind ?_)))
  first
    | refine wpAny_bind (wpAny_typeNameOfWhole_keyiter ty (wpAny_pure (wpAny_bind (wpAny_fieldsOf ho hf ?_))))
    | refine wpAny_bind (wpAny_typeNameOf_keyiter ty (wpAny_pure (wpAny_bind (wpAny_fieldsOf ho hf ?_))))
  rw [own_key, if_neg (by decide)]
  show wpAny _ _ (if (Value.ref d == Value.none) = true then _ else _) _ _ s
  rw [if_neg (by exact Bool.false_ne_true)]
  refine wpAny_bind (wpAny_pure (wpAny_bind (wpAny_dictEntries hod hdd ?_)))
  rw [if_neg (by simp)]
  refine wpAny_bind (wpAny_pure (wpAny_bind (wpAny_dictEpoch hod hdd ?_)))
  rw [if_neg (by simp)]
  refine wpAny_pure ?_
  simp only [show ¬ ((i : Int) < 0) from by omega, if_false, Int.toNat_natCast, Array.getElem?_eq_getElem hi]
  refine wpAny_bind ?_
  first
    | refine wpAny_bind (wpAny_typeNameOfWhole_keyiter ty (wpAny_pure (wpAny_bind (wpAny_isOneOf_keyiter ty ?_))))
    | refine wpAny_bind (wpAny_typeNameOf_keyiter ty (wpAny_pure (wpAny_bind (wpAny_isOneOf_keyiter ty ?_))))
  show wpAny _ _ (setField (.ref it) 1 (rawInt ((i : Int) + 1)) >>= _) _ _ s
  obtain ⟨h', eh⟩ : ∃ h', h' = s.heap.update it (Obj.mapFields (·.setIfInBounds 1 (rawInt ((i : Int) + 1)))) := ⟨_, rfl⟩
  have st' : h'.IsKeyIter it d (i + 1) es.size ep := by
    subst eh
    exact ⟨_, Heap.get?_update_self _ ho (Obj.isFreed_of_fields (Obj.data_mapFields hf _)), (Obj.cls_mapFields ..).trans hc, by rw [Obj.data_mapFields hf]; simp [rawInt]⟩
  have sb : Heap.SameBut it s.heap h' := by subst eh; exact Heap.SameBut.update ..
  refine wpAny_bind (wpAny_setField ho hf (by simp) ?_)
  rw [← eh]
  refine wpAny_bind (wpAny_holding (wpAny_bind (wpAny_isOneOf_keyiter (s := { s with heap := h' }) st'.typeIs ?_)))
  show wpAny _ _ (pure es[i].key) _ _ _
  exact wpAny_pure (wpAny_pure ⟨_, rfl, wpAny_pure (hQ h' st' sb)⟩)
theorem key_done {Q : Option Value → Shared → Prop} (hh : A.handled = none) (st : s.heap.IsKeyIter it d i es.size ep) (hod : s.heap.get? d = some od) (hdd : od.data = .dict es ep) (hi : es.size ≤ i)
    (hQ : ∀ h', Heap.ExtBut it s.heap h' → Q none { s with heap := h' }) : wpAny (model P w) A (pyNext (.ref it)) Q E s := by
  obtain ⟨o, ho, hc, hf⟩ := id st
  have ty := st.typeIs
  unfold pyNext
  refine wpAny_bind (wpAny_attempt (wpAny_callSpecial?_slot (name := Str.ofString "__next__") ty PySem.F.slot_dict_keyiterator_next (wpAny_call_entry PySem.F.slot_dict_keyiterator_next ty PySem.F.entry_dict_keyiterator_next ?_ (PySem.F.args_dict_keyiterator_next_1 _))))
  refine wpAny_bind (wpAny_pure (wpAny_bind (wpAny_bind ?_)))
  first
    | refine wpAny_bind (wpAny_typeNameOfWhole_keyiter ty (wpAny_pure (wpAny_bind (wpAny_fieldsOf ho hf ?_))))
    | refine wpAny_bind (wpAny_typeNameOf_keyiter ty (wpAny_pure (wpAny_bind (wpAny_fieldsOf ho hf ?_))))
  rw [own_key, if_neg (by decide)]
  show wpAny _ _ (if (Value.ref d == Value.none) = true then _ else _) _ _ s
  rw [if_neg (by exact Bool.false_ne_true)]
  refine wpAny_bind (wpAny_pure (wpAny_bind (wpAny_dictEntries hod hdd ?_)))
  rw [if_neg (by simp)]
  refine wpAny_bind (wpAny_pure (wpAny_bind (wpAny_dictEpoch hod hdd ?_)))
  rw [if_neg (by simp)]
  refine wpAny_pure ?_
  simp only [show ¬ ((i : Int) < 0) from by omega, if_false, Int.toNat_natCast, Array.getElem?_eq_none hi]
  refine wpAny_bind ?_
  first
    | refine wpAny_bind (wpAny_typeNameOfWhole_keyiter ty (wpAny_pure ?_))
    | refine wpAny_bind (wpAny_typeNameOf_keyiter ty (wpAny_pure ?_))
  show wpAny _ _ (setField (.ref it) 0 .none >>= _) _ _ s
  refine wpAny_bind (wpAny_setField ho hf (by simp) ?_)
  show wpAny _ _ (newExc (.type "StopIteration") [] >>= _) _ _ _
  refine wpAny_bind ?_
  simp only [newExc, newTuple]
  refine wpAny_bind (wpAny_newObj_type ?_ (by size_fits))
  refine wpAny_bind (m := firstArgMember _ _) (wpAny_of_eq (a := Value.none) (by first | rfl | (simp only [firstArgMember]; rfl)) (wpAny_newObj_type ?_ (by size_fits)))
  simp only [raiseNew]
  refine wpAny_bind (wpAny_handled ?_)
  rw [show A.in1.handled = none from hh]
  refine wpAny_bind (wpAny_pure (wpAny_throw ?_))
  refine wpAny_bind (wpAny_isInstance (T := "StopIteration") (b := true) ⟨_, Heap.get?_push_size _ rfl, rfl⟩ isSubtype_stop (wpAny_pure (hQ _ ?_)))
  exact ((Heap.SameBut.update ..).extBut.push _).push _
end
theorem Paired.at {α β : Type} {r : α → β → Prop} : ∀ {xs : List α} {ys : List β} {i : Nat} {x : α}, Paired r xs ys → xs[i]? = some x → ∃ y, ys[i]? = some y ∧ r x y
  | _, _, _, _, .nil, e => by simp at e
  | _, _, 0, x, .cons h _, e => by
    simp at e
    subst e
    exact ⟨_, rfl, h⟩
  | _, _, i + 1, x, .cons _ h, e => by
    obtain ⟨y, h1, h2⟩ := Paired.at (i := i) h (by simpa using e)
    exact ⟨y, by simpa using h1, h2⟩
theorem Paired.len {α β : Type} {r : α → β → Prop} : ∀ {xs : List α} {ys : List β}, Paired r xs ys → xs.length = ys.length
  | _, _, .nil => rfl
  | _, _, .cons _ h => by rw [List.length_cons, List.length_cons, Paired.len h]
section
variable {X : Cx} {a : Expr} {tg : Expr} {f : DE}
theorem rps_keys {K : PySem.W.Frag} {Z : Addr → Prop} {m : Mu} {H : Hp} : ∀ ks : List Key, RPs K Z m H (ks.map keyPy) (ks.map kV)
  | [] => by simp [RPs]
  | .inl i :: r => by
    simp only [List.map_cons, RPs]
    exact ⟨_, _, rfl, by simp only [keyPy, RP]; rfl, rps_keys r⟩
  | .inr z :: r => by
    simp only [List.map_cons, RPs]
    exact ⟨_, _, rfl, by simp only [keyPy, RP]; rfl, rps_keys r⟩
theorem RKV.keyAt {κ : Type} {K : PySem.W.Frag} {Z : Addr → Prop} {m : Mu} {H : Hp} : ∀ {kvs : List (κ × PyData)} {vs : List (κ × V)}, RKV K Z m H kvs vs → vs.map (·.1) = kvs.map (·.1)
  | [], _, h => by cases (show _ = [] from h); rfl
  | _ :: _, _, ⟨v, r, h1, _, h3⟩ => by
    subst h1
    rw [List.map_cons, List.map_cons, RKV.keyAt h3]
end
section
variable {X : Cx} {o : Expr} {es : List Expr} {fo : DE} {fa : DA} {pos ipos : Pos} {j : Nat}
theorem Ok.ft {K : PySem.W.Frag} {Z : Addr → Prop} {m : Mu} {H : Hp} {a : Addr} {xs : List (List Key × PyData)} (ok : Ok K Z m H) (h : m a = some (.ft xs)) : ∃ ob vs, H a = some (.frz ob (.dT vs)) ∧ RKV K Z m H xs vs := by
  obtain ⟨o, h1, h2⟩ := ok.g a _ h
  cases o with
  | frz ob u => cases u <;> first | exact ⟨_, _, h1, h2⟩ | exact h2.elim
  | _ => exact h2.elim
end
end DL
set_option Elab.async false
set_option linter.all false
set_option maxRecDepth 100000
set_option maxHeartbeats 4000000
namespace DL
open PySem PySem.Spec PyProof.Rows L2
def kaV (kas : List (Key × Addr)) : List (Key × V) := kas.map fun x => (x.1, V.ref x.2)
theorem Ok.dl {K : PySem.W.Frag} {Z : Addr → Prop} {m : Mu} {H : Hp} {a : Addr} {kas : List (Key × Addr)} (ok : Ok K Z m H) (h : m a = some (.dl kas)) : H a = some (.dK (kaV kas)) := by
  obtain ⟨o, h1, h2⟩ := ok.g a _ h
  cases o <;> first | (cases (show _ = kaV kas from h2); exact h1) | exact h2.elim
section
variable {X : Cx} {o i e : Expr} {fo fi f : DE} {pos tpos : Pos}
end
end DL
set_option Elab.async false
set_option linter.all false
set_option maxRecDepth 100000
set_option maxHeartbeats 4000000
namespace DL
open PySem PySem.Spec PyProof.Rows L2
def many (n lo st : Nat) : Nat := if lo < n then (n - lo - 1) / st + 1 else 0
def places (n lo st : Nat) : List Nat := (List.range (many n lo st)).map fun k => lo + k * st
theorem Vals.at {xs : List V} {us : List Value} : ∀ {i : Nat} {x : V}, Vals xs us → xs[i]? = some x → ∃ u, us[i]? = some u ∧ RelV x u := fun h e => h.get e
section
variable {prog : Program} {w : World} {A : Around} {E : Value → Shared → Prop} {s : Shared}
end
section
variable {X : Cx} {a lo st : Expr} {f g h : DE} {pos p2 : Pos}
end
end DL
set_option Elab.async false
set_option linter.all false
set_option maxRecDepth 100000
set_option maxHeartbeats 4000000
namespace DL
open PySem PySem.Spec PyProof.Rows L2
def TSet (P : Program) (w : World) (h : Heap) (a : Addr) (zs : List Str) : Prop :=
  ∃ o es ep t, h.get? a = some o ∧ o.ExactSet ∧ o.data = .set es ep t ∧ ElemsOf (mixKind P w) es.toList ∧ (∃ vs, StrsAre (es.toList.map (·.2)) vs ∧ vs.Perm zs) ∧ zs.Nodup ∧ es.size < scanBound ∧ t.fits es.size = true ∧ t.led = !w.params.followText "set-order" ∧ (zs ≠ [] → t.plain = false)
theorem StrsAre.snoc : ∀ {l : List Value} {vs : List Str} (z : Str) (tk : Tok), StrsAre l vs → StrsAre (l ++ [.str z tk]) (vs ++ [z])
  | _, _, z, tk, .nil => .cons z tk .nil
  | _, _, z, tk, .cons x t h => .cons x t (StrsAre.snoc z tk h)
section
variable {P : Program} {w : World} {A : Around} {E : Value → Shared → Prop} {s : Shared} {a : Addr} {zs : List Str} {z : Str} {tk : Tok}
theorem TSet.len {h : Heap} (T : TSet P w h a zs) : ∃ o es ep t, h.get? a = some o ∧ o.data = .set es ep t ∧ es.size = zs.length := by
  obtain ⟨o, es, ep, t, h1, _, h3, _, ⟨vs, h5, h6⟩, _⟩ := T
  refine ⟨o, es, ep, t, h1, h3, ?_⟩
  have q1 := congrArg List.length h5.strs
  have q2 := h6.length_eq
  simp at q1
  omega
end
end DL
set_option Elab.async false
set_option linter.all false
set_option maxRecDepth 100000
set_option maxHeartbeats 4000000
namespace DL
open PySem PySem.Spec PyProof.Rows L2
section
variable {P : Program} {w : World} {A : Around} {R : Result → Shared → Prop} {I : Addr} {fp wr : List Addr} {G : Array GenState → Array GenState → Prop} {n : Nat} {Pv : Nat → Value → Prop} {St : Nat → Shared → Prop}
theorem TSet.at {h h' : Heap} {a : Addr} {zs : List Str} (T : TSet P w h a zs) (k : ∀ o, h.get? a = some o → h'.get? a = some o) : TSet P w h' a zs := by
  obtain ⟨o, es, ep, t, ho, rest⟩ := T
  exact ⟨o, es, ep, t, k o ho, rest⟩
end
end DL
set_option Elab.async false
set_option linter.all false
set_option maxRecDepth 100000
set_option maxHeartbeats 4000000
namespace DL
open PySem PySem.Spec PyProof.Rows L2
abbrev freshSet (w : World) : Obj := { cls := .type "set", dict := none, data := .set #[] 0 (.fresh 0 0 (!w.params.followText "set-order")) }
section
variable {P : Program} {w : World} {A : Around} {E : Value → Shared → Prop} {s : Shared}
theorem code_newT (a : Value) {Q₁ : Value → Shared → Prop} (h : Q₁ (.ref s.heap.objs.size) { s with heap := s.heap.push (freshSet w) }) : codeAny (model P w) A (.call (.builtin "set.__new__") ⟨[.type "set", a], []⟩) (wants Q₁ E) s := by
  refine codeAny_of_tree ?_
  show wpAny _ A.in1 (do checkBuiltinCall "set.__new__" ⟨[.type "set", a], []⟩; again (.builtin "set.__new__" ⟨[.type "set", a], []⟩)) _ _ s
  refine wpAny_bind (wpAny_of_eq (PySem.F.newCall_set_1 a) (wpAny_pure ⟨plainId_quiet F.plain_set_new _, codeAny_builtin F.entry_set_new ?_⟩))
  rw [Around.under_plainId F.plain_set_new _]
  unfold Builtin.«set.__new__» Builtin.Frozenset.newClass
  have hsub := sub_set_self
  obtain ⟨hp, g, d, tk, os⟩ := s
  dsimp only
  wp_walk
  refine wpAny_askSetting (wpAny_pure ?_)
  dsimp only
  simp only [newObj]
  exact wpAny_bind (wpAny_alloc (wpAny_pure (wpAny_pure h)))
end
end DL
set_option Elab.async false
set_option linter.all false
set_option maxRecDepth 100000
set_option maxHeartbeats 4000000
namespace DL
open PySem PySem.Spec PyProof.Rows L2
theorem si_owner : Manifest.owners.lookup (String.ofList "rotareti_tes".toList.reverse) = some Manifest.sig_set_iterator := by kernel_rfl
theorem si_slot_next : Slot "set_iterator" "__next__" "set_iterator.__next__" := .of (owner := "set_iterator") (n := "__next__") (by rw [typeLookup_type, builtinLookup_eq_fast]; kernel_rfl) (by decide +kernel) (by decide +kernel) (by decide +kernel) (by first | exact .inl (by decide +kernel) | exact .inr (by decide +kernel)) (by rw [isSubtype_type]; kernel_rfl)
theorem si_entry_next : entryFor table "set_iterator.__next__" = some Builtin.«set_iterator.__next__» := entryFor_of_tree (by kernel_rfl)
theorem si_args_next (a : Value) : argsOk "set_iterator.__next__" ⟨[a], []⟩ := by
  unfold argsOk
  rw [signature?_of (id := "set_iterator.__next__") (n := "__txen__".toList) (o := "rotareti_tes".toList) (by kernel_rfl) si_owner]
  kernel_rfl
theorem si_slot_iter : Slot "set_iterator" "__iter__" "set_iterator.__iter__" := .of (owner := "set_iterator") (n := "__iter__") (by rw [typeLookup_type, builtinLookup_eq_fast]; kernel_rfl) (by decide +kernel) (by decide +kernel) (by decide +kernel) (by first | exact .inl (by decide +kernel) | exact .inr (by decide +kernel)) (by rw [isSubtype_type]; kernel_rfl)
theorem si_args_iter (a : Value) : argsOk "set_iterator.__iter__" ⟨[a], []⟩ := by
  unfold argsOk
  rw [signature?_of (id := "set_iterator.__iter__") (n := "__reti__".toList) (o := "rotareti_tes".toList) (by kernel_rfl) si_owner]
  kernel_rfl
theorem si_entry_iter : entryFor table "set_iterator.__iter__" = some Builtin.«dict_keyiterator.__iter__» := entryFor_alias (id' := "dict_keyiterator.__iter__") (by kernel_rfl) (by first | rfl | decide +kernel | (unfold String.splitOn; simp +decide [String.splitOnAux])) (by decide +kernel) (by kernel_rfl)
theorem set_entry_iter : entryFor table "set.__iter__" = some Builtin.«frozenset.__iter__» := entryFor_alias (id' := "frozenset.__iter__") (by kernel_rfl) rfl (by decide +kernel) (by kernel_rfl)
end DL
set_option Elab.async false
set_option linter.all false
set_option maxRecDepth 100000
set_option maxHeartbeats 4000000
namespace DL
open PySem PySem.Spec PyProof.Rows L2
abbrev siObj (first : Value) (i : Nat) (S : Addr) (n ep : Nat) : Obj := { cls := .type "set_iterator", dict := none, data := .fields #[first, .int i 0, .ref S, .int n 0, .int ep 0], slots := #[] }
section
variable {P : Program} {w : World} {A : Around} {E : Value → Shared → Prop} {s : Shared} {I S T : Addr} {o : Obj} {es : Array (Int × Value)} {ep i : Nat} {t : SetTable} {places : Array Value}
theorem si_type {first : Value} {n : Nat} (h : s.heap.get? I = some (siObj first i S n ep)) : s.TypeIs (.ref I) "set_iterator" := ⟨_, h, rfl⟩
theorem stop_here {X : Fin → Shared → Prop} {Q : Option Value → Shared → Prop} (hh : A.handled = none) (h : ∀ h', (∀ b ob, s.heap.get? b = some ob → h'.get? b = some ob) → Q none { s with heap := h' }) :
    wpAny (model P w) A.in1 (newExc (.type "StopIteration") [] >>= fun e => raiseNew e) X (fun e s' => wpAny (model P w) A (isInstance e (.type "StopIteration") >>= fun b => if b = true then pure none else throw e) Q E s') s := by
  refine wpAny_bind ?_
  simp only [newExc, newTuple]
  refine wpAny_bind (wpAny_newObj_type ?_ (by size_fits))
  refine wpAny_bind (m := firstArgMember _ _) (wpAny_of_eq (a := Value.none) (by first | rfl | (simp only [firstArgMember]; rfl)) (wpAny_newObj_type ?_ (by size_fits)))
  simp only [raiseNew]
  refine wpAny_bind (wpAny_handled ?_)
  rw [show A.in1.handled = none from hh]
  refine wpAny_bind (wpAny_pure (wpAny_throw ?_))
  refine wpAny_bind (wpAny_isInstance (T := "StopIteration") (b := true) ⟨_, Heap.get?_push_size _ rfl, rfl⟩ isSubtype_stop (wpAny_pure (h _ fun b ob e => ?_)))
  exact Heap.get?_push_of_some _ (Heap.get?_push_of_some _ e)
theorem siB_item {Q : Option Value → Shared → Prop} {x : Int × Value} (bt : w.params.followText "set-order" = true) (hI : s.heap.get? I = some (siObj (.int 0 0) i S es.size ep)) (hS : s.heap.get? S = some o) (hd : o.data = .set es ep t) (hf : t.fits es.size = true)
    (hx : (pickOrder (w.params.setOrder S ep) es)[i]? = some x) (hQ : ∀ h', h'.get? I = some (siObj (.int 0 0) (i + 1) S es.size ep) → Heap.SameBut I s.heap h' → Q (some x.2) { s with heap := h' }) : wpAny (model P w) A (pyNext (.ref I)) Q E s := by
  have ty := si_type hI
  unfold pyNext
  refine wpAny_bind (wpAny_attempt (wpAny_callSpecial?_slot (name := Str.ofString "__next__") ty si_slot_next (wpAny_call_entry si_slot_next ty si_entry_next ?_ (si_args_next _))))
  unfold Builtin.«set_iterator.__next__»
  refine wpAny_bind (wpAny_pure (wpAny_bind (wpAny_fieldsOf hI rfl ?_)))
  show wpAny _ _ (setEntries S >>= _) _ _ s
  refine wpAny_bind (wpAny_setEntries_of hS hd hf ?_)
  rw [if_neg (by simp)]
  show wpAny _ _ (setNext S 0 i ep >>= _) _ _ s
  refine wpAny_bind ?_
  unfold setNext
  refine wpAny_bind (wpAny_setState_of hS hd hf ?_)
  dsimp only
  unfold setsByText
  refine wpAny_bind (wpAny_bind (wpAny_askSetting (wpAny_pure ?_)))
  show wpAny _ _ (if w.params.followText "set-order" = true then _ else _) _ _ s
  rw [if_pos bt, if_neg (by simp)]
  refine wpAny_bind ?_
  unfold setWalk
  refine wpAny_bind (wpAny_setState_of hS hd hf ?_)
  dsimp only
  unfold setsByText
  refine wpAny_bind (wpAny_bind (wpAny_askSetting (wpAny_pure ?_)))
  show wpAny _ _ (if w.params.followText "set-order" = true then _ else _) _ _ s
  rw [if_pos bt]
  refine wpAny_bind (wpAny_askSetting (wpAny_pure (wpAny_pure ?_)))
  show wpAny _ _ (match ((pickOrder (w.params.setOrder S ep) es)[i]?).map fun e => (e.2, 0) with | some (x, next) => _ | none => _) _ _ s
  rw [hx]
  refine wpAny_bind (wpAny_setField_rec hI (by simp) fun h1 e1 sb1 => ?_)
  refine wpAny_bind (wpAny_setField_rec (s := { s with heap := h1 }) e1 (by simp) fun h2 e2 sb2 => ?_)
  exact wpAny_pure ⟨_, rfl, wpAny_pure (hQ h2 e2 (sb1.trans sb2))⟩
theorem siB_done {Q : Option Value → Shared → Prop} (hh : A.handled = none) (bt : w.params.followText "set-order" = true) (hI : s.heap.get? I = some (siObj (.int 0 0) i S es.size ep)) (hS : s.heap.get? S = some o) (hd : o.data = .set es ep t) (hf : t.fits es.size = true)
    (hx : (pickOrder (w.params.setOrder S ep) es)[i]? = none) (hQ : ∀ h', (∀ b ob, b ≠ I → s.heap.get? b = some ob → h'.get? b = some ob) → Q none { s with heap := h' }) : wpAny (model P w) A (pyNext (.ref I)) Q E s := by
  have ty := si_type hI
  unfold pyNext
  refine wpAny_bind (wpAny_attempt (wpAny_callSpecial?_slot (name := Str.ofString "__next__") ty si_slot_next (wpAny_call_entry si_slot_next ty si_entry_next ?_ (si_args_next _))))
  unfold Builtin.«set_iterator.__next__»
  refine wpAny_bind (wpAny_pure (wpAny_bind (wpAny_fieldsOf hI rfl ?_)))
  show wpAny _ _ (setEntries S >>= _) _ _ s
  refine wpAny_bind (wpAny_setEntries_of hS hd hf ?_)
  rw [if_neg (by simp)]
  show wpAny _ _ (setNext S 0 i ep >>= _) _ _ s
  refine wpAny_bind ?_
  unfold setNext
  refine wpAny_bind (wpAny_setState_of hS hd hf ?_)
  dsimp only
  unfold setsByText
  refine wpAny_bind (wpAny_bind (wpAny_askSetting (wpAny_pure ?_)))
  show wpAny _ _ (if w.params.followText "set-order" = true then _ else _) _ _ s
  rw [if_pos bt, if_neg (by simp)]
  refine wpAny_bind ?_
  unfold setWalk
  refine wpAny_bind (wpAny_setState_of hS hd hf ?_)
  dsimp only
  unfold setsByText
  refine wpAny_bind (wpAny_bind (wpAny_askSetting (wpAny_pure ?_)))
  show wpAny _ _ (if w.params.followText "set-order" = true then _ else _) _ _ s
  rw [if_pos bt]
  refine wpAny_bind (wpAny_askSetting (wpAny_pure (wpAny_pure ?_)))
  show wpAny _ _ (match ((pickOrder (w.params.setOrder S ep) es)[i]?).map fun e => (e.2, 0) with | some (x, next) => _ | none => _) _ _ s
  rw [hx]
  refine wpAny_bind (wpAny_setField_rec hI (by simp) fun h1 e1 sb1 => ?_)
  refine stop_here (s := { s with heap := h1 }) hh fun h' k => hQ h' fun b ob hb e => k b ob ?_
  rw [sb1.2 b hb]
  exact e
end
end DL
set_option Elab.async false
set_option linter.all false
set_option maxRecDepth 100000
set_option maxHeartbeats 4000000
namespace DL
open PySem PySem.Spec PyProof.Rows L2
section
variable {P : Program} {w : World} {A : Around} {E : Value → Shared → Prop} {s : Shared} {I S T : Addr} {o : Obj} {es : Array (Int × Value)} {ep i slot : Nat} {t : SetTable}
theorem siC_next {Q : Option Value → Shared → Prop} (hh : A.handled = none) (bt : w.params.followText "set-order" = false) (hI : s.heap.get? I = some (siObj (.int slot 0) i S es.size ep)) (hS : s.heap.get? S = some o) (hd : o.data = .set es ep t) (hf : t.fits es.size = true) (hl : t.led = true) (h1 : (!t.plain && decide (es.size > 1)) = false)
    (hsome : ∀ x j h', es[SetTable.below t.place slot]? = some x → t.place[SetTable.below t.place slot]? = some j → h'.get? I = some (siObj (.int ((j + 1 : Nat) : Int) 0) (i + 1) S es.size ep) → Heap.SameBut I s.heap h' → Q (some x.2) { s with heap := h' })
    (hnone : ∀ h', es[SetTable.below t.place slot]? = none → (∀ b ob, b ≠ I → s.heap.get? b = some ob → h'.get? b = some ob) → Q none { s with heap := h' }) : wpAny (model P w) A (pyNext (.ref I)) Q E s := by
  have ty := si_type hI
  have hpl : t.place.size = es.size := by
    simp only [SetTable.fits, Bool.and_eq_true, beq_iff_eq] at hf
    exact hf.1
  unfold pyNext
  refine wpAny_bind (wpAny_attempt (wpAny_callSpecial?_slot (name := Str.ofString "__next__") ty si_slot_next (wpAny_call_entry si_slot_next ty si_entry_next ?_ (si_args_next _))))
  unfold Builtin.«set_iterator.__next__»
  refine wpAny_bind (wpAny_pure (wpAny_bind (wpAny_fieldsOf hI rfl ?_)))
  show wpAny _ _ (setEntries S >>= _) _ _ s
  refine wpAny_bind (wpAny_setEntries_of hS hd hf ?_)
  rw [if_neg (by simp)]
  show wpAny _ _ (setNext S slot i ep >>= _) _ _ s
  refine wpAny_bind ?_
  unfold setNext
  refine wpAny_bind (wpAny_setState_of hS hd hf ?_)
  dsimp only
  unfold setsByText
  refine wpAny_bind (wpAny_bind (wpAny_askSetting (wpAny_pure ?_)))
  show wpAny _ _ (if w.params.followText "set-order" = true then _ else _) _ _ s
  rw [bt, if_neg Bool.false_ne_true]
  show wpAny _ _ (if (!t.plain && decide (es.size > 1)) = true then _ else _) _ _ s
  rw [if_neg (by rw [h1]; decide)]
  refine wpAny_bind ?_
  show wpAny _ _ (if (!t.led && !es.isEmpty) = true then _ else _) _ _ s
  rw [hl, if_neg (by simp)]
  refine wpAny_pure (wpAny_pure ?_)
  cases e1 : es[SetTable.below t.place slot]? with
  | none =>
    dsimp only
    refine wpAny_bind (wpAny_setField_rec hI (by simp) fun h1 e1' sb1 => ?_)
    refine stop_here (s := { s with heap := h1 }) hh fun h' k => hnone h' e1 fun b ob hb e => k b ob ?_
    rw [sb1.2 b hb]
    exact e
  | some x =>
    have lt : SetTable.below t.place slot < es.size := (Array.getElem?_eq_some_iff.mp e1).1
    have e2 : t.place[SetTable.below t.place slot]? = some (t.place[SetTable.below t.place slot]'(by omega)) := Array.getElem?_eq_getElem (by omega)
    rw [e2]
    dsimp only
    refine wpAny_bind (wpAny_setField_rec hI (by simp) fun h1 e1' sb1 => ?_)
    refine wpAny_bind (wpAny_setField_rec (s := { s with heap := h1 }) e1' (by simp) fun h2 e2' sb2 => ?_)
    exact wpAny_pure ⟨_, rfl, wpAny_pure (hsome x _ h2 e1 e2 e2' (sb1.trans sb2))⟩
theorem si_self {first : Value} {n : Nat} {Q : Value → Shared → Prop} (hI : s.heap.get? I = some (siObj first i S n ep)) (h : Q (.ref I) s) : wpAny (model P w) A (pyIter (.ref I)) Q E s := by
  refine wpAny_pyIter_slot (si_type hI) si_slot_iter (wpAny_call_entry si_slot_iter (si_type hI) si_entry_iter ?_ (si_args_iter _))
  show wpAny _ _ (ret (.ref I)) _ _ s
  exact wpAny_pure ⟨_, rfl, "set_iterator", _, si_type hI, si_slot_next.lookup, h⟩
theorem walkB (hh : A.handled = none) (bt : w.params.followText "set-order" = true) (ne1 : S ≠ I) (hd : o.data = .set es ep t) (hf : t.fits es.size = true) (hn : (pickOrder (w.params.setOrder S ep) es).size = es.size) :
    Walks P w A I [I, S] [I] es.size (fun i v => ∃ x, (pickOrder (w.params.setOrder S ep) es)[i]? = some x ∧ v = x.2) (fun i h => h.get? I = some (siObj (.int 0 0) i S es.size ep) ∧ h.get? S = some o) where
  sub := fun b hb => by simp at hb; simp [hb]
  frame := fun _ _ _ st hk => ⟨hk I (by simp) _ st.1, hk S (by simp) _ st.2⟩
  item := fun i s Q E hi st hQ => by
    have e1 : (pickOrder (w.params.setOrder S ep) es)[i]? = some ((pickOrder (w.params.setOrder S ep) es)[i]'(by omega)) := Array.getElem?_eq_getElem (by omega)
    refine siB_item bt st.1 st.2 hd hf e1 fun h' g sb => ?_
    exact hQ _ h' s.toks ⟨_, e1, rfl⟩ ⟨g, (sb.2 S ne1).trans st.2⟩ fun b ob hb e => (sb.2 b (by simpa using hb)).trans e
  done := fun s Q E st hQ => siB_done hh bt st.1 st.2 hd hf (Array.getElem?_eq_none (by omega)) fun h' k => hQ h' s.toks fun b ob hb e => k b ob (by simpa using hb) e
  self := fun _ _ _ _ st hQ => si_self st.1 hQ
theorem walkC (hh : A.handled = none) (bt : w.params.followText "set-order" = false) (ne1 : S ≠ I) (hd : o.data = .set es ep t) (hf : t.fits es.size = true) (hl : t.led = true) (h1 : (!t.plain && decide (es.size > 1)) = false) (hst : ∀ i j : Nat, t.place[i]? = some j → SetTable.below t.place (j + 1) = i + 1) :
    Walks P w A I [I, S] [I] es.size (fun i v => ∃ x, es[i]? = some x ∧ v = x.2) (fun i h => (∃ slot : Nat, h.get? I = some (siObj (.int (slot : Int) 0) i S es.size ep) ∧ SetTable.below t.place slot = i) ∧ h.get? S = some o) where
  sub := fun b hb => by simp at hb; simp [hb]
  frame := fun _ _ _ st hk => ⟨let ⟨slot, e, q⟩ := st.1; ⟨slot, hk I (by simp) _ e, q⟩, hk S (by simp) _ st.2⟩
  item := fun i s Q E hi st hQ => by
    obtain ⟨⟨slot, e, q⟩, hS⟩ := st
    have hpl : t.place.size = es.size := by
      simp only [SetTable.fits, Bool.and_eq_true, beq_iff_eq] at hf
      exact hf.1
    refine siC_next hh bt e hS hd hf hl h1 (fun x j h' g1 g2 g3 sb => ?_) fun h' g _ => ?_
    · rw [q] at g1 g2
      exact hQ _ h' s.toks ⟨x, g1, rfl⟩ ⟨⟨j + 1, g3, hst i j g2⟩, (sb.2 S ne1).trans hS⟩ fun b ob hb e => (sb.2 b (by simpa using hb)).trans e
    · rw [q, Array.getElem?_eq_getElem hi] at g
      cases g
  done := fun s Q E st hQ => by
    obtain ⟨⟨slot, e, q⟩, hS⟩ := st
    refine siC_next hh bt e hS hd hf hl h1 (fun x j h' g1 g2 g3 sb => ?_) fun h' g k => hQ h' s.toks fun b ob hb e => k b ob (by simpa using hb) e
    rw [q, Array.getElem?_eq_none (Nat.le_refl _)] at g1
    cases g1
  self := fun _ _ _ _ st hQ => let ⟨⟨_, e, _⟩, _⟩ := st; si_self e hQ
end
end DL
set_option Elab.async false
set_option linter.all false
set_option maxRecDepth 100000
set_option maxHeartbeats 4000000
namespace DL
open PySem PySem.Spec PyProof.Rows L2
theorem take_perm {α : Type} : ∀ {l : List α} {n : Nat} (h : n < l.length), (l[n] :: l.eraseIdx n).Perm l
  | x :: l, 0, h => List.Perm.refl _
  | x :: l, n + 1, h => by
    have ih := take_perm (l := l) (n := n) (by simpa using h)
    rw [List.eraseIdx_cons_succ]
    exact (List.Perm.swap _ _ _).trans (ih.cons x)
theorem pick_go {α : Type} (next : Nat → Nat) : ∀ (fuel k : Nat) (left : List α) (out : Array α), left.length = fuel → (pickOrder.go next fuel k left out).toList.Perm (out.toList ++ left)
  | 0, k, left, out, h => by
    have : left = [] := List.length_eq_zero_iff.mp h
    subst this
    simp [pickOrder.go]
  | fuel + 1, k, left, out, h => by
    have lt : next k % left.length < left.length := Nat.mod_lt _ (by omega)
    unfold pickOrder.go
    rw [List.getElem?_eq_getElem lt]
    dsimp only
    refine (pick_go next fuel (k + 1) _ _ (by rw [List.length_eraseIdx_of_lt lt]; omega)).trans ?_
    rw [Array.toList_push, List.append_assoc]
    exact List.Perm.append_left _ (take_perm lt)
theorem pick_perm {α : Type} (next : Nat → Nat) (xs : Array α) : (pickOrder next xs).toList.Perm xs.toList := by
  unfold pickOrder
  have := pick_go next xs.size 0 xs.toList #[] (by simp)
  simpa using this
section
variable {P : Program} {w : World} {A : Around} {E : Value → Shared → Prop} {s : Shared} {I S T : Addr} {o : Obj} {es : Array (Int × Value)} {ep i slot : Nat} {t : SetTable}
theorem wp_chosen {src : Source} {n : Nat} {Q : Nat → Shared → Prop} (hn : n ≠ 0) (h : ∀ i d', i < n → Q i { s with drawn := d' }) : wpAny (model P w) A (choose src n) Q E s := fun Γ p hΓ => by
  unfold choose
  rw [Sem.wp_choose]
  refine ⟨hn, ?_⟩
  rw [Sem.wp_pure]
  exact h _ _ (Nat.mod_lt _ (by omega))
theorem draw_perm {α : Type} : ∀ (n : Nat) (xs : List α) (s : Shared) (Q : List α → Shared → Prop), xs.length = n → (∀ ys d', ys.Perm xs → Q ys { s with drawn := d' }) → wpAny (model P w) A (drawOrder n xs) Q E s
  | 0, xs, s, Q, hl, h => by
    have : xs = [] := List.length_eq_zero_iff.mp hl
    subst this
    unfold drawOrder
    exact wpAny_pure (h [] s.drawn (List.Perm.refl _))
  | n + 1, [], s, Q, hl, h => by cases hl
  | n + 1, x :: xs, s, Q, hl, h => by
    unfold drawOrder
    refine wpAny_bind (wp_chosen (by simp) fun i d' hi => ?_)
    rw [List.getElem?_eq_getElem hi]
    dsimp only
    refine wpAny_bind (draw_perm n ((x :: xs).eraseIdx i) _ _ (by rw [List.length_eraseIdx_of_lt hi]; simp at hl ⊢; omega) fun ys d'' hp => ?_)
    refine wpAny_pure (h _ d'' ?_)
    exact (List.Perm.cons _ hp).trans (take_perm hi)
theorem set_iter {Q : Value → Shared → Prop} (hS : s.heap.get? S = some o) (hx : o.ExactSet) (hd : o.data = .set es ep t) (hf : t.fits es.size = true) (hz : es.size ≤ 60)
    (hA : w.params.followText "set-order" = false → t.plain = false → 1 < es.size → ∀ (ys : List Nat) (d' : Drawn), ys.Perm (List.range es.size) → Q (.ref (s.heap.objs.size + 1)) { s with drawn := d', heap := (s.heap.push { cls := .type "tuple", data := .seq (ys.map fun q : Nat => Value.int q 0).toArray }).push (siObj (.ref s.heap.objs.size) 0 S es.size ep) })
    (hB : w.params.followText "set-order" = true ∨ t.plain = true ∨ es.size ≤ 1 → Q (.ref s.heap.objs.size) { s with heap := s.heap.push (siObj (.int 0 0) 0 S es.size ep) }) : wpAny (model P w) A (pyIter (.ref S)) Q E s := by
  have hT : s.TypeIs (.ref S) "set" := ⟨o, hS, hx.1⟩
  refine wpAny_pyIter_slot hT PySem.F.slot_set_iter (wpAny_call_entry PySem.F.slot_set_iter hT set_entry_iter ?_ (PySem.F.args_set_iter_1 _))
  unfold Builtin.«frozenset.__iter__» Builtin.Frozenset.slot0 slotArgs
  simp only [List.isEmpty_nil, Bool.not_true, Bool.false_eq_true, ↓reduceIte, bind_assoc, List.length_nil, bne_self_eq_false]
  unfold Builtin.Frozenset.addrOf Builtin.Frozenset.sizeOf
  refine wpAny_bind (wpAny_pure ?_)
  try dsimp only
  refine wpAny_bind (wpAny_pure ?_)
  refine wpAny_bind (wpAny_bind (wpAny_setEntries_of hS hd hf (wpAny_pure ?_)))
  refine wpAny_bind ?_
  unfold setDrawn setsByText
  refine wpAny_bind (wpAny_setState_of hS hd hf ?_)
  dsimp only
  refine wpAny_bind (wpAny_bind (wpAny_askSetting (wpAny_pure (wpAny_pure ?_))))
  show wpAny _ _ (if (!w.params.followText "set-order" && (!t.plain && decide (es.size > 1))) = true then _ else _) _ _ s
  by_cases c : (!w.params.followText "set-order" && (!t.plain && decide (es.size > 1))) = true
  · rw [if_pos c]
    simp only [Bool.and_eq_true, Bool.not_eq_true', decide_eq_true_eq] at c
    refine wpAny_bind (draw_perm _ _ _ _ (by simp) fun ys d' hp => ?_)
    have yl : ys.length = es.size := by rw [hp.length_eq, List.length_range]
    refine wpAny_bind ?_
    unfold newTuple
    refine wpAny_newObj_type ?_ ?_
    · refine wpAny_bind (wpAny_setEpoch_of (s := { s with drawn := d', heap := _ }) (Heap.get?_push_of_some _ hS) hd hf ?_)
      refine wpAny_bind ?_
      unfold newFields
      refine wpAny_newObj_type (wpAny_pure ⟨_, rfl, "set_iterator", _, ⟨_, Heap.get?_push_size _ rfl, rfl⟩, si_slot_next.lookup, ?_⟩) ?_
      · have := hA c.1 c.2.1 c.2.2 ys d' hp
        rw [show s.heap.objs.size + 1 = (s.heap.push { cls := .type "tuple", data := .seq (ys.map fun q : Nat => Value.int q 0).toArray }).objs.size by rw [Heap.size_push]] at this
        exact this
      · size_fits
    · show ((ys.map fun i : Nat => rawInt i).toArray).size ≤ sizeLine
      rw [List.size_toArray, List.length_map, yl, sizeLine_eq]
      omega
  · rw [if_neg c]
    refine wpAny_bind (wpAny_pure (wpAny_bind (wpAny_setEpoch_of hS hd hf (wpAny_bind ?_))))
    unfold newFields
    refine wpAny_newObj_type (wpAny_pure ⟨_, rfl, "set_iterator", _, ⟨_, Heap.get?_push_size _ rfl, rfl⟩, si_slot_next.lookup, ?_⟩) ?_
    · refine hB ?_
      cases b1 : w.params.followText "set-order" with
      | true => exact .inl rfl
      | false =>
        cases b2 : t.plain with
        | true => exact .inr (.inl rfl)
        | false =>
          rw [b1, b2] at c
          simp at c
          exact .inr (.inr c)
    · size_fits
end
end DL
set_option Elab.async false
set_option linter.all false
set_option maxRecDepth 100000
set_option maxHeartbeats 4000000
namespace DL
open PySem PySem.Spec PyProof.Rows L2
section
variable {P : Program} {w : World} {A : Around} {E : Value → Shared → Prop} {s : Shared} {I S T : Addr} {o : Obj} {es : Array (Int × Value)} {ep i slot : Nat} {t : SetTable}
theorem hint_set {Q : Bool → Shared → Prop} (hT : s.TypeIs (.ref S) "set") (h : Q false s) : wpAny (model P w) A (Builtin.List.listLengthHint (.ref S)) Q E s := by
  unfold Builtin.List.listLengthHint
  refine wpAny_bind (wpAny_specialOf hT PySem.F.slot_set_len.lookup ?_)
  dsimp only
  rw [show splitId "set.__len__" = some ("set", "__len__") by decide +kernel]
  dsimp only
  refine wpAny_bind (wpAny_isInstance (b := true) hT sub_set_self ?_)
  rw [if_neg (by simp), if_pos (by decide +kernel)]
  refine wpAny_bind (wpAny_typeOf hT ?_)
  exact wpAny_pure h
theorem acc_eq {Pv : Nat → Value → Prop} {acc : Array Value} {n : Nat} {L : List Value} (h : ItemsOf Pv acc n) (hL : L.length = n) (hP : ∀ j v, Pv j v → L[j]? = some v) : acc.toList = L := by
  refine List.ext_getElem? fun j => ?_
  rw [Array.getElem?_toList]
  cases e : acc[j]? with
  | some v => exact (hP j v (h.2 j v e)).symm
  | none =>
    have := Array.getElem?_eq_none_iff.mp e
    rw [List.getElem?_eq_none (by rw [hL, ← h.1]; exact this)]
end
end DL
set_option Elab.async false
set_option linter.all false
set_option maxRecDepth 100000
set_option maxHeartbeats 4000000
namespace DL
open PySem PySem.Spec PyProof.Rows L2
section
variable {P : Program} {w : World} {A : Around} {E : Value → Shared → Prop} {s : Shared} {S : Addr} {zs : List Str}
theorem TSet.type {h : Heap} (T : TSet P w h S zs) : ∃ o, h.get? S = some o ∧ o.cls = .type "set" := let ⟨o, _, _, _, ho, hx, _⟩ := T; ⟨o, ho, hx.1⟩
end
end DL
set_option Elab.async false
set_option linter.all false
set_option maxRecDepth 100000
set_option maxHeartbeats 4000000
namespace DL
open PySem PySem.Spec PyProof.Rows L2
theorem boot_set_ : bootBuiltins "set" = some (.type "set") := by decide +kernel
theorem inv_like {X : Cx} {pins : List (Addr × Obj)} {σ : L2.St} {H : Hp} {s s' : Shared} (I : Inv X pins σ H s) (e1 : s'.heap = s.heap) (e2 : s'.gens = s.gens) (e3 : s'.os = s.os) : Inv X pins σ H s' := by
  obtain ⟨h, g, d, tk, o⟩ := s
  obtain ⟨h', g', d', tk', o'⟩ := s'
  dsimp only at e1 e2 e3
  subst e1; subst e2; subst e3
  exact ⟨I.ok, I.os, I.bare, I.base, I.loc, I.cell, I.free, I.freeC, I.pin, I.hok, I.len⟩
section
variable {X : Cx} {e : Expr} {f : DE} {pos p p2 pos2 : Pos}
end
end DL
set_option Elab.async false
set_option linter.all false
set_option maxRecDepth 100000
set_option maxHeartbeats 4000000
namespace DL
open PySem PySem.Spec PyProof.Rows L2
section
variable {X : Cx} {a : Expr} {tg : Expr} {f : DE}
end
end DL
set_option Elab.async false
set_option linter.all false
set_option maxRecDepth 100000
set_option maxHeartbeats 4000000
namespace DL
open PySem PySem.Spec PyProof.Rows L2
section
variable {X : Cx}
end
end DL
set_option Elab.async false
set_option linter.all false
set_option maxRecDepth 100000
set_option maxHeartbeats 4000000
namespace DL
open PySem PySem.Spec PyProof.Rows L2
section
variable {X : Cx}
end
end DL
set_option Elab.async false
set_option linter.all false
set_option maxRecDepth 100000
set_option maxHeartbeats 4000000
namespace DL
open PySem PySem.Spec PyProof.Rows L2
section
variable {K : PySem.W.Frag} {Z : Addr → Prop} {m : Mu} {H : Hp}
theorem RD.rw {x : D} {v : V} (h : RD K Z m H x v) : RW K Z m H x v := by
  cases x with
  | dat p => exact h
  | cel a => exact h.1
theorem RW.rd {x : D} {v : V} (h : RW K Z m H x v) (hc : ∀ a, x = .cel a → (m a).isSome = true) : RD K Z m H x v := by
  cases x with
  | dat p => exact h
  | cel a => exact ⟨h, hc a rfl⟩
theorem RKW.length {κ : Type} : ∀ {fs : List (κ × D)} {vs : List (κ × V)}, RKW K Z m H fs vs → vs.length = fs.length
  | [], _, h => by cases (show _ = [] from h); rfl
  | (_, _) :: _, _, ⟨v, r, h1, _, h3⟩ => by subst h1; rw [List.length_cons, List.length_cons, h3.length]
theorem RKW.look {f : Str} : ∀ {fs : List (Str × D)} {vs : List (Str × V)}, RKW K Z m H fs vs → (∀ x, fs.lookup f = some x → ∃ v, vs.lookup f = some v ∧ RW K Z m H x v) ∧ (fs.lookup f = none → vs.lookup f = none)
  | [], _, h => by cases (show _ = [] from h); exact ⟨fun x e => (nomatch e), fun _ => rfl⟩
  | (g, y) :: fs, _, ⟨v, r, h1, h2, h3⟩ => by
    subst h1
    obtain ⟨i1, i2⟩ := h3.look (f := f)
    by_cases e : f = g
    · have b : (f == g) = true := beq_iff_eq.mpr e
      simp only [List.lookup, b]
      exact ⟨fun x q => by cases q; exact ⟨v, rfl, h2⟩, fun q => (nomatch q)⟩
    · have b : (f == g) = false := beq_eq_false_iff_ne.mpr e
      simp only [List.lookup, b]
      exact ⟨i1, i2⟩
theorem Ok.o {a : Addr} {N : Str} {fs : List (Str × D)} (ok : Ok K Z m H) (h : m a = some (.o N fs)) : ∃ C dx vs, H a = some (.ins C dx vs) ∧ PySem.W.nsIn K mainGlobals N = some (some (.ref C)) ∧ RKW K Z m H fs vs := by
  obtain ⟨o, h1, h2⟩ := ok.g a _ h
  cases o <;> first | exact ⟨_, _, _, h1, h2⟩ | exact h2.elim
end
section
variable {X : Cx} {o e : Expr} {es : List Expr} {fo fe : DE} {ga : DA} {pos pos' tpos apos p : Pos} {N f : Str} {C : Addr}
end
end DL
set_option Elab.async false
set_option linter.all false
set_option maxRecDepth 100000
set_option maxHeartbeats 4000000
namespace DL
open PySem PySem.Spec PyProof.Rows L2
section
variable {κ β : Type} [DecidableEq κ]
def valG (kvs : List (κ × β)) (k : κ) : Option β := (kvs.find? fun kv => decide (kv.1 = k)).map (·.2)
def putG (kvs : List (κ × β)) (k : κ) (v : β) : List (κ × β) :=
  if (kvs.any fun kv => decide (kv.1 = k)) = true then kvs.map (fun kv => if kv.1 = k then (kv.1, v) else kv) else kvs ++ [(k, v)]
theorem valG_pos {p : κ × β} {r : List (κ × β)} {k : κ} (e : p.1 = k) : valG (p :: r) k = some p.2 := by simp [valG, List.find?_cons, e]
theorem valG_neg {p : κ × β} {r : List (κ × β)} {k : κ} (e : ¬ p.1 = k) : valG (p :: r) k = valG r k := by simp [valG, List.find?_cons, e]
theorem valG_any (k : κ) : ∀ kvs : List (κ × β), (kvs.any fun kv => decide (kv.1 = k)) = (valG kvs k).isSome
  | [] => rfl
  | p :: r => by
    rw [List.any_cons]
    by_cases e : p.1 = k
    · simp only [valG_pos e, decide_eq_true e, Bool.true_or, Option.isSome_some]
    · rw [valG_neg e, decide_eq_false e, Bool.false_or]; exact valG_any k r
theorem valG_map (k j : κ) (y : β) : ∀ kvs : List (κ × β), valG (kvs.map fun kv => if kv.1 = k then (kv.1, y) else kv) j = (valG kvs j).map fun x => if j = k then y else x
  | [] => rfl
  | p :: r => by
    have ih := valG_map k j y r
    rw [List.map_cons]
    by_cases h : p.1 = k
    · rw [if_pos h]
      by_cases e : p.1 = j
      · rw [valG_pos (p := (p.1, y)) e, valG_pos e, Option.map_some, if_pos (e.symm.trans h)]
      · rw [valG_neg (p := (p.1, y)) e, valG_neg e, ih]
    · rw [if_neg h]
      by_cases e : p.1 = j
      · rw [valG_pos (p := p) e, valG_pos e, Option.map_some, if_neg (fun z => h (e.trans z))]
      · rw [valG_neg (p := p) e, valG_neg e, ih]
theorem valG_snoc (k j : κ) (y : β) : ∀ kvs : List (κ × β), valG kvs k = none → valG (kvs ++ [(k, y)]) j = if j = k then some y else valG kvs j
  | [], _ => by
    by_cases e : k = j
    · rw [if_pos e.symm]; exact valG_pos (p := (k, y)) e
    · rw [if_neg (fun z => e z.symm)]; exact valG_neg (p := (k, y)) e
  | p :: r, hn => by
    rw [List.cons_append]
    have hk : ¬ p.1 = k := fun z => by rw [valG_pos z] at hn; cases hn
    rw [valG_neg hk] at hn
    have ih := valG_snoc k j y r hn
    by_cases e : p.1 = j
    · rw [valG_pos e, valG_pos e, if_neg (fun z => hk (e.trans z))]
    · rw [valG_neg e, valG_neg e, ih]
theorem valG_put (kvs : List (κ × β)) (k j : κ) (y : β) : valG (putG kvs k y) j = if j = k then some y else valG kvs j := by
  unfold putG
  by_cases a : (kvs.any fun kv => decide (kv.1 = k)) = true
  · rw [if_pos a, valG_map]
    rw [valG_any] at a
    by_cases e : j = k
    · obtain ⟨x, hx⟩ := Option.isSome_iff_exists.mp a
      rw [if_pos e, e, hx, Option.map_some, if_pos rfl]
    · rw [if_neg e]
      cases valG kvs j with
      | none => rfl
      | some x => rw [Option.map_some, if_neg e]
  · rw [if_neg a]
    refine valG_snoc k j y kvs ?_
    rw [valG_any] at a
    cases q : valG kvs k with
    | none => rfl
    | some x => rw [q] at a; exact (a rfl).elim
theorem length_putG (kvs : List (κ × β)) (k : κ) (v : β) : (putG kvs k v).length ≤ kvs.length + 1 := by
  unfold putG
  split
  · rw [List.length_map]; omega
  · rw [List.length_append, List.length_cons, List.length_nil]; omega
end
section
variable {κ : Type} [DecidableEq κ] {K : PySem.W.Frag} {Z : Addr → Prop} {m : Mu} {H : Hp}
theorem RKW.val {k : κ} : ∀ {kvs : List (κ × D)} {vs : List (κ × V)}, RKW K Z m H kvs vs → (∀ x, valG kvs k = some x → ∃ v, valV vs k = some v ∧ RW K Z m H x v) ∧ (valG kvs k).isSome = (valV vs k).isSome
  | [], _, h => by cases (show _ = [] from h); exact ⟨fun x e => (nomatch e), rfl⟩
  | (g, y) :: fs, _, ⟨v, r, h1, h2, h3⟩ => by
    subst h1
    obtain ⟨i1, i2⟩ := h3.val (k := k)
    by_cases e : g = k
    · rw [valG_pos (p := (g, y)) e, valV_pos (p := (g, v)) e]
      exact ⟨fun x q => by cases q; exact ⟨v, rfl, h2⟩, rfl⟩
    · rw [valG_neg (p := (g, y)) e, valV_neg (p := (g, v)) e]
      exact ⟨i1, i2⟩
theorem RKW.any {k : κ} : ∀ {kvs : List (κ × D)} {vs : List (κ × V)}, RKW K Z m H kvs vs → (vs.any fun kv => decide (kv.1 = k)) = (kvs.any fun kv => decide (kv.1 = k))
  | [], _, h => by cases (show _ = [] from h); rfl
  | (g, y) :: fs, _, ⟨v, r, h1, h2, h3⟩ => by subst h1; rw [List.any_cons, List.any_cons, h3.any]
theorem RKW.repl {k : κ} {x : D} {v : V} (hx : RW K Z m H x v) : ∀ {kvs : List (κ × D)} {vs : List (κ × V)}, RKW K Z m H kvs vs → RKW K Z m H (kvs.map fun kv => if kv.1 = k then (kv.1, x) else kv) (vs.map fun kv => if kv.1 = k then (kv.1, v) else kv)
  | [], _, h => by cases (show _ = [] from h); rfl
  | (g, y) :: fs, _, ⟨w, r, h1, h2, h3⟩ => by
    subst h1
    rw [List.map_cons, List.map_cons]
    by_cases e : g = k
    · rw [if_pos (show ((g, y) : κ × D).1 = k from e), if_pos (show ((g, w) : κ × V).1 = k from e)]; exact ⟨v, _, rfl, hx, h3.repl hx⟩
    · rw [if_neg (show ¬ ((g, y) : κ × D).1 = k from e), if_neg (show ¬ ((g, w) : κ × V).1 = k from e)]; exact ⟨w, _, rfl, h2, h3.repl hx⟩
theorem RKW.snoc {k : κ} {x : D} {v : V} (hx : RW K Z m H x v) : ∀ {kvs : List (κ × D)} {vs : List (κ × V)}, RKW K Z m H kvs vs → RKW K Z m H (kvs ++ [(k, x)]) (vs ++ [(k, v)])
  | [], _, h => by cases (show _ = [] from h); exact ⟨v, [], rfl, hx, rfl⟩
  | (g, y) :: fs, _, ⟨w, r, h1, h2, h3⟩ => by subst h1; exact ⟨w, _, rfl, h2, h3.snoc hx⟩
theorem RKW.put {k : κ} {x : D} {v : V} {kvs : List (κ × D)} {vs : List (κ × V)} (h : RKW K Z m H kvs vs) (hx : RW K Z m H x v) : RKW K Z m H (putG kvs k x) (putK vs k v) := by
  unfold putG putK
  rw [h.any]
  split
  · exact h.repl hx
  · exact h.snoc hx
theorem Ok.n {a : Addr} {kvs : List (List PyData × D)} (ok : Ok K Z m H) (h : m a = some (.n kvs)) : ∃ vs, H a = some (.dN K vs) ∧ RKW K Z m H kvs vs := by
  obtain ⟨o, h1, h2⟩ := ok.g a _ h
  cases o <;> first | (obtain ⟨rfl, h2⟩ := h2; exact ⟨_, h1, h2⟩) | exact h2.elim
mutual
theorem RP.nkv : ∀ (p : PyData) (v : V), L2.isK p = true → RP K Z m H p v → NKV K H p v
  | .int _, _, _, h => by simp only [RP] at h; simp only [NKV]; exact h
  | .str _, _, _, h => by simp only [RP] at h; simp only [NKV]; exact h
  | .tuple xs, _, hk, h => by
    simp only [RP] at h
    simp only [NKV]
    obtain ⟨a, vs, e, h1, h2⟩ := h
    exact ⟨a, vs, e, h1, RPs.nkv xs vs hk h2⟩
  | .none, _, h, _ | .bool _, _, h, _ | .list _, _, h, _ | .dict _, _, h, _ => by simp [L2.isK] at h
theorem RPs.nkv : ∀ (ps : List PyData) (vs : List V), L2.isKs ps = true → RPs K Z m H ps vs → NKVs K H ps vs
  | [], _, _, h => by simp only [RPs] at h; simp only [NKVs]; exact h
  | p :: ps, _, hk, h => by
    simp only [L2.isKs, Bool.and_eq_true] at hk
    simp only [RPs] at h
    simp only [NKVs]
    obtain ⟨v, r, e, h1, h2⟩ := h
    exact ⟨v, r, e, RP.nkv p v hk.1 h1, RPs.nkv ps r hk.2 h2⟩
end
end
section
variable {X : Cx} {pins : List (Addr × Obj)} {σ : L2.St} {H : Hp} {s : Shared}
mutual
theorem NKV.reads (I : Inv X pins σ H s) : ∀ (p : PyData) (v : V) (u : Value), NKV X.K H p v → RelV v u → ∃ as, Reads s.heap u p as
  | .int i, v, u, h, r => by simp only [NKV] at h; subst h; obtain ⟨t, rfl⟩ := r; exact ⟨_, .int i t⟩
  | .str x, v, u, h, r => by simp only [NKV] at h; subst h; obtain ⟨t, rfl⟩ := r; exact ⟨_, .str x t⟩
  | .tuple xs, v, u, h, r => by
    simp only [NKV] at h
    obtain ⟨a, vs, rfl, h2, h3⟩ := h
    cases r
    obtain ⟨its, rv, ⟨o, e, c, n, d⟩, _⟩ := I.tuple h2
    obtain ⟨as, q⟩ := NKVs.reads I xs vs its h3 rv
    exact ⟨_, .tuple e c d (by simpa using q)⟩
  | .none, _, _, h, _ | .bool _, _, _, h, _ | .list _, _, _, h, _ | .dict _, _, _, h, _ => by simp only [NKV] at h
theorem NKVs.reads (I : Inv X pins σ H s) : ∀ (xs : List PyData) (vs : List V) (us : List Value), NKVs X.K H xs vs → Vals vs us → ∃ as, ReadsAll s.heap us xs as
  | [], vs, us, h, r => by simp only [NKVs] at h; subst h; cases r; exact ⟨_, .nil⟩
  | x :: xs, vs, us, h, r => by
    simp only [NKVs] at h
    obtain ⟨v, w, rfl, h1, h2⟩ := h
    cases r with
    | cons r1 r2 =>
      obtain ⟨as, q1⟩ := NKV.reads I x v _ h1 r1
      obtain ⟨bs, q2⟩ := NKVs.reads I xs w _ h2 r2
      exact ⟨_, .cons q1 q2⟩
end
abbrev KN (K : PySem.W.Frag) (H : Hp) : List (List PyData × V) → List (List PyData × Addr × Value) → Prop :=
  Paired fun p q => p.1 = q.1 ∧ (L2.isKs p.1 = true ∧ PyData.depthAll p.1 ≤ 6 ∧ NKV K H (.tuple p.1) (.ref q.2.1)) ∧ RelV p.2 q.2.2
theorem KN.val {K : PySem.W.Frag} {kvs : List (List PyData × V)} {xs : List (List PyData × Addr × Value)} (r : KN K H kvs xs) (k : List PyData) : RelO (valV kvs k) ((atKey xs k).map (·.2)) := by
  induction r with
  | nil => exact True.intro
  | @cons p q ps qs h t ih =>
    obtain ⟨h1, _, h2⟩ := h
    by_cases e : p.1 = k
    · have e' : q.1 = k := h1.symm.trans e
      have b : atKey (q :: qs) k = some q.2 := by simp [atKey, List.find?_cons, e']
      rw [valV_pos e, b]; exact h2
    · have e' : ¬ q.1 = k := fun z => e (h1.trans z)
      have b : atKey (q :: qs) k = atKey qs k := by simp [atKey, List.find?_cons, e']
      rw [valV_neg e, b]; exact ih
theorem KN.repl {K : PySem.W.Frag} {kvs : List (List PyData × V)} {xs : List (List PyData × Addr × Value)} (r : KN K H kvs xs) (k : List PyData) {y : V} {u : Value} (ry : RelV y u) :
    KN K H (kvs.map fun kv => if kv.1 = k then (kv.1, y) else kv) (xs.map (putAt k u)) := by
  induction r with
  | nil => exact .nil
  | @cons p q ps qs h t ih =>
    rw [List.map_cons, List.map_cons]
    refine .cons ?_ ih
    obtain ⟨h1, h2, h3⟩ := h
    unfold putAt
    by_cases e : p.1 = k
    · rw [if_pos e, if_pos (h1.symm.trans e)]; exact ⟨h1, h2, ry⟩
    · rw [if_neg e, if_neg (fun z => e (h1.trans z))]; exact ⟨h1, h2, h3⟩
theorem KN.put {K : PySem.W.Frag} {kvs : List (List PyData × V)} {xs : List (List PyData × Addr × Value)} (r : KN K H kvs xs) (k : List PyData) {b : Addr} {y : V} {u : Value} (hb : L2.isKs k = true ∧ PyData.depthAll k ≤ 6 ∧ NKV K H (.tuple k) (.ref b)) (ry : RelV y u) :
    KN K H (putK kvs k y) (storedH xs k b u) := by
  have e : (kvs.any fun kv => decide (kv.1 = k)) = (atKey xs k).isSome := by
    rw [valV_any, (r.val k).isSome_eq, Option.isSome_map]
  unfold putK storedH
  rw [e]
  by_cases q : (atKey xs k).isSome = true
  · rw [if_pos q, if_pos q]; exact r.repl k ry
  · rw [if_neg q, if_neg q]; exact Paired.snoc r ⟨rfl, hb, ry⟩
theorem nkey_of (I : Inv X pins σ H s) {k : List PyData} {b : Addr} (h : L2.isKs k = true ∧ PyData.depthAll k ≤ 6 ∧ NKV X.K H (.tuple k) (.ref b)) : (nestKind X.prog X.w).is s.heap k b :=
  ⟨h.1, h.2.1, NKV.reads I _ _ _ h.2.2 rfl⟩
theorem dn_of {a : Addr} {kvs : List (List PyData × V)} (I : Inv X pins σ H s) (e : H a = some (.dN X.K kvs)) : kvs.length ≤ sizeLine ∧ (a == sysModules) = false ∧ ∃ xs, KN X.K H kvs xs ∧ s.heap.DictOfH (nestKind X.prog X.w) a xs := by
  obtain ⟨z, y, xs, r, o, es, ep, h1, h2, h3, h4, h5⟩ := (show ObjOk X.prog X.w H s.heap a (.dN X.K kvs) from I.hok a _ e)
  refine ⟨z, y, xs, r, o, es, ep, h1, h2, h3, h4, fun x hx => ?_, h5⟩
  have all : ∀ {l : List (List PyData × V)} {m : List (List PyData × Addr × Value)}, KN X.K H l m → ∀ x ∈ m, (nestKind X.prog X.w).is s.heap x.1 x.2.1 := by
    intro l m q
    induction q with
    | nil => intro x hx; exact nomatch hx
    | @cons p q ps qs hq t ih =>
      intro x hx
      rcases List.mem_cons.mp hx with e | hx
      · subst e
        exact nkey_of I (by rw [← hq.1]; exact hq.2.1)
      · exact ih x hx
  exact all r x hx
theorem nroom {A : Around} (hu : A.units + 100 < cLine) : (nestKind X.prog X.w).room A.in1 := by
  show A.in1.units + 20 < cLine
  rw [Around.in1_units]; omega
end
section
variable {X : Cx} {o i e : Expr} {fo fi f : DE} {pos tpos : Pos}
@[simp] def keyN : D → Option (List PyData)
  | .dat (.tuple ks) => if L2.isKs ks = true ∧ PyData.depthAll ks ≤ 6 then some ks else none
  | _ => none
theorem keyN_of {y : D} {ks : List PyData} (h : keyN y = some ks) : y = .dat (.tuple ks) ∧ L2.isKs ks = true ∧ PyData.depthAll ks ≤ 6 := by
  unfold keyN at h
  split at h
  · split at h
    · rename_i q; cases h; exact ⟨rfl, q⟩
    · cases h
  · cases h
theorem dn_empty {P : Program} {w : World} {H : Hp} {K : PySem.W.Frag} (h : Heap) (hb : sysModules < h.objs.size) : ObjOk P w H (h.push { cls := .type "dict", data := .dict #[] }) h.objs.size (.dN K []) :=
  ⟨Nat.zero_le _, by rw [beq_eq_false_iff_ne]; exact (Nat.ne_of_lt hb).symm, [], .nil, _, _, _, Heap.get?_push_size _ rfl, ⟨rfl, rfl, rfl⟩, rfl, rfl, List.nodup_nil⟩
@[simp] def dNPut (fo fi f : DE) : DS := fun E d m => f d m fun x m1 => fo d m1 fun o m2 => fi d m2 fun y m3 => ∃ c ks kvs, o = .cel c ∧ keyN y = some ks ∧ m3 c = some (.n kvs) ∧ kvs.length < sizeLine ∧ E.nx d (updM m3 c (.n (putG kvs ks x)))
theorem ls_nput (hu : X.A.units + 100 < cLine) (he : PE X e (LE X.K f)) (ho : PE X o (LE X.K fo)) (hi : PE X i (LE X.K fi)) (hs : swapsWith e (some (.Subscript o i tpos)) pos.line X.env = pure false := by rfl) :
    PS X (.Assign [.Subscript o i tpos] e pos) (LS X.K (dNPut fo fi f)) := by
  intro pins s σ H D I h
  obtain ⟨Z, d, m, R, ok, rs, h, k, _⟩ := h
  refine wpAny_Assign_Subscript (thn (he pins s σ H (fun v H1 => ∃ (x : DL.D) (m1 : Mu), RD X.K Z m1 H1 x v ∧ (fo d m1 fun o m2 => fi d m2 fun y m3 => ∃ c ks kvs, o = .cel c ∧ keyN y = some ks ∧ m3 c = some (.n kvs) ∧ kvs.length < sizeLine ∧ R.nx d (updM m3 c (.n (putG kvs ks x)))) ∧ Ext X.K Z m H m1 H1 ∧ Ok X.K Z m1 H1) I
    ⟨Z, d, m, _, ok, rs, h, fun x m1 v H1 q e1 ok1 rd => ⟨x, m1, rd, q, e1, ok1⟩⟩) fun r s1 ⟨v, H1, I1, rv, x, m1, rx, q, e1, ok1⟩ => ?_) hs
  refine thn (ho pins s1 σ H1 (fun w H2 => ∃ (ox : DL.D) (m2 : Mu), RD X.K Z m2 H2 ox w ∧ (fi d m2 fun y m3 => ∃ c ks kvs, ox = .cel c ∧ keyN y = some ks ∧ m3 c = some (.n kvs) ∧ kvs.length < sizeLine ∧ R.nx d (updM m3 c (.n (putG kvs ks x)))) ∧ Ext X.K Z m1 H1 m2 H2 ∧ Ok X.K Z m2 H2) I1
    ⟨Z, d, m1, _, ok1, rs.ext e1, q, fun o m2 w H2 q2 e2 ok2 r2 => ⟨o, m2, r2, q2, e2, ok2⟩⟩) fun u s2 ⟨w, H2, I2, rw2, ox, m2, ro, q2, e2, ok2⟩ => ?_
  refine thn (hi pins s2 σ H2 (fun z H3 => ∃ (y : DL.D) (m3 : Mu), RD X.K Z m3 H3 y z ∧ (∃ c ks kvs, ox = .cel c ∧ keyN y = some ks ∧ m3 c = some (.n kvs) ∧ kvs.length < sizeLine ∧ R.nx d (updM m3 c (.n (putG kvs ks x)))) ∧ Ext X.K Z m2 H2 m3 H3 ∧ Ok X.K Z m3 H3) I2
    ⟨Z, d, m2, _, ok2, (rs.ext e1).ext e2, q2, fun y m3 z H3 q3 e3 ok3 r3 => ⟨y, m3, r3, q3, e3, ok3⟩⟩) fun iv s3 ⟨z, H3, I3, rz, y, m3, ry, ⟨c, ks, kvs, eo, ey, hm, hl, q3⟩, e3, ok3⟩ => ?_
  subst eo
  obtain ⟨rfl, hk⟩ := keyN_of ey
  obtain ⟨rfl, _⟩ := ro
  obtain rfl : u = Value.ref c := rw2
  have r3 := RP.nkv (.tuple ks) z hk.1 ry
  have r4 := r3
  simp only [NKV] at r4
  obtain ⟨b, vs, rfl, _⟩ := r4
  obtain rfl : iv = Value.ref b := rz
  obtain ⟨ws, g1, g2⟩ := ok3.n hm
  obtain ⟨z, hd, xs, rel, dd⟩ := dn_of I3 g1
  have hz : xs.length ≤ sizeLine := by rw [← Paired.length rel]; exact z
  have hl2 : (putK ws ks v).length ≤ sizeLine := by have := length_putK ws ks v; rw [g2.length] at this; omega
  refine wpAny_setItem_heap (hsz := hz) (nroom hu) (nkey_of I3 ⟨hk.1, hk.2, r3⟩) dd fun h' dd' hs' => ?_
  obtain ⟨q, es, ep, hq, h2, h3, h4, _, h5⟩ := dd'
  have ht : ∀ b' xs', H3 b' = some (.tup xs') → upd H3 c (.dN X.K (putK ws ks v)) b' = some (.tup xs') := fun b' xs' e => by rw [upd_ne (ne_of e g1 (fun z => nomatch z))]; exact e
  have hf : ∀ b' ob u', H3 b' = some (.frz ob u') → upd H3 c (.dN X.K (putK ws ks v)) b' = some (.frz ob u') := fun b' ob u' e => by rw [upd_ne (ne_of e g1 (fun z => nomatch z))]; exact e
  refine ⟨σ, upd H3 c (.dN X.K (putK ws ks v)), d_write I3 (by rw [g1]; exact True.intro) hs' ⟨q, hq⟩ ⟨hl2, hd, _, Paired.mapP (rel.put ks ⟨hk.1, hk.2, r3⟩ rv) (fun p q z => ⟨z.1, ⟨z.2.1.1, z.2.1.2.1, NKV.stay ht hf _ _ z.2.1.2.2⟩, z.2.2⟩), q, es, ep, hq, h2, h3, h4, h5⟩, ?_⟩
  have e4 : Ext X.K Z m3 H3 (updM m3 c (.n (putG kvs ks x))) (upd H3 c (.dN X.K (putK ws ks v))) := Ext.put ok3 hm g1
  exact k d _ σ _ q3 (e1.trans (e2.trans (e3.trans e4))) (ok3.put hm g1 ⟨rfl, g2.put ((rx.ext (e2.trans e3)).rw)⟩) ((rs.ext e1).ext (e2.trans (e3.trans e4)))
end
end DL
set_option Elab.async false
set_option linter.all false
set_option maxRecDepth 100000
set_option maxHeartbeats 4000000
namespace DL
open PySem PySem.Spec PyProof.Rows L2
section
variable {X : Cx} {o e : Expr} {f g : DE} {pos : Pos}
end
section
variable {X : Cx} {o e : Expr} {f g : DE} {pos : Pos}
end
end DL
set_option Elab.async false
set_option linter.all false
set_option maxRecDepth 100000
set_option maxHeartbeats 4000000
namespace DL
open PySem PySem.Spec PyProof.Rows L2
structure CompE (e tg iter : Expr) (ifs : List Expr) (emit : Addr → Env → Sem Unit) : Prop where
  kind : (∃ elt gs sc p, e = .SetComp elt gs sc p) ∨ ∃ k v gs sc p, e = .DictComp k v gs sc p
  cl : clausesOf e = [⟨tg, iter, ifs, 0⟩]
  turn : ∀ it D env, compTurn e 0 it (.ref D) env = (do
      standAt iter.pos
      match ← pyNext it with
      | none => pure (.done .next)
      | some v =>
        letOwnedTupleGo tg it v
        assign tg env v
        let mut ok := true
        for c in ifs do
          if ok then ok ← isTrue c env (eval c env)
        if ok then emit D env
        again (.compLoop e 0 it (.ref D) env))
section
variable {prog : Program} {w : World} {A : Around} {R : Result → Shared → Prop} {s : Shared} {e tg iter : Expr} {ifs : List Expr} {emit : Addr → Env → Sem Unit}
theorem comp_loopG (ce : CompE e tg iter ifs emit) {it : Value} {D : Addr} {env : Env} (I : Nat → Shared → Prop)
    (turn : ∀ n s, I n s → wpAny (model prog w) A (pyNext it) (fun r s₁ => match r with
      | none => R (.ok .next) s₁
      | some v => wpAny (model prog w) A (letOwnedTupleGo tg it v) (fun _ s₀ => wpAny (model prog w) A (assign tg env v) (fun _ s₂ =>
          wpAny (model prog w) A (forIn ifs true fun c r => if r = true then do let ok ← isTrue c env (eval c env); pure (ForInStep.yield ok) else pure (ForInStep.yield r)) (fun ok s₃ =>
            if ok = true then wpAny (model prog w) A (emit D env) (fun _ s₅ => ∃ m, m < n ∧ I m s₅) (fun _ _ => False) s₃
            else ∃ m, m < n ∧ I m s₃) (fun _ _ => False) s₂) (fun _ _ => False) s₀) (fun _ _ => False) s₁) (fun _ _ => False) s)
    (n : Nat) (h : I n s) :
    codeAny (model prog w) A (.compLoop e 0 it (.ref D) env) R s := by
  have ff : ∀ {E : Value → Shared → Prop} (x : Value) (s : Shared), False → E x s := fun _ _ z => z.elim
  suffices start : ∀ n s, I n s → wpAny (model prog w) A (compTurn e 0 it (.ref D) env) (fun fin s' => match fin with | .done f => R (.ok f) s' | .again c' => c' = .compLoop e 0 it (.ref D) env ∧ ∃ m, m < n ∧ I m s') (notedBy (model prog w) A env fun e s' => R (.error e) s') s by
    rcases ce.kind with ⟨_, _, _, _, rfl⟩ | ⟨_, _, _, _, _, rfl⟩
    · refine codeAny_loop rfl I (fun n s hI => ?_) n h
      exact wpAny_noted (start n s hI)
    · refine codeAny_loop rfl I (fun n s hI => ?_) n h
      exact wpAny_noted (start n s hI)
  intro n s hI
  rw [ce.turn]
  refine wpAny_bind (wpAny_standAt (wpAny_bind (wpAny_mono (turn n s hI) (fun r s₁ h₁ => ?_) ff)))
  cases r with
  | none => exact wpAny_pure h₁
  | some v =>
    refine wpAny_bind (wpAny_mono h₁ (fun _ s₀ h₀ => ?_) ff)
    refine wpAny_bind (wpAny_mono h₀ (fun _ s₂ h₂ => wpAny_bind (wpAny_mono h₂ (fun ok s₃ h₃ => ?_) ff)) ff)
    cases ok with
    | true =>
      simp only [if_true] at h₃ ⊢
      exact wpAny_bind (wpAny_mono h₃ (fun _ s₅ h₅ => wpAny_pure ⟨rfl, h₅⟩) ff)
    | false =>
      simp only [Bool.false_eq_true, if_false] at h₃ ⊢
      exact wpAny_pure ⟨rfl, h₃⟩
theorem comp_startG (ce : CompE e tg iter ifs emit) {it acc : Value} {env : Env}
    (h0 : codeAny (model prog w) A (.compLoop e 0 it acc env) R s)
    (h : wpAny (model prog w) A (pyIter it) (fun it' s' => codeAny (model prog w) A (.compLoop e 0 it' acc env) R s') (notedBy (model prog w) A env fun x s' => R (.error x) s') s) :
    codeAny (model prog w) A (.compStart e 0 it acc env) R s := by
  suffices start : wpAny (model prog w) A (compStart e 0 it acc env) (fun fin s' => match fin with | .done f => R (.ok f) s' | .again c' => c'.quiet = true ∧ codeAny (model prog w) A c' R s') (notedBy (model prog w) A env fun x s' => R (.error x) s') s by
    rcases ce.kind with ⟨_, _, _, _, rfl⟩ | ⟨_, _, _, _, _, rfl⟩
    · exact codeAny_of_tree (wpAny_notedAt start)
    · exact codeAny_of_tree (wpAny_notedAt start)
  have hq : ∀ it', Code.quiet (.compLoop e 0 it' acc env) = true := fun it' => by rcases ce.kind with ⟨_, _, _, _, rfl⟩ | ⟨_, _, _, _, _, rfl⟩ <;> rfl
  unfold compStart
  rw [ce.cl]
  show wpAny _ _ (ask >>= _) _ _ s
  refine wpAny_bind (wpAny_askSetting (wpAny_ite ?_))
  split
  · first
      | exact wpAny_bind (wpAny_pure (wpAny_pure (And.intro (hq _) h0)))
      | exact wpAny_pure (And.intro (hq _) h0)
  · first
      | exact wpAny_bind (wpAny_rule (wpAny_bind (wpAny_standAt (wpAny_bind (wpAny_mono h (fun it' s' h' => wpAny_pure (And.intro (hq _) h')) fun _ _ x => x)))))
      | (refine wpAny_bind (wpAny_rule ?_); show wpAny _ _ (standAt iter.pos >>= _) _ _ s; exact wpAny_bind (wpAny_standAt (wpAny_bind (wpAny_mono h (fun it' s' h' => wpAny_pure (And.intro (hq _) h')) fun _ _ x => x))))
end
def MuO (o : HO) : Prop := (∀ xs, o ≠ .tup xs) ∧ ∀ a b, o ≠ .frz a b
section
variable {K : PySem.W.Frag} {Z : Addr → Prop} {m m1 m' : Mu} {H H1 H' : Hp} {D : Addr} {o0 o1 : HO}
theorem trg_new_l (hD : H D = none) (hk : K.lookup D = none) : ∀ a vs, (m a = none ∧ ¬ Z a) → SqL K H a vs → (m a = none ∧ ¬ rsv Z D a) ∧ SqL K (upd H D o0) a vs := fun a vs h1 h2 =>
  ⟨⟨h1.1, fun z => z.elim h1.2 (SqL.ne hD hk h2)⟩, (same_new hD).seq h2⟩
theorem trg_put_t (hD : H D = some o0) (mu : MuO o0) : ∀ a vs, SqT K H a vs → SqT K (upd H D o1) a vs := fun b xs h => by
  rcases h with (h | ⟨o, h⟩) | h
  · have ne : b ≠ D := by rintro rfl; rw [hD] at h; cases h; exact mu.1 _ rfl
    exact .inl (.inl (by rw [upd_ne ne]; exact h))
  · have ne : b ≠ D := by rintro rfl; rw [hD] at h; cases h; exact mu.2 _ _ rfl
    exact .inl (.inr ⟨o, by rw [upd_ne ne]; exact h⟩)
  · exact .inr h
theorem sqlg_put {a : Addr} {vs : List V} (ne : a ≠ D) (h : SqL K H a vs) : SqL K (upd H D o1) a vs := by
  rcases h with (h | ⟨o, h⟩) | h
  · exact .inl (.inl (by rw [upd_ne ne]; exact h))
  · exact .inl (.inr ⟨o, by rw [upd_ne ne]; exact h⟩)
  · exact .inr h
theorem trg_put_f (hD : H D = some o0) (mu : MuO o0) : ∀ a o u, H a = some (.frz o u) → upd H D o1 a = some (.frz o u) := fun a o u q => by
  rw [upd_ne (by rintro rfl; rw [hD] at q; cases q; exact mu.2 _ _ rfl)]
  exact q
theorem trg_put_l : ∀ a vs, (m a = none ∧ ¬ rsv Z D a) → SqL K H a vs → (m a = none ∧ ¬ rsv Z D a) ∧ SqL K (upd H D o1) a vs := fun a vs h1 h2 =>
  ⟨h1, sqlg_put (fun e => h1.2 (.inr e)) h2⟩
theorem rdg_new {x : DL.D} {v : V} (hD : H D = none) (hk : K.lookup D = none) (h : RD K Z m H x v) : RD K (rsv Z D) m (upd H D o0) x v := by
  cases x with
  | dat p => exact RP.tr (fun a vs q => SqT.same (same_new hD) q) (trg_new_l hD hk) p v h
  | cel a => exact h
theorem rdg_put {x : DL.D} {v : V} (hD : H D = some o0) (mu : MuO o0) (h : RD K (rsv Z D) m H x v) : RD K (rsv Z D) m (upd H D o1) x v := by
  cases x with
  | dat p => exact RP.tr (trg_put_t hD mu) trg_put_l p v h (trg_put_f hD mu)
  | cel a => exact h
theorem okg_new (ok : Ok K Z m H) (hD : H D = none) (hk : K.lookup D = none) : Ok K (rsv Z D) m (upd H D o0) := by
  refine ⟨fun a c h => ?_, fun a h => ?_⟩
  · obtain ⟨o, h1, h2⟩ := ok.g a c h
    have ne : a ≠ D := by rintro rfl; rw [hD] at h1; cases h1
    exact ⟨o, by rw [upd_ne ne]; exact h1, h2.lift fun p v q => RP.tr (fun a vs q => SqT.same (same_new hD) q) (trg_new_l hD hk) p v q⟩
  · rcases h with h | h
    · have ne : a ≠ D := by rintro rfl; exact (ok.z a h).2 hD
      exact ⟨(ok.z a h).1, by rw [upd_ne ne]; exact (ok.z a h).2⟩
    · subst h
      exact ⟨(ok_none ok hD).1, by rw [upd_same]; intro z; cases z⟩
theorem okg_put (ok : Ok K (rsv Z D) m H) (hD : H D = some o0) (mu : MuO o0) : Ok K (rsv Z D) m (upd H D o1) := by
  refine ⟨fun a c h => ?_, fun a h => ?_⟩
  · obtain ⟨o, h1, h2⟩ := ok.g a c h
    have ne : a ≠ D := by
      rintro rfl
      have := (ok.z a (.inr rfl)).1
      rw [h] at this
      cases this
    exact ⟨o, by rw [upd_ne ne]; exact h1, h2.lift fun p v q => RP.tr (trg_put_t hD mu) trg_put_l p v q (trg_put_f hD mu)⟩
  · by_cases e : a = D
    · subst e
      exact ⟨(ok.z a h).1, by rw [upd_same]; intro z; cases z⟩
    · exact ⟨(ok.z a h).1, by rw [upd_ne e]; exact (ok.z a h).2⟩
theorem extg_put (e : Ext K Z m1 H1 m H) (ok1 : Ok K Z m1 H1) (hD : H1 D = none) (hk : K.lookup D = none) (hH : H D = some o0) (mu : MuO o0) : Ext K Z m1 H1 m (upd H D o1) :=
  ⟨fun a vs h => trg_put_t hH mu a vs (e.t a vs h), fun a vs h1 h2 => let ⟨q1, q2⟩ := e.l a vs h1 h2; ⟨q1, sqlg_put (SqL.ne hD hk h2) q2⟩, fun a h => by
    have ne : a ≠ D := by rintro rfl; exact (ok1.z a h).2 hD
    rw [upd_ne ne]
    exact e.z a h, e.c, fun a o u h => by
    have q := e.fz a o u h
    rw [upd_ne (by rintro rfl; rw [hH] at q; cases q; exact mu.2 _ _ rfl)]
    exact q, e.fm⟩
end
def loopG {α : Type} (g : DG) (t : DT) (fE : St2 → Mu → α → (α → Mu → Prop) → Prop) : List D → α → St2 → Mu → (α → Mu → Prop) → Prop
  | [], a, _, m, Q => Q a m
  | x :: xs, a, d, m, Q => g x d m fun d1 m1 => t d1 m1 fun b m2 => if b = true then fE d1 m2 a fun a' m3 => loopG g t fE xs a' d1 m3 Q else loopG g t fE xs a d1 m2 Q
structure AccR (K : PySem.W.Frag) {α : Type} (AR : (Addr → Prop) → Mu → Hp → α → HO → Prop) : Prop where
  lift : ∀ {Z Z' : Addr → Prop} {m m' : Mu} {H H' : Hp} {a : α} {o : HO}, (∀ p v, RP K Z m H p v → RP K Z' m' H' p v) → AR Z m H a o → AR Z' m' H' a o
  mu : ∀ {Z : Addr → Prop} {m : Mu} {H : Hp} {a : α} {o : HO}, AR Z m H a o → MuO o
def PEm (X : Cx) (D : Addr) (emit : Addr → Env → Sem Unit) {α : Type} (AR : (Addr → Prop) → Mu → Hp → α → HO → Prop) (fE : St2 → Mu → α → (α → Mu → Prop) → Prop) : Prop :=
  ∀ (pins : List (Addr × Obj)) (s : Shared) (σ : L2.St) (H : Hp) (Z : Addr → Prop) (d : St2) (m : Mu) (a : α) (o : HO) (Q : α → Mu → Prop), Inv X pins σ H s → Ok X.K (rsv Z D) m H → RS X.K (rsv Z D) m H d σ → H D = some o → AR (rsv Z D) m H a o → fE d m a Q →
    wpAny (model X.prog X.w) X.A (emit D X.env) (fun _ s' => ∃ a' m' H' o', Q a' m' ∧ Ext X.K (rsv Z D) m H m' H' ∧ Ok X.K (rsv Z D) m' H' ∧ AR (rsv Z D) m' H' a' o' ∧ Inv X pins σ (upd H' D o') s') (fun _ _ => False) s
section
variable {X : Cx} {e tg iter : Expr} {ifs : List Expr} {emit : Addr → Env → Sem Unit} {scope : Scope} {NC : List Str} {fi : DI} {g : DG} {t : DT} {α : Type} {AR : Addr → (Addr → Prop) → Mu → Hp → α → HO → Prop} {fE : St2 → Mu → α → (α → Mu → Prop) → Prop} {newAcc : Sem Value} {ob : Obj} {a0 : α} {o0 : Addr → HO}
theorem gc_core (ce : CompE e tg iter ifs emit) (ac : ∀ D, AccR X.K (AR D)) (hnew : ∀ {Q : Value → Shared → Prop} {s : Shared}, Q (.ref s.heap.objs.size) { s with heap := s.heap.push ob } → wpAny (model X.prog X.w) X.A newAcc Q X.xe s) (hfr : ob.isFreed = false)
    (hob : ∀ (H : Hp) (h : Heap) (a : Addr), sysModules < a → h.get? a = some ob → ObjOk X.prog X.w H h a (o0 a)) (h00 : ∀ D Z m H, AR D Z m H a0 (o0 D))
    (src : List (Option Nat)) (hc : X.calm = true) (hi : PI X tg iter (LI X.K fi))
    (hg : ∀ cl C s2 H2 pins fp, PG (cyOf X scope cl C NC s2 H2 pins fp) tg (LG X.K g)) (ht : ∀ cl C s2 H2 pins fp, PF (cyOf X scope cl C NC s2 H2 pins fp) ifs (LT X.K t)) (he : ∀ cl C s2 H2 pins fp D, PEm (cyOf X scope cl C NC s2 H2 pins fp) D emit (AR D) fE)
    (hkind : scope.kind = .function) (hcell : ∀ y ∈ scope.names, y.2 ≠ .cell) (hnames : ∀ y ∈ scope.names, y.2 = .local → scope.names.lookup y.1 = some .local)
    (hfree : ∀ x, (x, NameKind.free) ∈ scope.names → X.env.kindOf x = some .cell ∨ X.env.kindOf x = some .free) (hsrc : srcChk X scope NC src)
    (hs : ∀ x, foldedSetIterable iter X.env x = pure x) {use : Option (Value → Sem Unit)} {QQ : Value → Shared → Prop} {pos' : Pos} {pins : List (Addr × Obj)} {s : Shared} {σ : L2.St} {H : Hp} {Z : Addr → Prop} {d : St2} {m : Mu} {RL : α → Mu → Prop}
    (I : Inv X pins σ H s) (ok : Ok X.K Z m H) (rs : RS X.K Z m H d σ) (h : fi d m fun xs m1 => loopG g t fE xs a0 (srcOf src d) m1 RL)
    (fin : ∀ (s5 : Shared) (C D : Addr) (H' : Hp) (m' : Mu) (a : α) (o : HO), RL a m' → H' D = some o → m' D = none → Ext X.K Z m H m' H' → Ok X.K Z m' H' → AR D Z m' H' a o → (∀ c, AR D Z (updM m' D c) H' a o) →
      (∀ c, RC X.K Z (updM m' D c) H' c o → Ext X.K Z m H (updM m' D c) H' ∧ Ok X.K Z (updM m' D c) H') → (∃ mm, s5.heap.Ns C mm) → Inv X pins σ H' s5 → Off X pins H' C →
      compPost (model X.prog X.w) X.A X.xe use QQ (.ref D) C (.ok .next) s5) :
    wpAny (model X.prog X.w) X.A (comprehension e scope X.env pos' newAcc false (eval iter X.env) use) QQ X.xe s := by
  obtain ⟨cl, hclos, hcl1, hcl2⟩ := closure_of (scope := scope) (env := X.env) fun x hx => I.ok.has x (hfree x hx)
  refine wpAny_comprehension_free (use := use) ce.cl hs hclos hkind hnames ?_
  refine thn (hi pins s σ H (fun J H1 => ∃ xs m1, Ext X.K Z m H m1 H1 ∧ Ok X.K Z m1 H1 ∧ Yields X.K Z m1 H1 xs J ∧ loopG g t fE xs a0 (srcOf src d) m1 RL) I
    ⟨Z, d, m, _, ok, rs, h, fun xs m1 H1 J q e1 ok1 y1 => ⟨xs, m1, e1, ok1, y1, q⟩⟩) fun xv s₁ h₁ => thn h₁ fun itv s₂ h₂ => ?_
  obtain ⟨it, fp, tn, J, H2, eit, I2, T, st2, f2, xs, m1, e1, ok1, yl, lp⟩ := h₂
  subst eit
  refine hnew (wpAny_newFunctionEnv hcell (by intro y hy; simp at hy) (fun h₁ hns₁ hsb₁ => ?_) hkind)
  dsimp only at hns₁ hsb₁ ⊢
  generalize hH2 : s₂.heap.push ob = HP at hns₁ hsb₁ ⊢
  have hC : HP.objs.size = s₂.heap.objs.size + 1 := by rw [← hH2, Heap.size_push]
  have leC : s₂.heap.objs.size ≤ HP.objs.size := by rw [hC]; exact Nat.le_succ _
  have old : ∀ b o, s₂.heap.get? b = some o → h₁.get? b = some o := fun b o e => hsb₁.extBut b o (Nat.ne_of_lt (Nat.lt_of_lt_of_le (Heap.lt_size e) leC)) (Heap.get?_push_of_some _ (hH2 ▸ Heap.get?_push_of_some _ e))
  have hacc : h₁.get? s₂.heap.objs.size = some ob := hsb₁.extBut _ _ (by rw [hC]; exact Nat.ne_of_lt (Nat.lt_succ_self _)) (Heap.get?_push_of_some _ (hH2 ▸ Heap.get?_push_size _ hfr))
  have hD : H2 s₂.heap.objs.size = none := I2.hok.fresh (Nat.le_refl _)
  have hkD : X.K.lookup s₂.heap.objs.size = none := by
    cases e : X.K.lookup s₂.heap.objs.size with
    | none => rfl
    | some o => exact absurd (Heap.lt_size (I2.kIn _ o e)) (Nat.lt_irrefl _)
  have obf : ∀ b ∈ fp, ∃ o, s₂.heap.get? b = some o ∧ ∀ v, o.data ≠ .cell v := T.obj 0 _ st2
  have hσ : ∀ (i : Nat) (x : Str) (v : V), NC[i]? = some x → (srcOf src σ)[i]? = some (some v) → Vis (relabel scope X.env) x → ((relabel scope X.env).names.lookup x = some .cell ∨ (relabel scope X.env).names.lookup x = some .free) ∧ (X.env.kindOf x = some .cell ∨ X.env.kindOf x = some .free) ∧ ∃ j : Nat, X.N[j]? = some x ∧ σ[j]? = some (some v) := fun i x v h1 h2 _ => by
    obtain ⟨j, q1, q2⟩ := srcOf_get h2
    obtain ⟨a1, a2, a3⟩ := hsrc.2 i x j h1 q1
    exact ⟨a3, hfree x a2, j, a1, q2⟩
  have I4 := fun tk => cy_startG (o0 := o0 s₂.heap.objs.size) (cl := cl) (NC := NC) (σ' := srcOf src σ) (tk := tk) I2 f2 obf hkind hcell hcl1 hcl2 (by unfold srcOf; rw [List.length_map]; exact hsrc.1.symm) hσ hC hns₁ old (hob _ _ _ I2.big hacc)
  have st4 : tn 0 h₁ := T.keep 0 _ _ st2 fun b _ o e => old b o e
  have loop : ∀ s₃ : Shared, s₃ = { s₂ with heap := h₁, toks := s₂.toks + ([] : List (Str × Value)).length } →
      codeAny (model X.prog X.w) X.A (.compLoop e 0 (.ref it) (.ref s₂.heap.objs.size) (compEnvC scope cl HP.objs.size X.env))
        (compPost (model X.prog X.w) X.A X.xe use QQ (.ref s₂.heap.objs.size) HP.objs.size) s₃ := by
    rintro s₃ rfl
    refine comp_loopG ce (fun n s' => ∃ (i : Nat) (o : HO) (acc : α) (d' : St2) (m' : Mu) (σ' : L2.St) (H' : Hp), n = xs.length - i ∧ i ≤ xs.length ∧ Inv (cyOf X scope cl HP.objs.size NC s₂ H2 pins fp) [] σ' H' s' ∧ tn i s'.heap ∧ (∀ b ∈ fp, H' b = none) ∧
      H' s₂.heap.objs.size = some o ∧ AR s₂.heap.objs.size (rsv Z s₂.heap.objs.size) m' H' acc o ∧ Ext X.K Z m1 H2 m' H' ∧ Ok X.K (rsv Z s₂.heap.objs.size) m' H' ∧ RS X.K (rsv Z s₂.heap.objs.size) m' H' d' σ' ∧
      loopG g t fE (xs.drop i) acc d' m' RL) ?_ xs.length ?_
    rotate_left
    · have rs1 : RS X.K Z m1 H2 (srcOf src d) (srcOf src σ) := rs_src src (rs.ext e1)
      refine ⟨0, o0 _, a0, srcOf src d, m1, srcOf src σ, _, by simp, Nat.zero_le _, I4 _, st4, fun b hb => ?_, upd_same, h00 _ _ _ _, ok1.ext (same_new hD), okg_new ok1 hD hkD, ⟨rs1.1, fun i x hx => ?_⟩, by simpa using lp⟩
      · obtain ⟨o, ho, _⟩ := obf b hb
        rw [upd_ne (Nat.ne_of_lt (Heap.lt_size ho))]
        exact (f2 b hb).1
      · obtain ⟨v, q1, q2⟩ := rs1.2 i x hx
        exact ⟨v, q1, rdg_new hD hkD q2⟩
    rintro n s4 ⟨i, ys, acc, d', m', σ', H', rfl, hi', I5, st5, fr5, hDy, racc, eX, ok5, rs5, lp5⟩
    have stat : ∀ b ∈ fp, FpOk (cyOf X scope cl HP.objs.size NC s₂ H2 pins fp) [] H' b := fun b hb => by
      obtain ⟨g0, g1, g2, g3, g4, g5⟩ := f2 b hb
      obtain ⟨o, ho, _⟩ := obf b hb
      refine ⟨fr5 b hb, Nat.ne_of_lt (Nat.lt_of_lt_of_le (Heap.lt_size ho) leC), fun z => ?_, .inl hb, fun x c e => g4 x c (hcl1 (x, c) (mem_of_lookup' e)), fun p hp => ?_⟩
      · rcases List.mem_cons.mp (I2.stkSub b z) with q | q
        · exact g1 q
        · exact g2 q
      · rcases List.mem_append.mp hp with q | q
        · exact g5 p q
        · cases q
    obtain ⟨y1, y2⟩ := yl m' H' eX.y
    by_cases hlt : i < xs.length
    · rw [List.drop_eq_getElem_cons hlt] at lp5
      obtain ⟨go, yd⟩ := y1 i xs[i] (List.getElem?_eq_getElem hlt)
      refine thn (T.item (cyOf X scope cl HP.objs.size NC s₂ H2 pins fp) rfl rfl rfl hc i [] s4 σ' H' (fun _ _ => False) I5 stat st5 go) fun r s5 hq0 => ?_
      obtain ⟨u, hr, h5⟩ := hq0
      subst hr
      refine thn h5 fun _ s6 hq0 => ?_
      obtain ⟨x, H6, I6, r6, yy, st6, fr6⟩ := hq0
      have yy' := yd x H6 yy
      have e56 : Ext X.K (rsv Z s₂.heap.objs.size) m' H' m' H6 := ok5.ext yy'.same
      have rv := yy'.rd (fun d v h => rd_cross hD hkD eX h) ok5
      have hDy := yy'.same _ _ hDy
      have racc := (ac _).lift (RP.ext e56) racc
      have eX := ext_inner eX hD hkD e56
      have rs5 := rs5.ext e56
      have ok5 := ok5.grow yy'.same
      have stat : ∀ b ∈ fp, FpOk (cyOf X scope cl HP.objs.size NC s₂ H2 pins fp) [] H6 b := fun b hb => ⟨fr6 b hb, (stat b hb).2⟩
      have I6' := I6.pinned stat (T.obj _ _ st6)
      have over : ∀ {s7 : Shared} {σ7 : L2.St} {H7 : Hp} {ys7 : HO} {acc7 : α} {d7 : St2} {m7 : Mu}, Inv (cyOf X scope cl HP.objs.size NC s₂ H2 pins fp) ([] ++ pinsAt fp s6.heap) σ7 H7 s7 → H7 s₂.heap.objs.size = some ys7 → AR s₂.heap.objs.size (rsv Z s₂.heap.objs.size) m7 H7 acc7 ys7 →
          Ext X.K Z m1 H2 m7 H7 → Ok X.K (rsv Z s₂.heap.objs.size) m7 H7 → RS X.K (rsv Z s₂.heap.objs.size) m7 H7 d7 σ7 → (loopG g t fE (xs.drop (i + 1)) acc7 d7 m7 RL) →
          ∃ n, n < xs.length - i ∧ ∃ (i : Nat) (ys : HO) (acc : α) (d' : St2) (m' : Mu) (σ' : L2.St) (H' : Hp), n = xs.length - i ∧ i ≤ xs.length ∧ Inv (cyOf X scope cl HP.objs.size NC s₂ H2 pins fp) [] σ' H' s7 ∧ tn i s7.heap ∧ (∀ b ∈ fp, H' b = none) ∧
            H' s₂.heap.objs.size = some ys ∧ AR s₂.heap.objs.size (rsv Z s₂.heap.objs.size) m' H' acc ys ∧ Ext X.K Z m1 H2 m' H' ∧ Ok X.K (rsv Z s₂.heap.objs.size) m' H' ∧ RS X.K (rsv Z s₂.heap.objs.size) m' H' d' σ' ∧
            loopG g t fE (xs.drop i) acc d' m' RL := by
        intro s7 σ7 H7 ys7 acc7 d7 m7 I7 a1 a2 a3 a4 a5 a6
        refine ⟨xs.length - (i + 1), by omega, i + 1, ys7, acc7, d7, m7, σ7, H7, rfl, hlt, I7.unpinned, T.keep _ _ _ st6 fun b hb o e => (I7.pin (b, o) (List.mem_append_right _ (List.mem_append_right _ (mem_pinsAt hb e)))).1, fun b hb => ?_, a1, a2, a3, a4, a5, a6⟩
        obtain ⟨o, e, dd⟩ := T.obj _ _ st6 b hb
        exact (I7.pin (b, o) (List.mem_append_right _ (List.mem_append_right _ (mem_pinsAt hb e)))).2.1
      refine thn (hg cl _ s₂ H2 pins fp _ s6 σ' _ x u (fun σ7 H7 => ∃ d7 m7, Ext X.K (rsv Z s₂.heap.objs.size) m' H6 m7 H7 ∧ Ok X.K (rsv Z s₂.heap.objs.size) m7 H7 ∧ RS X.K (rsv Z s₂.heap.objs.size) m7 H7 d7 σ7 ∧
        t d7 m7 fun b m2 => if b = true then fE d7 m2 acc fun a' m3 => loopG g t fE (xs.drop (i + 1)) a' d7 m3 RL else loopG g t fE (xs.drop (i + 1)) acc d7 m2 RL) I6' r6
        ⟨_, xs[i], d', m', _, ok5, rs5, rv, lp5, fun d7 m7 σ7 H7 q7 e7 ok7 rs7 => ⟨d7, m7, e7, ok7, rs7, q7⟩⟩) fun _ s7 hq0 => ?_
      obtain ⟨σ7, H7, I7, d7, m7, e7, ok7, rs7, q7⟩ := hq0
      refine thn (ht cl _ s₂ H2 pins fp _ s7 σ7 H7 (fun b H8 => ∃ m8, Ext X.K (rsv Z s₂.heap.objs.size) m7 H7 m8 H8 ∧ Ok X.K (rsv Z s₂.heap.objs.size) m8 H8 ∧
        if b = true then fE d7 m8 acc fun a' m3 => loopG g t fE (xs.drop (i + 1)) a' d7 m3 RL else loopG g t fE (xs.drop (i + 1)) acc d7 m8 RL) I7
        ⟨_, d7, m7, _, ok7, rs7, q7, fun b m8 H8 q8 e8 ok8 => ⟨m8, e8, ok8, q8⟩⟩) fun b s8 hq0 => ?_
      obtain ⟨H8, I8, m8, e8, ok8, q8⟩ := hq0
      have e68 := e7.trans e8
      have hD8 : H8 s₂.heap.objs.size = some ys := (e68.z _ (.inr rfl)).trans hDy
      have racc8 := (ac _).lift (RP.ext e68) racc
      cases b with
      | false =>
        rw [if_neg Bool.false_ne_true] at q8
        exact over I8 hD8 racc8 (ext_inner eX hD hkD e68) ok8 (rs7.ext e8) q8
      | true =>
        rw [if_pos rfl] at q8
        refine thn (he cl _ s₂ H2 pins fp _ _ s8 σ7 H8 Z d7 m8 acc ys _ I8 ok8 (rs7.ext e8) hD8 racc8 q8) fun _ s9 hq0 => ?_
        obtain ⟨a', m9, H9, o', q9, e9, ok9, ra9, I9⟩ := hq0
        have e69 := e68.trans e9
        have hD9 : H9 s₂.heap.objs.size = some ys := (e69.z _ (.inr rfl)).trans hDy
        have mu9 := (ac _).mu racc
        have rs9 := (rs7.ext e8).ext e9
        refine over I9 upd_same ((ac _).lift (fun p v q => RP.tr (trg_put_t hD9 mu9) trg_put_l p v q (trg_put_f hD9 mu9)) ra9) (extg_put (ext_inner eX hD hkD e69) ok1 hD hkD hD9 mu9) (okg_put ok9 hD9 mu9) ⟨rs9.1, fun j z hj => ?_⟩ q9
        obtain ⟨v, a1, a2⟩ := rs9.2 j z hj
        exact ⟨v, a1, rdg_put hD9 mu9 a2⟩
    · have ei : i = xs.length := by omega
      subst ei
      rw [List.drop_length] at lp5
      refine thn (T.done (cyOf X scope cl HP.objs.size NC s₂ H2 pins fp) rfl rfl rfl hc _ [] s4 σ' H' (fun _ _ => False) I5 stat st5 y2) fun r s5 hq0 => ?_
      obtain ⟨hr, I6⟩ := hq0
      subst hr
      have IX := cy_end I2 f2 I6 leC (Heap.SameBut.refl _ _)
      have nz : ¬ Z s₂.heap.objs.size := fun z => (ok1.z _ z).2 hD
      have mD := (ok5.z _ (.inr rfl)).1
      have trc : ∀ c (a : Addr) (vs : List V), (m' a = none ∧ ¬ rsv Z s₂.heap.objs.size a) → SqL X.K H' a vs → (updM m' s₂.heap.objs.size c a = none ∧ ¬ Z a) ∧ SqL X.K H' a vs := fun c a vs q1 q2 => ⟨⟨by rw [updM_ne fun z => q1.2 (.inr z)]; exact q1.1, fun z => q1.2 (.inl z)⟩, q2⟩
      refine fin s5 HP.objs.size s₂.heap.objs.size H' m' acc ys lp5 hDy mD (e1.trans eX) (ok_out ok5) ((ac _).lift (fun p v q => RP.tr (fun _ _ q => q) (fun a vs q1 q2 => ⟨⟨q1.1, fun z => q1.2 (.inl z)⟩, q2⟩) p v q) racc) (fun c => (ac _).lift (fun p v q => RP.tr (fun _ _ q => q) (trc c) p v q) racc) (fun c rc => ⟨?_, ?_⟩) ⟨_, I6.loc.choose_spec.1⟩ IX ⟨I6.free, Nat.ne_of_gt (Nat.lt_of_lt_of_le I2.lt leC), Nat.le_trans I2.sz leC, fun x c e => ?_, fun p hp => ?_⟩
      · refine ⟨fun a vs q => (e1.trans eX).t a vs q, fun a vs q1 q2 => ?_, fun a q => (e1.trans eX).z a q, fun a q => ?_, (e1.trans eX).fz, fun a q => ?_⟩
        · obtain ⟨_, q3⟩ := e1.l a vs q1 q2
          have ne := SqL.ne hD hkD q3
          obtain ⟨q4, q5⟩ := (e1.trans eX).l a vs q1 q2
          exact ⟨by rw [updM_ne ne]; exact q4, q5⟩
        · by_cases ea : a = s₂.heap.objs.size
          · subst ea; rw [updM_same]; rfl
          · rw [updM_ne ea]; exact (e1.trans eX).c a q
        · have fq := (e1.trans eX).fm a q
          have ne : a ≠ s₂.heap.objs.size := by
            rintro rfl
            rw [mD] at fq
            rw [← fq] at q
            cases q
          rw [updM_ne ne]
          exact fq
      · refine ⟨fun a c' q => ?_, fun a q => ?_⟩
        · by_cases ea : a = s₂.heap.objs.size
          · subst ea
            rw [updM_same] at q
            cases q
            exact ⟨_, hDy, rc⟩
          · rw [updM_ne ea] at q
            obtain ⟨o, q1, q2⟩ := ok5.g a c' q
            exact ⟨o, q1, q2.lift fun p v q3 => RP.tr (fun _ _ q => q) (trc c) p v q3⟩
        · have ne : a ≠ s₂.heap.objs.size := fun z => nz (z ▸ q)
          obtain ⟨q1, q2⟩ := ok5.z a (.inl q)
          exact ⟨by rw [updM_ne ne]; exact q1, q2⟩
      · obtain ⟨v, q⟩ := I2.cell x c e
        exact Nat.ne_of_lt (Nat.lt_of_lt_of_le q.lt leC)
      · exact Nat.ne_of_lt (Nat.lt_of_lt_of_le (Heap.lt_size (I2.pin p hp).1) leC)
  exact comp_startG ce (loop _ rfl) (T.self _ 0 _ _ _ st4 (loop _ rfl))
end
end DL
set_option Elab.async false
set_option linter.all false
set_option maxRecDepth 100000
set_option maxHeartbeats 4000000
namespace DL
open PySem PySem.Spec PyProof.Rows L2
def slotZ (z : Int) : Nat := if z = -1 then 6 else z.toNat
def SUB3 : List (List Int) := [[], [0], [1], [-1], [0, 1], [0, -1], [1, -1], [0, 1, -1]]
def ins3 (zs : List Int) (z : Int) : List Int := [0, 1, -1].filter fun y => decide (y ∈ zs ∨ y = z)
def tab3 (led : Bool) (zs : List Int) : SetTable := { mask := 7, place := (zs.map slotZ).toArray, dummies := #[], finger := 0, led := led, moves := 0, plain := true }
def es3 (zs : List Int) (tks : List Tok) : Array (Int × Value) := (List.zipWith (fun z t => (hashInt z, Value.int z t)) zs tks).toArray
def ISet (P : Program) (w : World) (h : Heap) (a : Addr) (zs : List Int) : Prop :=
  ∃ o tks ep, h.get? a = some o ∧ o.ExactSet ∧ zs ∈ SUB3 ∧ tks.length = zs.length ∧ o.data = .set (es3 zs tks) ep (tab3 (!w.params.followText "set-order") zs)
theorem ISet.at {P : Program} {w : World} {h h' : Heap} {a : Addr} {zs : List Int} (T : ISet P w h a zs) (k : ∀ o, h.get? a = some o → h'.get? a = some o) : ISet P w h' a zs := by
  obtain ⟨o, tks, ep, ho, rest⟩ := T
  exact ⟨o, tks, ep, k o ho, rest⟩
abbrev freshS (w : World) : Obj := { cls := .type "set", dict := none, data := .set #[] 0 (.fresh 0 0 (!w.params.followText "set-order")) }
theorem is_fresh {P : Program} {w : World} {h : Heap} {a : Addr} (e : h.get? a = some (freshS w)) : ISet P w h a [] := ⟨_, [], 0, e, ⟨rfl, rfl, rfl⟩, List.mem_cons_self, rfl, rfl⟩
def pos3 (zs : List Int) (z : Int) : Nat := SetTable.below (zs.map slotZ).toArray (slotZ z)
theorem free3 : ∀ led : Bool, ∀ zs ∈ SUB3, ∀ z ∈ ([0, 1, -1] : List Int), z ∉ zs → (tab3 led zs).freeSlot (hashInt z) = some (slotZ z, false) ∧ (tab3 led zs).put (slotZ z) = (tab3 led (ins3 zs z), pos3 zs z) ∧ (tab3 led (ins3 zs z)).fits (zs.length + 1) = true ∧
    ins3 zs z = zs.take (pos3 zs z) ++ z :: zs.drop (pos3 zs z) ∧ ins3 zs z ∈ SUB3 ∧ (tab3 led (ins3 zs z)).tooFull = false := by decide +kernel
theorem old3 : ∀ zs ∈ SUB3, ∀ z ∈ zs, ins3 zs z = zs := by decide +kernel
theorem zip_cut {α β γ : Type} (f : α → β → γ) : ∀ (p : Nat) (xs : List α) (ys : List β), xs.length = ys.length → List.zipWith f (xs.take p) (ys.take p) = (List.zipWith f xs ys).take p ∧ List.zipWith f (xs.drop p) (ys.drop p) = (List.zipWith f xs ys).drop p
  | 0, xs, ys, _ => by simp
  | p + 1, [], [], _ => by simp
  | p + 1, x :: xs, y :: ys, h => by
    obtain ⟨a, b⟩ := zip_cut f p xs ys (by simpa using h)
    simp [a, b]
theorem lay3 {zs : List Int} {tks : List Tok} {z : Int} {led : Bool} {tk : Tok} (h : zs ∈ SUB3) (hl : tks.length = zs.length) (hz : z ∈ ([0, 1, -1] : List Int)) (hn : z ∉ zs) :
    ∃ tks', tks'.length = (ins3 zs z).length ∧ layNew (tab3 led zs) (es3 zs tks) (hashInt z) (.int z tk) = (es3 (ins3 zs z) tks', tab3 led (ins3 zs z), false, false) := by
  obtain ⟨f1, f2, f3, f4, _⟩ := free3 led zs h z hz hn
  have hlen : (ins3 zs z).length = zs.length + 1 := by rw [f4]; simp; omega
  refine ⟨tks.take (pos3 zs z) ++ tk :: tks.drop (pos3 zs z), by rw [hlen]; simp; omega, ?_⟩
  have e : SetTable.insertAt (es3 zs tks) (pos3 zs z) (hashInt z, .int z tk) = es3 (ins3 zs z) (tks.take (pos3 zs z) ++ tk :: tks.drop (pos3 zs z)) := by
    obtain ⟨c1, c2⟩ := zip_cut (fun z t => (hashInt z, Value.int z t)) (pos3 zs z) zs tks hl.symm
    apply Array.toList_inj.mp
    rw [f4]
    unfold SetTable.insertAt es3
    rw [List.zipWith_append (by simp; omega), List.zipWith_cons_cons, c1, c2]
    simp
    rw [List.take_of_length_le (by rw [List.length_drop, List.length_zipWith]; exact Nat.le_refl _)]
  unfold layNew
  rw [f1]
  dsimp only
  rw [f2]
  dsimp only
  rw [e]
  have es : (es3 (ins3 zs z) (tks.take (pos3 zs z) ++ tk :: tks.drop (pos3 zs z))).size = zs.length + 1 := by
    unfold es3
    rw [List.size_toArray, List.length_zipWith, hlen]
    simp
    omega
  rw [es, f3]
  unfold SetTable.orStandIn
  rw [f3]
  rfl
theorem nums3 {zs : List Int} {tks : List Tok} (hl : tks.length = zs.length) : IntsAre ((es3 zs tks).toList.map (·.2)) zs := by
  unfold es3
  rw [List.toList_toArray]
  induction zs generalizing tks with
  | nil => cases tks with
    | nil => exact .nil
    | cons _ _ => simp at hl
  | cons z zs ih => cases tks with
    | nil => simp at hl
    | cons t tks => exact .cons z t (ih (by simpa using hl))
theorem size3 {zs : List Int} {tks : List Tok} (hl : tks.length = zs.length) : (es3 zs tks).size = zs.length := by
  unfold es3
  rw [List.size_toArray, List.length_zipWith]
  omega
theorem sub3_len : ∀ zs ∈ SUB3, zs.length ≤ 3 ∧ (∀ led, (tab3 led zs).fits zs.length = true) := by decide +kernel
section
variable {P : Program} {w : World} {A : Around} {E : Value → Shared → Prop} {s : Shared} {a : Addr} {zs : List Int} {z : Int} {tk : Tok}
theorem key_int (z : Int) (tk : Tok) : (mixKind P w).is (.inl z) (.int z tk) = true := keyIs_int z tk
theorem elems3 {tks : List Tok} (hl : tks.length = zs.length) : ElemsOf (mixKind P w) (es3 zs tks).toList ∧ ((∃ e ∈ (es3 zs tks).toList, (mixKind P w).is (.inl z) e.2 = true) ↔ z ∈ zs) := by
  unfold es3
  rw [List.toList_toArray]
  induction zs generalizing tks with
  | nil => exact ⟨(fun e he => by cases tks <;> simp at he), by simp⟩
  | cons y zs ih => cases tks with
    | nil => simp at hl
    | cons t tks =>
      obtain ⟨i1, i2⟩ := ih (tks := tks) (by simpa using hl)
      refine ⟨fun e he => ?_, ?_⟩
      · rw [List.zipWith_cons_cons] at he
        rcases List.mem_cons.mp he with e1 | e1
        · subst e1; exact ⟨⟨.inl y, key_int y t, rfl⟩, rfl⟩
        · exact i1 e e1
      · rw [List.zipWith_cons_cons, List.mem_cons, ← i2]
        constructor
        · rintro ⟨e, he, q⟩
          rcases List.mem_cons.mp he with e1 | e1
          · subst e1
            have q : keyIs (.inl z) (.int y t) = true := q
            rcases keyIs_shape q with ⟨i, t', e1, e2⟩ | ⟨x, t', e1, e2⟩
            · cases e1; cases e2; exact .inl rfl
            · cases e1
          · exact .inr ⟨e, e1, q⟩
        · rintro (rfl | ⟨e, he, q⟩)
          · exact ⟨_, List.mem_cons_self, key_int z t⟩
          · exact ⟨e, List.mem_cons_of_mem _ he, q⟩
theorem is_add {Q : Bool → Shared → Prop} (T : ISet P w s.heap a zs) (hz : z ∈ ([0, 1, -1] : List Int))
    (h : ∀ b h', Heap.SameBut a s.heap h' → ISet P w h' a (ins3 zs z) → Q b { s with heap := h' }) :
    wpAny (model P w) A (setAddHashed a (.int z tk) ((mixKind P w).hash (.inl z))) Q E s := by
  have T0 := T
  obtain ⟨o, tks, ep, ho, hex, hsub, hl, hd⟩ := T
  obtain ⟨l3, lf⟩ := sub3_len zs hsub
  have hf : (tab3 (!w.params.followText "set-order") zs).fits (es3 zs tks).size = true := by rw [size3 hl]; exact lf _
  have hb : (es3 zs tks).size < scanBound := by rw [size3 hl]; unfold scanBound; omega
  obtain ⟨hel, mem⟩ := elems3 (P := P) (w := w) (z := z) hl
  have hkey := key_int (P := P) (w := w) z tk
  unfold setAddHashed setAddHashedIn
  refine wpAny_holding (wpAny_bind (wpAny_setState_of ho hd hf ?_))
  dsimp only
  rw [byScan_of (x := .int z tk) rfl hb hel, if_pos rfl]
  unfold setAddByScan
  refine wpAny_bind (wpAny_bind (wpAny_rule (wpAny_bind (wpAny_setScan_of hkey ho hd hf hel ?_))))
  cases hr : List.findIdx? (fun e => (mixKind P w).is (.inl z) e.2) (es3 zs tks).toList with
  | some j =>
    obtain ⟨hj, hpj, _⟩ := List.findIdx?_eq_some_iff_getElem.mp hr
    have hzz : z ∈ zs := mem.mp ⟨_, List.getElem_mem hj, hpj⟩
    have q := h false s.heap (Heap.SameBut.refl a s.heap) (by rw [old3 zs hsub z hzz]; exact T0)
    exact wpAny_pure (wpAny_pure q)
  | none =>
    have hzz : z ∉ zs := fun hz => by
      obtain ⟨e, he, q⟩ := mem.mpr hz
      have := List.findIdx?_eq_none_iff.mp hr e he
      rw [q] at this
      cases this
    dsimp only
    obtain ⟨tks', hl', e⟩ := lay3 (led := !w.params.followText "set-order") (tk := tk) hsub hl hz hzz
    obtain ⟨_, _, _, _, g5, g6⟩ := free3 (!w.params.followText "set-order") zs hsub z hz hzz
    have e : layNew (tab3 (!w.params.followText "set-order") zs) (es3 zs tks) ((mixKind P w).hash (.inl z)) (.int z tk) = _ := e
    generalize layNew (tab3 (!w.params.followText "set-order") zs) (es3 zs tks) ((mixKind P w).hash (.inl z)) (.int z tk) = L at e ⊢
    obtain ⟨es1, t1, wd, gave⟩ := L
    have gw : ∀ (b : Bool) (s₁ : Shared) (Q' : Unit → Shared → Prop), Q' () s₁ → wpAny (model P w) A (match b with | true => rule "set.scan.the-table-gave-way" | false => pure ()) Q' E s₁ :=
      fun b s₁ Q' hq => by cases b <;> first | exact wpAny_pure hq | exact wpAny_rule hq
    refine wpAny_bind (gw _ _ _ ?_)
    cases e
    dsimp only
    rw [if_pos (show (tab3 (!w.params.followText "set-order") (ins3 zs z)).plain = true from rfl)]
    refine wpAny_bind ?_
    rw [hashByValue_scannable 8 (x := .int z tk) rfl]
    refine wpAny_pure ?_
    rw [if_pos (show plainKind (Value.int z tk) = true from rfl)]
    have hb' : (es3 (ins3 zs z) tks').size < scanBound := by rw [size3 hl']; have := (sub3_len _ g5).1; unfold scanBound; omega
    refine wpAny_bind (wpAny_storeSet_of ho hd ?_ (fits_of_scanBound hb'))
    rw [g6, if_neg (by decide)]
    have o1 := Heap.get?_update_self (Obj.putSet (es3 (ins3 zs z) tks') (tab3 (!w.params.followText "set-order") (ins3 zs z))) ho (by rw [putSet_of _ _ hd]; rfl)
    rw [putSet_of _ _ hd] at o1
    exact wpAny_pure (wpAny_pure (h true _ (Heap.SameBut.update s.heap a _) ⟨_, tks', ep + 1, o1, hex, g5, hl', rfl⟩))
theorem call_add3 {Q : Value → Shared → Prop} (T : ISet P w s.heap a zs) (hz : z ∈ ([0, 1, -1] : List Int)) (h : ∀ h' tk', Heap.SameBut a s.heap h' → ISet P w h' a (ins3 zs z) → Q .none { s with heap := h', toks := tk' }) :
    wpAny (model P w) A (call (.builtin "set.add") [.ref a, .int z tk]) Q E s := by
  have T0 := T
  obtain ⟨o, tks, ep, ho, hex, _⟩ := T
  refine wpAny_call_entry F.slot_set_add ⟨o, ho, hex.1⟩ F.entry_set_add ?_ (F.args_set_add_2 _ _)
  unfold Builtin.«set.add» Builtin.Frozenset.oneOther
  simp only [List.isEmpty_nil, bind_assoc]
  unfold Builtin.Frozenset.addrOf setAdd
  refine wpAny_bind (wpAny_pure ?_)
  try dsimp only
  refine wpAny_bind (wpAny_pure ?_)
  try dsimp only
  refine wpAny_bind ?_
  refine wpAny_holding ?_
  refine wpAny_bind ((mixKind P w).pyHash (key_int z tk) ?_)
  refine is_add (s := { s with toks := s.toks + 1 }) T0 hz fun b h' sb T' => ?_
  show wpAny _ _ (ret Value.none) _ _ _
  exact wpAny_pure ⟨_, rfl, h h' _ sb T'⟩
end
structure WalkOkI (P : Program) (w : World) (s s2 : Shared) (S I : Addr) (zs : List Int) (fp : List Addr) (n : Nat) (Pv : Nat → Value → Prop) (St : Nat → Heap → Prop) : Prop where
  walk : ∀ B : Around, B.handled = none → Walks P w B I fp [I] n Pv St
  st : St 0 s2.heap
  fps : ∀ b ∈ fp, b = S ∨ s.heap.objs.size ≤ b
  lt : ∀ b ∈ fp, b < s2.heap.objs.size
  ext : ∀ b ob, s.heap.get? b = some ob → s2.heap.get? b = some ob
  gens : s2.gens = s.gens
  os : s2.os = s.os
  n60 : n ≤ 60
  new : s.heap.objs.size ≤ I
  all : ∀ acc, ItemsOf Pv acc n → ∃ ss, IntsAre acc.toList ss ∧ ss.Perm zs
theorem ints_perm {l l' : List Value} (p : l'.Perm l) : ∀ {vs : List Int}, IntsAre l vs → ∃ vs', IntsAre l' vs' ∧ vs'.Perm vs := by
  induction p with
  | nil => exact fun h => ⟨_, h, List.Perm.refl _⟩
  | cons x p ih =>
    intro vs h
    cases h with
    | cons z t h =>
      obtain ⟨us, u1, u2⟩ := ih h
      exact ⟨z :: us, .cons z t u1, u2.cons z⟩
  | swap x y l =>
    intro vs h
    cases h with
    | cons z t h => cases h with
      | cons z' t' h => exact ⟨_, .cons _ _ (.cons _ _ h), List.Perm.swap _ _ _⟩
  | trans p q ih1 ih2 =>
    intro vs h
    obtain ⟨us, u1, u2⟩ := ih2 h
    obtain ⟨ws, w1, w2⟩ := ih1 u1
    exact ⟨ws, w1, w2.trans u2⟩
theorem st3 : ∀ zs ∈ SUB3, ∀ i : Fin 3, (match ((zs.map slotZ).toArray)[i.val]? with | none => true | some j => decide (SetTable.below (zs.map slotZ).toArray (j + 1) = i.val + 1)) = true := by decide +kernel
theorem bel3 : ∀ zs ∈ SUB3, SetTable.below (zs.map slotZ).toArray 0 = 0 := by decide +kernel
section
variable {P : Program} {w : World} {A : Around} {E : Value → Shared → Prop} {s : Shared} {S : Addr} {zs : List Int}
theorem set_walkI {Q : Value → Shared → Prop} (hh : True) (TS : ISet P w s.heap S zs) (hz : zs.length ≤ 60) (h : ∀ I s2 fp n Pv St, WalkOkI P w s s2 S I zs fp n Pv St → Q (.ref I) s2) : wpAny (model P w) A (pyIter (.ref S)) Q E s := by
  obtain ⟨o, tks, ep, ho, hex, hsub, hl, hd⟩ := TS
  obtain ⟨l3, lf⟩ := sub3_len zs hsub
  have hf : (tab3 (!w.params.followText "set-order") zs).fits (es3 zs tks).size = true := by rw [size3 hl]; exact lf _
  have sz0 := size3 hl
  have hv := nums3 hl
  have ltS : S < s.heap.objs.size := Heap.lt_size ho
  have fin : ∀ acc : Array Value, acc.toList.Perm ((es3 zs tks).toList.map (·.2)) → ∃ ss, IntsAre acc.toList ss ∧ ss.Perm zs := fun acc q => ints_perm q hv
  refine set_iter ho hex hd hf (by omega) (fun b1 b2 b3 ys d' yp => by cases b2) fun c => ?_
  have fps : ∀ b ∈ [s.heap.objs.size, S], b = S ∨ s.heap.objs.size ≤ b := fun b hb => by
    simp at hb
    rcases hb with rfl | rfl
    · exact .inr (Nat.le_refl _)
    · exact .inl rfl
  have lt2 : ∀ x : Obj, ∀ b ∈ [s.heap.objs.size, S], b < (s.heap.push x).objs.size := fun x b hb => by
    simp at hb
    rw [Heap.size_push]
    rcases hb with rfl | rfl
    · exact Nat.lt_succ_self _
    · exact Nat.lt_succ_of_lt ltS
  by_cases bt : w.params.followText "set-order" = true
  · have pp := pick_perm (w.params.setOrder S ep) (es3 zs tks)
    have ps : (pickOrder (w.params.setOrder S ep) (es3 zs tks)).size = (es3 zs tks).size := by rw [← Array.length_toList, pp.length_eq, Array.length_toList]
    refine h _ _ [s.heap.objs.size, S] (es3 zs tks).size _ _ ⟨fun B hB => walkB hB bt (Nat.ne_of_lt ltS) hd hf ps, ⟨Heap.get?_push_size _ rfl, Heap.get?_push_of_some _ ho⟩, fps, lt2 _, fun b ob e => Heap.get?_push_of_some _ e, rfl, rfl, by omega, Nat.le_refl _, fun acc ha => ?_⟩
    have e : acc.toList = (pickOrder (w.params.setOrder S ep) (es3 zs tks)).toList.map (·.2) := by
      refine acc_eq ha (by rw [List.length_map, Array.length_toList, ps]) fun j v ⟨x, e1, e2⟩ => ?_
      rw [List.getElem?_map, Array.getElem?_toList, e1, e2]
      rfl
    refine fin acc ?_
    rw [e]
    exact pp.map _
  · have bf : w.params.followText "set-order" = false := by simpa using bt
    have bs : ∀ i j : Nat, (tab3 (!w.params.followText "set-order") zs).place[i]? = some j → SetTable.below (tab3 (!w.params.followText "set-order") zs).place (j + 1) = i + 1 := fun i j g => by
      have g : ((zs.map slotZ).toArray)[i]? = some j := g
      have li := (Array.getElem?_eq_some_iff.mp g).1
      have := st3 zs hsub ⟨i, by simp at li; omega⟩
      dsimp only at this
      rw [g] at this
      exact of_decide_eq_true this
    refine h _ _ [s.heap.objs.size, S] (es3 zs tks).size _ _ ⟨fun B hB => walkC hB bf (Nat.ne_of_lt ltS) hd hf (by show (!w.params.followText "set-order") = true; rw [bf]; rfl) rfl bs, ⟨⟨0, Heap.get?_push_size _ rfl, bel3 zs hsub⟩, Heap.get?_push_of_some _ ho⟩, fps, lt2 _, fun b ob e => Heap.get?_push_of_some _ e, rfl, rfl, by omega, Nat.le_refl _, fun acc ha => ?_⟩
    have e : acc.toList = (es3 zs tks).toList.map (·.2) := by
      refine acc_eq ha (by rw [List.length_map, Array.length_toList]) fun j v ⟨x, e1, e2⟩ => ?_
      rw [List.getElem?_map, Array.getElem?_toList, e1, e2]
      rfl
    refine fin acc ?_
    rw [e]
theorem ISet.type {h : Heap} (T : ISet P w h S zs) : ∃ o, h.get? S = some o ∧ o.cls = .type "set" := let ⟨o, _, _, ho, hx, _⟩ := T; ⟨o, ho, hx.1⟩
theorem collect_setI {Q : List Value → Shared → Prop} (hh : A.handled = none) (T : ISet P w s.heap S zs) (hz : zs.length ≤ 60)
    (h : ∀ s' vs ss, IntsAre vs ss → ss.Perm zs → s.heap.objs.size < s'.heap.objs.size → (∀ b ob, s.heap.get? b = some ob → s'.heap.get? b = some ob) → s'.gens = s.gens → s'.os = s.os → Q vs s') : wpAny (model P w) A (collect (.ref S)) Q E s := by
  obtain ⟨oS, hoS, hcS⟩ := T.type
  have ltS : S < s.heap.objs.size := Heap.lt_size hoS
  have neL : s.heap.objs.size ≠ S := Nat.ne_of_gt ltS
  unfold collect
  refine wpAny_bind (wpAny_runValue (codeAny_builtin PySem.F.entry_proto_collect ?_))
  rw [Around.under_plainId PySem.F.plain_proto_collect _]
  show wpAny _ A.in1 (newList [] >>= fun l => again (.builtin "list.__iadd__" ⟨[l, .ref S], []⟩)) _ _ s
  refine wpAny_bind (wpAny_newObj_type ?_)
  refine wpAny_pure ⟨plainId_quiet PySem.F.plain_list_iadd _, codeAny_builtin PySem.F.entry_list_iadd ?_⟩
  rw [Around.under_plainId PySem.F.plain_list_iadd _]
  obtain ⟨h1, eh1⟩ : ∃ h1, h1 = s.heap.push { cls := .type "list", data := .seq ([] : List Value).toArray } := ⟨_, rfl⟩
  rw [← eh1]
  have k1 : ∀ b ob, s.heap.get? b = some ob → h1.get? b = some ob := fun b ob e => by rw [eh1]; exact Heap.get?_push_of_some _ e
  have hL1 : h1.get? s.heap.objs.size = some { cls := .type "list", data := .seq ([] : List Value).toArray } := by rw [eh1]; exact Heap.get?_push_size _ rfl
  have sz1 : h1.objs.size = s.heap.objs.size + 1 := by rw [eh1, Heap.size_push]
  have T1 : ISet P w h1 S zs := T.at fun ob e => k1 S ob e
  have hT1 : Shared.TypeIs { s with heap := h1 } (.ref S) "set" := ⟨oS, k1 S oS hoS, hcS⟩
  show wpAny _ A.in1 (Builtin.List.listExtendWith (.ref s.heap.objs.size) (.ref S) (.ref s.heap.objs.size)) _ _ _
  unfold Builtin.List.listExtendWith
  refine wpAny_bind (wpAny_typeOf hT1 ?_)
  have c1 : Builtin.List.listSameRef (.ref s.heap.objs.size) (.ref S) = false := by simp [Builtin.List.listSameRef, neL]
  rw [c1, if_neg (by decide)]
  refine wpAny_bind (set_walkI (s := { s with heap := h1 }) True.intro T1 hz fun I s2 fp n Pv St W => ?_)
  have hT2 : s2.TypeIs (.ref S) "set" := ⟨oS, W.ext S oS (k1 S oS hoS), hcS⟩
  refine wpAny_bind (wpAny_holding (hint_set hT2 ?_))
  rw [if_pos (by decide +kernel)]
  refine wpAny_bind (wpAny_rule ?_)
  have hL2 : s2.heap.get? s.heap.objs.size = some { cls := .type "list", data := .seq ([] : List Value).toArray } := W.ext _ _ hL1
  refine wpAny_bind ?_
  show wpAny _ A.in1 (updateSeq s.heap.objs.size (·.push .none) >>= fun _ => updateSeq s.heap.objs.size (·.pop)) _ _ _
  refine wpAny_bind (wpAny_updateSeq hL2 rfl ?_)
  have hL3 := Heap.get?_update_self (Obj.mapSeq (·.push Value.none)) hL2 rfl
  refine wpAny_updateSeq hL3 rfl ?_
  have hL4 := Heap.get?_update_self (Obj.mapSeq (·.pop)) hL3 rfl
  have nf : s.heap.objs.size ∉ fp := fun q => by
    rcases W.fps _ q with e | e
    · exact neL e
    · have e : h1.objs.size ≤ s.heap.objs.size := e
      rw [sz1] at e
      exact absurd e (Nat.not_succ_le_self _)
  have oth : ∀ b ob, b ≠ s.heap.objs.size → s2.heap.get? b = some ob → ((s2.heap.update s.heap.objs.size (Obj.mapSeq (·.push Value.none))).update s.heap.objs.size (Obj.mapSeq (·.pop))).get? b = some ob := fun b ob hb e => (Heap.get?_update_other _ _ (Ne.symm hb)).trans ((Heap.get?_update_other _ _ (Ne.symm hb)).trans e)
  have WS := (W.walk A.in1 (by simp [hh])).toS
  have n1 : n ≤ sizeLine := Nat.le_trans W.n60 (by rw [sizeLine_eq]; decide)
  have st2 := (W.walk A.in1 (by simp [hh])).frame 0 s2.heap _ W.st fun b hb ob e => oth b ob (by rintro rfl; exact nf hb) e
  refine wpAny_pure ⟨plainId_quiet PySem.F.plain_extend_loop _, codeAny_extend_loopS WS n1 _ nf _ n 0 _ _ _ rfl (Nat.zero_le _) st2 hL4 (ItemsOf.nil Pv) fun s' acc' c' hm hS' hacc => ?_⟩
  show wpAny _ A (load s.heap.objs.size >>= _) _ _ s'
  refine wpAny_bind (wpAny_load hS' ?_)
  obtain ⟨ss, q1, q2⟩ := W.all acc' hacc
  refine wpAny_pure (h s' acc'.toList ss q1 q2 (Heap.lt_size hS') (fun b ob e => hm.heap b ob ?_ (oth b ob ?_ (W.ext b ob (k1 b ob e)))) (hm.gens.trans W.gens) (hm.os.trans W.os))
  · intro q
    rcases List.mem_cons.mp q with q | q
    · exact absurd (Heap.lt_size e) (by rw [q]; exact Nat.lt_irrefl _)
    · have q : b = I := by simpa using q
      have l1 := Heap.lt_size e
      have l2 : h1.objs.size ≤ I := W.new
      rw [sz1] at l2
      rw [q] at l1
      exact absurd (Nat.lt_of_lt_of_le l1 (Nat.le_trans (Nat.le_succ _) l2)) (Nat.lt_irrefl _)
  · intro q
    exact absurd (Heap.lt_size e) (by rw [q]; exact Nat.lt_irrefl _)
theorem sorted_setI {Q : Value → Shared → Prop} (hh : A.handled = none) (T : ISet P w s.heap S zs) (hz : zs.length ≤ 60)
    (h : ∀ (s' : Shared) (vs : List Value) (ss : List Int) (e : Nat) (L : Addr), IntsAre vs ss → ss.Perm zs → ss.Pairwise (· ≤ ·) → s.heap.objs.size ≤ L → s'.heap.get? L = some (seqObj "list" vs.toArray e) → (∀ b ob, s.heap.get? b = some ob → s'.heap.get? b = some ob) → s'.gens = s.gens → s'.os = s.os → Q (.ref L) s') :
    wpAny (model P w) A (call (.builtin "sorted") [.ref S]) Q E s := by
  refine Calls.call_function_entry kind_sorted plain_sorted entry_sorted (args_sorted1 _) ?_
  unfold Builtin.«sorted»
  refine wpAny_bind (m := checkCount "sorted" 1 1 _) (wpAny_pure ?_)
  refine wpAny_bind (collect_setI (by simp [hh]) T hz fun s1 vs ss hS hp lt1 k1 g1 o1 => ?_)
  have vl : vs.length < 64 := by
    have q1 := congrArg List.length hS.nums
    have q2 := hp.length_eq
    simp at q1
    omega
  refine wpAny_bind (wpAny_newList ?_)
  obtain ⟨h2, eh2⟩ : ∃ h2, h2 = s1.heap.push (seqObj "list" vs.toArray 0) := ⟨_, rfl⟩
  have hoL : h2.get? s1.heap.objs.size = some (seqObj "list" vs.toArray 0) := by rw [eh2]; exact Heap.get?_push_size _ rfl
  show wpAny _ _ _ _ _ { s1 with heap := s1.heap.push (seqObj "list" vs.toArray 0) }
  rw [← eh2]
  refine wpAny_bind (wpAny_holding (wpAny_call_entry slot_list_sort ⟨_, hoL, rfl⟩ entry_list_sort (list_sort_tree (s := { s1 with heap := h2 }) hoL hS vl fun out ss' b1 b2 b3 => ⟨_, rfl, ?_⟩) (args_list_sort _)))
  obtain ⟨e, he⟩ := sortedHeap_at (h := h2) (a := s1.heap.objs.size) (vs := vs) (n := 0) (out := out) hoL
  refine wpAny_pure ⟨_, rfl, h _ _ ss' e s1.heap.objs.size b1 (b2.trans hp) b3 (Nat.le_of_lt lt1) (by rw [Array.toArray_toList]; exact he) (fun b ob hb => ?_) g1 o1⟩
  have lb : b < s1.heap.objs.size := Heap.lt_size (k1 b ob hb)
  show (sortedHeap h2 _ _ _).get? b = _
  rw [sortedHeap_old (Nat.ne_of_lt lb) (by rw [eh2, Heap.size_push]; exact Nat.lt_succ_of_lt lb), eh2]
  exact Heap.get?_push_of_some _ (k1 b ob hb)
end
end DL
set_option Elab.async false
set_option linter.all false
set_option maxRecDepth 100000
set_option maxHeartbeats 4000000
namespace DL
open PySem PySem.Spec PyProof.Rows L2
abbrev emS (elt : Expr) : Addr → Env → Sem Unit := fun D env => do
  let v ← eval elt env
  standAt elt.pos
  let _ ← call (.builtin "set.add") [.ref D, v]
theorem ce_set {elt tg iter : Expr} {ifs : List Expr} {scope : Scope} {pos : Pos} : CompE (.SetComp elt [⟨tg, iter, ifs, 0⟩] scope pos) tg iter ifs (emS elt) := ⟨.inl ⟨_, _, _, _, rfl⟩, rfl, fun it D env => rfl⟩
def ARs (P : Program) (w : World) (D : Addr) (_ : Addr → Prop) (_ : Mu) (_ : Hp) (zs : List Int) (o : HO) : Prop := o = .ext fun h => ISet P w h D zs
theorem ars_ok {P : Program} {w : World} {K : PySem.W.Frag} (D : Addr) : AccR K (ARs P w D) := ⟨fun _ h => h, fun h => by cases h; exact ⟨(fun _ e => nomatch e), (fun _ _ e => nomatch e)⟩⟩
theorem is_obj {P : Program} {w : World} {H : Hp} {h : Heap} {a : Addr} {zs : List Int} (T : ISet P w h a zs) : ObjOk P w H h a (.ext fun h => ISet P w h a zs) :=
  ⟨T, (let ⟨o, _, _, e, _⟩ := T; ⟨o, e⟩), fun h1 h2 q k => q.at fun o e => k o e⟩
def signP (x : D) (z : Int) : Prop := x = .dat (.int z) ∧ z ∈ ([0, 1, -1] : List Int)
section
variable {X : Cx} {elt tg iter : Expr} {ifs : List Expr} {scope : Scope} {NC : List Str} {fi : DI} {g : DG} {t : DT} {f : DE} {pos : Pos}
theorem new_setS {Q : Value → Shared → Prop} {s : Shared} (h : Q (.ref s.heap.objs.size) { s with heap := s.heap.push (freshS X.w) }) : wpAny (model X.prog X.w) X.A (newSet (.type "set")) Q X.xe s := by
  unfold newSet setsByText
  refine wpAny_bind (wpAny_bind (wpAny_askSetting (wpAny_pure ?_)))
  dsimp only
  simp only [newObj]
  exact wpAny_bind (wpAny_alloc (wpAny_pure h))
theorem pem_set {D : Addr} (he : PE X elt (LE X.K f)) (hx : X.xe = fun _ _ => False) : PEm X D (emS elt) (ARs X.prog X.w D) (fun d m zs Q => f d m fun x m1 => ∃ z, signP x z ∧ Q (ins3 zs z) m1) := by
  intro pins s σ H Z d m zs o Q I ok rs hD ha q
  cases ha
  have he1 := he pins s σ H (fun v H1 => ∃ m1 z, v = .int z ∧ z ∈ ([0, 1, -1] : List Int) ∧ Q (ins3 zs z) m1 ∧ Ext X.K (rsv Z D) m H m1 H1 ∧ Ok X.K (rsv Z D) m1 H1) I
    ⟨rsv Z D, d, m, (fun x m1 => ∃ z, signP x z ∧ Q (ins3 zs z) m1), ok, rs, q, fun x m1 v H1 h1 e1 ok1 rd => by
      obtain ⟨z, ⟨e, hz⟩, q1⟩ := h1
      subst e
      exact ⟨m1, z, rd.int, hz, q1, e1, ok1⟩⟩
  rw [hx] at he1
  refine wpAny_bind (thn he1 fun u s1 hq => ?_)
  obtain ⟨v, H1, I1, rv, m1, z, ev, hz, q1, e1, ok1⟩ := hq
  subst ev
  obtain ⟨tk, rfl⟩ := rv
  have hD1 : H1 D = some (.ext fun h => ISet X.prog X.w h D zs) := (e1.z _ (.inr rfl)).trans hD
  have T : ISet X.prog X.w s1.heap D zs := (I1.hok _ _ hD1).1
  refine wpAny_bind (wpAny_standAt (wpAny_bind (call_add3 T hz fun h' tk' sb T' => wpAny_pure ?_)))
  refine ⟨ins3 zs z, m1, H1, _, q1, e1, ok1, rfl, ?_⟩
  have I2 := I1.write (t' := tk') (h' := h') (x := D) (e := D) (o := .ext fun h => ISet X.prog X.w h D (ins3 zs z)) (by rw [hD1]; exact True.intro) (.inl rfl) (fun b u hb e => (sb.2 b hb).trans e) (let ⟨o, _, _, e, _⟩ := T'; ⟨o, e⟩) (is_obj T')
  exact I2
def srt3 (zs : List Int) : List Int := [-1, 0, 1].filter fun z => decide (z ∈ zs)
theorem srt_perm : ∀ zs ∈ SUB3, (srt3 zs).Perm zs ∧ (srt3 zs).Pairwise (· ≤ ·) := by
  intro zs h
  have : ∀ zs ∈ SUB3, (srt3 zs).isPerm zs = true ∧ (srt3 zs).Pairwise (· ≤ ·) := by decide +kernel
  obtain ⟨a, b⟩ := this zs h
  exact ⟨List.isPerm_iff.mp a, b⟩
theorem srt_is {ys zs : List Int} (h : zs ∈ SUB3) (p : ys.Perm zs) (s : ys.Pairwise (· ≤ ·)) : ys = srt3 zs := by
  obtain ⟨q, r⟩ := srt_perm zs h
  exact (p.trans q.symm).eq_of_pairwise (fun a b _ _ h1 h2 => Int.le_antisymm h1 h2) s r
theorem vals_ints : ∀ {vs : List Value} {ys : List Int}, IntsAre vs ys → Vals (ys.map V.int) vs
  | _, _, .nil => .nil
  | _, _, .cons z t h => .cons ⟨t, rfl⟩ (vals_ints h)
theorem ints_rps {K : PySem.W.Frag} {Z : Addr → Prop} {m : Mu} {H : Hp} : ∀ ys : List Int, RPs K Z m H (ys.map .int) (ys.map V.int)
  | [] => rfl
  | y :: ys => ⟨_, _, rfl, by simp only [RP], ints_rps ys⟩
@[simp] def dSortSC (src : List (Option Nat)) (fi : DI) (g : DG) (t : DT) (f : DE) : DE := fun d m Q => fi d m fun xs m1 => loopG g t (fun d m zs Q => f d m fun x m1 => ∃ z, signP x z ∧ Q (ins3 zs z) m1) xs [] (srcOf src d) m1 fun zs m2 => Q (.dat (.list ((srt3 zs).map .int))) m2
theorem le_sortSC {p pos2 : Pos} (src : List (Option Nat)) (hc : X.calm = true) (hg0 : Gl X "sorted") (hm0 : X.mg "sorted" = none) (hi : PI X tg iter (LI X.K fi))
    (hg : ∀ cl C s2 H2 pins fp, PG (cyOf X scope cl C NC s2 H2 pins fp) tg (LG X.K g)) (ht : ∀ cl C s2 H2 pins fp, PF (cyOf X scope cl C NC s2 H2 pins fp) ifs (LT X.K t)) (he : ∀ cl C s2 H2 pins fp, PE (cyOf X scope cl C NC s2 H2 pins fp) elt (LE X.K f))
    (hkind : scope.kind = .function) (hcell : ∀ y ∈ scope.names, y.2 ≠ .cell) (hnames : ∀ y ∈ scope.names, y.2 = .local → scope.names.lookup y.1 = some .local)
    (hfree : ∀ x, (x, NameKind.free) ∈ scope.names → X.env.kindOf x = some .cell ∨ X.env.kindOf x = some .free) (hsrc : srcChk X scope NC src)
    (hs : ∀ x, foldedSetIterable iter X.env x = pure x := by intro _; rfl)
    (hs2 : starEach [.SetComp elt [⟨tg, iter, ifs, 0⟩] scope pos2] X.env = [(false, eval (.SetComp elt [⟨tg, iter, ifs, 0⟩] scope pos2) X.env)] := by rfl) :
    PE X (.Call (.Name "sorted" p) [.SetComp elt [⟨tg, iter, ifs, 0⟩] scope pos2] [] pos) (LE X.K (dSortSC src fi g t f)) := by
  intro pins s σ H Q I h
  obtain ⟨Z, d, m, R, ok, rs, h, k⟩ := h
  refine Call_ (ld_blt I hg0 hm0 boot_sorted_ (PyProof.Rows.callWith_builtin1 ?_ hs2 rfl))
  rw [hs2]
  show wpAny _ _ (spliced ((false, eval (.SetComp elt [⟨tg, iter, ifs, 0⟩] scope pos2) X.env) :: [])) _ _ s
  refine Calls.spliced_cons ?_
  rw [arm_eval_SetComp]
  refine gc_core (AR := ARs X.prog X.w) (o0 := fun D => .ext fun h => ISet X.prog X.w h D []) (a0 := []) ce_set (fun D => ars_ok D) (fun {Q s} q => new_setS q) rfl (fun H h a _ e => is_obj (is_fresh e)) (fun D Z m H => rfl) src hc hi hg ht (fun cl C s2 H2 pins fp D => pem_set (he cl C s2 H2 pins fp) rfl) hkind hcell hnames hfree hsrc hs (use := none) (RL := fun zs m2 => R (.dat (.list ((srt3 zs).map .int))) m2) I ok rs h ?_
  intro s5 C D H' m' zs o q hDo mD e ok' ar _ _ ⟨mm, hns⟩ I5 off
  cases ar
  refine ⟨mm, hns, fun h' hs' => ?_⟩
  have I6 := off.inv I5 hs'
  have T : ISet X.prog X.w h' D zs := (I6.hok _ _ hDo).1
  have hsub : zs ∈ SUB3 := let ⟨_, _, _, _, _, q, _⟩ := T; q
  refine Calls.spliced_nil ?_
  refine sorted_setI (s := { s5 with heap := h' }) (I6.ok.hd hc) T (by have := (sub3_len zs hsub).1; omega) fun s' vs' ys e' L hS hp hs'' lt hL k2 g2 o2 => ?_
  obtain rfl := srt_is hsub hp hs''
  have hv := vals_ints hS
  have hf : H' L = none := I6.hok.fresh lt
  have I2 := I6.laid (t' := s'.toks) (h' := s'.heap) (a := L) (o := .lst ((srt3 zs).map V.int)) k2 lt ⟨by rw [List.length_map, sizeLine_eq]; have := hp.length_eq; have := (sub3_len zs hsub).1; omega, vs', e', hv, hL⟩
  have I3 : Inv X pins σ (upd H' L (.lst ((srt3 zs).map V.int))) s' := inv_like I2 rfl g2 o2
  have sm : Same H' (upd H' L (.lst ((srt3 zs).map V.int))) := same_new hf
  refine ⟨.ref L, _, I3, rfl, k _ m' _ _ q (e.trans (ok'.ext sm)) (ok'.grow sm) ?_⟩
  simp only [RD, RP]
  exact ⟨L, _, rfl, ok_none ok' hf, .inl (.inl upd_same), ints_rps _⟩
theorem le_sortSCB {p pos2 : Pos} (NC : List Str) (src : List (Option Nat)) (hc : X.calm = true) (hg0 : Gl X "sorted") (hm0 : X.mg "sorted" = none) (hi : PI X tg iter (LI X.K fi))
    (hg : ∀ cl C s2 H2 pins fp, PG (cyOf X scope cl C NC s2 H2 pins fp) tg (LG X.K g)) (ht : ∀ cl C s2 H2 pins fp, PF (cyOf X scope cl C NC s2 H2 pins fp) ifs (LT X.K t)) (he : ∀ cl C s2 H2 pins fp, PE (cyOf X scope cl C NC s2 H2 pins fp) elt (LE X.K f))
    (hkind : scope.kind = .function := by rfl) (hB : chkB scope X.env = true := by rfl) (hS : chkS X.N scope X.env NC src = true := by rfl)
    (hs : ∀ x, foldedSetIterable iter X.env x = pure x := by intro _; rfl)
    (hs2 : starEach [.SetComp elt [⟨tg, iter, ifs, 0⟩] scope pos2] X.env = [(false, eval (.SetComp elt [⟨tg, iter, ifs, 0⟩] scope pos2) X.env)] := by rfl) :
    PE X (.Call (.Name "sorted" p) [.SetComp elt [⟨tg, iter, ifs, 0⟩] scope pos2] [] pos) (LE X.K (dSortSC src fi g t f)) :=
  le_sortSC (NC := NC) src hc hg0 hm0 hi hg ht he hkind (chkB.ok hB).1 (chkB.ok hB).2.1 (chkB.ok hB).2.2 (chkS.ok hS) hs hs2
end
end DL
set_option Elab.async false
set_option linter.all false
set_option maxRecDepth 100000
set_option maxHeartbeats 4000000
namespace DL
open PySem PySem.Spec PyProof.Rows L2
section
variable {prog : Program} {w : World} {A : Around} {E : Value → Shared → Prop} {s : Shared}
end
section
variable {X : Cx} {a : Expr} {f : DE} {pos p2 p3 : Pos}
theorem Vals.rel : ∀ {xs : List V} {us : List Value}, Vals xs us → xs.length = us.length ∧ ∀ (i : Nat) x u, xs[i]? = some x → us[i]? = some u → RelV x u
  | _, _, .nil => ⟨rfl, fun i x u e => by simp at e⟩
  | _, _, .cons r t => ⟨by simp [(Vals.rel t).1], fun i x u e1 e2 => by
    cases i with
    | zero => cases e1; cases e2; exact r
    | succ i => exact (Vals.rel t).2 i x u (by simpa using e1) (by simpa using e2)⟩
theorem RPs.rel {K : PySem.W.Frag} {Z : Addr → Prop} {m : Mu} {H : Hp} : ∀ {xs : List PyData} {vs : List V}, RPs K Z m H xs vs → xs.length = vs.length ∧ ∀ (i : Nat) x u, xs[i]? = some x → vs[i]? = some u → RP K Z m H x u
  | [], vs, h => by
    cases (show vs = [] from h)
    exact ⟨rfl, fun i x u e => by simp at e⟩
  | p :: ps, vs, h => by
    obtain ⟨v, r, rfl, h1, h2⟩ := h
    obtain ⟨q1, q2⟩ := RPs.rel h2
    refine ⟨by simp [q1], fun i x u e1 e2 => ?_⟩
    cases i with
    | zero => cases e1; cases e2; exact h1
    | succ i => exact q2 i x u (by simpa using e1) (by simpa using e2)
end
end DL
set_option Elab.async false
set_option linter.all false
set_option maxRecDepth 100000
set_option maxHeartbeats 4000000
namespace DL
open PySem PySem.Spec PyProof.Rows L2
section
variable {prog : Program} {w : World} {A : Around} {E : Value → Shared → Prop} {s : Shared}
end
section
variable {X : Cx} {a b : Expr} {elts : List Expr} {j : Nat} {f g : DE} {pos p p2 : Pos}
end
end DL
set_option Elab.async false
set_option linter.all false
set_option maxRecDepth 100000
set_option maxHeartbeats 4000000
namespace DL
open PySem PySem.Spec PyProof.Rows L2
section
variable {X : Cx}
end
end DL
set_option Elab.async false
set_option linter.all false
set_option maxRecDepth 100000
set_option maxHeartbeats 4000000
namespace DL
open PySem PySem.Spec PyProof.Rows L2
section
variable {X : Cx} {ek ev tg iter : Expr} {ifs : List Expr} {scope : Scope} {NC : List Str} {fi : DI} {g : DG} {t : DT} {fk fv : DE} {pos : Pos}
end
end DL
set_option Elab.async false
set_option linter.all false
set_option maxRecDepth 100000
set_option maxHeartbeats 4000000
namespace DL
open PySem PySem.Spec PyProof.Rows L2
def fdk (kvs : List (PyData × PyData)) : PyData := .dict ((mkU, .none) :: kvs)
mutual
@[simp] def keq : PyData → PyData → Bool
  | .int i, .int j => decide (i = j)
  | .str x, .str y => decide (x = y)
  | .tuple xs, .tuple ys => keqs xs ys
  | _, _ => false
@[simp] def keqs : List PyData → List PyData → Bool
  | [], [] => true
  | x :: xs, y :: ys => keq x y && keqs xs ys
  | _, _ => false
end
mutual
theorem keq_eq : ∀ (x y : PyData), keq x y = true → x = y
  | .int i, y, h => by cases y <;> simp_all
  | .str i, y, h => by cases y <;> simp_all
  | .tuple xs, y, h => by
    cases y with
    | tuple ys => simp only [keq] at h; rw [keqs_eq xs ys h]
    | _ => simp [keq] at h
  | .none, y, h | .bool _, y, h | .list _, y, h | .dict _, y, h => by simp [keq] at h
theorem keqs_eq : ∀ (xs ys : List PyData), keqs xs ys = true → xs = ys
  | [], ys, h => by cases ys <;> simp_all
  | x :: xs, ys, h => by
    cases ys with
    | nil => simp [keqs] at h
    | cons y ys => simp only [keqs, Bool.and_eq_true] at h; rw [keq_eq x y h.1, keqs_eq xs ys h.2]
end
theorem keq_key (a b : Key) : keq (keyPy a) (keyPy b) = decide (a = b) := by
  cases a <;> cases b <;> simp
theorem keqs_key : ∀ a b : List Key, keqs (a.map keyPy) (b.map keyPy) = decide (a = b)
  | [], [] => rfl
  | [], _ :: _ => rfl
  | _ :: _, [] => rfl
  | x :: xs, y :: ys => by
    simp only [List.map_cons, keqs, keq_key, keqs_key xs ys]
    simp
mutual
theorem keq_self : ∀ p : PyData, L2.isK p = true → keq p p = true
  | .int _, _ => by simp
  | .str _, _ => by simp
  | .tuple xs, h => by simp only [keq]; exact keqs_self xs h
  | .none, h | .bool _, h | .list _, h | .dict _, h => by simp [L2.isK] at h
theorem keqs_self : ∀ ps : List PyData, L2.isKs ps = true → keqs ps ps = true
  | [], _ => by simp
  | p :: ps, h => by
    simp only [L2.isKs, Bool.and_eq_true] at h
    simp only [keqs, keq_self p h.1, keqs_self ps h.2, Bool.and_self]
end
def valF {β : Type} (kvs : List (PyData × β)) (k : PyData) : Option β := (kvs.find? fun kv => keq kv.1 k).map (·.2)
theorem valF_cons {β : Type} {p : PyData × β} {r : List (PyData × β)} {k : PyData} : valF (p :: r) k = if keq p.1 k = true then some p.2 else valF r k := by
  unfold valF
  rw [List.find?_cons]
  cases keq p.1 k <;> rfl
section
variable {K : PySem.W.Frag} {Z : Addr → Prop} {m : Mu} {H : Hp}
theorem RPd.val {k p : PyData} : ∀ {kvs : List (PyData × PyData)} {vs : List (PyData × V)}, RPd K Z m H kvs vs → valF kvs k = some p → ∃ v, valF vs k = some v ∧ RP K Z m H p v
  | [], _, _, e => nomatch e
  | (j, q) :: xs, _, h, e => by
    simp only [RPd] at h
    obtain ⟨v, r, rfl, h2, h3⟩ := h
    rw [valF_cons] at e ⊢
    split at e
    · rename_i c
      rw [if_pos c]
      cases e
      exact ⟨v, rfl, h2⟩
    · rename_i c
      rw [if_neg c]
      exact RPd.val h3 e
theorem RPd.keys : ∀ {kvs : List (PyData × PyData)} {vs : List (PyData × V)}, RPd K Z m H kvs vs → vs.map (·.1) = kvs.map (·.1)
  | [], _, h => by simp only [RPd] at h; subst h; rfl
  | (j, q) :: xs, _, h => by
    simp only [RPd] at h
    obtain ⟨v, r, rfl, h2, h3⟩ := h
    rw [List.map_cons, List.map_cons, RPd.keys h3]
theorem fdk_out {kvs : List (PyData × PyData)} {v : V} (h : RP K Z m H (fdk kvs) v) : ∃ a o u vs, v = .ref a ∧ H a = some (.frz o u) ∧ Ents K u vs ∧ RPd K Z m H kvs vs := by
  simp only [fdk, RP, RPd] at h
  obtain ⟨a, o, u, vs, h1, h2, h3, v', r, h4, _, h6⟩ := h
  cases h4
  exact ⟨a, o, u, vs, h1, h2, h3, h6⟩
theorem fdk_in {kvs : List (PyData × PyData)} {a : Addr} {o : Obj} {u : HO} {vs : List (PyData × V)} (h2 : H a = some (.frz o u)) (h3 : Ents K u vs) (h : RPd K Z m H kvs vs) : RP K Z m H (fdk kvs) (.ref a) := by
  simp only [fdk, RP, RPd]
  exact ⟨a, o, u, vs, rfl, h2, h3, .non, vs, rfl, rfl, h⟩
theorem RKV.rpd {κ : Type} (f : κ → PyData) : ∀ {kvs : List (κ × PyData)} {vs : List (κ × V)}, RKV K Z m H kvs vs → RPd K Z m H (kvs.map fun kv => (f kv.1, kv.2)) (vs.map fun kv => (f kv.1, kv.2))
  | [], _, h => by cases (show _ = [] from h); simp [RPd]
  | (k, p) :: xs, _, ⟨v, r, h1, h2, h3⟩ => by
    subst h1
    simp only [List.map_cons, RPd]
    exact ⟨v, _, rfl, h2, h3.rpd f⟩
theorem valF_k : ∀ (ws : List (Key × V)) (k : PyData) (v : V), valF (ws.map fun kv => (keyPy kv.1, kv.2)) k = some v → ∃ kk, k = keyPy kk ∧ valV ws kk = some v
  | [], _, _, e => nomatch e
  | p :: ws, k, v, e => by
    rw [List.map_cons, valF_cons] at e
    split at e
    · rename_i c
      cases e
      exact ⟨p.1, (keq_eq _ _ c).symm, valV_pos rfl⟩
    · rename_i c
      obtain ⟨kk, rfl, h⟩ := valF_k ws k v e
      refine ⟨kk, rfl, ?_⟩
      rw [valV_neg (fun z => c (by rw [← z]; show keq (keyPy p.1) (keyPy p.1) = true; rw [keq_key]; simp))]
      exact h
theorem valF_t : ∀ (ws : List (List Key × V)) (k : PyData) (v : V), valF (ws.map fun kv => (PyData.tuple (kv.1.map keyPy), kv.2)) k = some v → ∃ kk, k = .tuple (kk.map keyPy) ∧ valV ws kk = some v
  | [], _, _, e => nomatch e
  | p :: ws, k, v, e => by
    rw [List.map_cons, valF_cons] at e
    split at e
    · rename_i c
      cases e
      exact ⟨p.1, (keq_eq _ _ c).symm, valV_pos rfl⟩
    · rename_i c
      obtain ⟨kk, rfl, h⟩ := valF_t ws k v e
      refine ⟨kk, rfl, ?_⟩
      rw [valV_neg (fun z => c (by rw [← z]; simp [keqs_key]))]
      exact h
theorem valF_n : ∀ (ws : List (List PyData × V)) (k : PyData) (v : V), (∀ p ∈ ws, L2.isKs p.1 = true) → valF (ws.map fun kv => (PyData.tuple kv.1, kv.2)) k = some v → ∃ kk, k = .tuple kk ∧ L2.isKs kk = true ∧ (∃ p ∈ ws, p.1 = kk) ∧ valV ws kk = some v
  | [], _, _, _, e => nomatch e
  | p :: ws, k, v, a, e => by
    rw [List.map_cons, valF_cons] at e
    split at e
    · rename_i c
      cases e
      exact ⟨p.1, (keq_eq _ _ c).symm, a p List.mem_cons_self, ⟨p, List.mem_cons_self, rfl⟩, valV_pos rfl⟩
    · rename_i c
      obtain ⟨kk, rfl, hk, ⟨q, hq, eq⟩, h⟩ := valF_n ws k v (fun p hp => a p (List.mem_cons_of_mem _ hp)) e
      refine ⟨kk, rfl, hk, ⟨q, List.mem_cons_of_mem _ hq, eq⟩, ?_⟩
      rw [valV_neg (fun z => c (by rw [← z]; simp only [keq]; exact keqs_self _ (a p List.mem_cons_self)))]
      exact h
end
section
variable {X : Cx} {pins : List (Addr × Obj)} {σ : L2.St} {H : Hp} {s : Shared} {Z : Addr → Prop} {m : Mu}
theorem rp_key {K : PySem.W.Frag} {k : Key} {y : V} (h : RP K Z m H (keyPy k) y) : y = kV k := by
  cases k <;> (simp only [keyPy, RP] at h; exact h)
theorem rps_key_inv {K : PySem.W.Frag} : ∀ {ks : List Key} {vs : List V}, RPs K Z m H (ks.map keyPy) vs → vs = ks.map kV
  | [], _, h => by simpa [RPs] using h
  | k :: ks, _, h => by
    simp only [List.map_cons, RPs] at h
    obtain ⟨v, r, rfl, h1, h2⟩ := h
    rw [rp_key h1, rps_key_inv h2]
    rfl
theorem frz_ok {a : Addr} {o : Obj} {u : HO} (I : Inv X pins σ H s) (h : H a = some (.frz o u)) : s.heap.get? a = some o ∧ ObjOk X.prog X.w H s.heap a u := (show ObjOk X.prog X.w H s.heap a (.frz o u) from I.hok a _ h)
theorem dn_rd {a : Addr} {o : Obj} {kvs : List (List PyData × V)} (I : Inv X pins σ H s) (e : H a = some (.frz o (.dN X.K kvs))) : (∀ p ∈ kvs, L2.isKs p.1 = true ∧ PyData.depthAll p.1 ≤ 6) ∧ (a == sysModules) = false ∧ ∃ xs, KN X.K H kvs xs ∧ s.heap.DictOfH (nestKind X.prog X.w) a xs := by
  obtain ⟨z, y, xs, r, o, es, ep, h1, h2, h3, h4, h5⟩ := (show ObjOk X.prog X.w H s.heap a (.dN X.K kvs) from (frz_ok I e).2)
  refine ⟨?_, y, xs, r, o, es, ep, h1, h2, h3, h4, fun x hx => ?_, h5⟩
  · have all : ∀ {l : List (List PyData × V)} {m : List (List PyData × Addr × Value)}, KN X.K H l m → ∀ p ∈ l, L2.isKs p.1 = true ∧ PyData.depthAll p.1 ≤ 6 := by
      intro l m q
      induction q with
      | nil => intro x hx; exact nomatch hx
      | @cons p q ps qs hq t ih =>
        intro x hx
        rcases List.mem_cons.mp hx with e | hx
        · subst e; exact ⟨hq.2.1.1, hq.2.1.2.1⟩
        · exact ih x hx
    exact all r
  · have all : ∀ {l : List (List PyData × V)} {m : List (List PyData × Addr × Value)}, KN X.K H l m → ∀ x ∈ m, (nestKind X.prog X.w).is s.heap x.1 x.2.1 := by
      intro l m q
      induction q with
      | nil => intro x hx; exact nomatch hx
      | @cons p q ps qs hq t ih =>
        intro x hx
        rcases List.mem_cons.mp hx with e | hx
        · subst e
          exact nkey_of I (by rw [← hq.1]; exact hq.2.1)
        · exact ih x hx
    exact all r x hx
theorem fz_get {a : Addr} {o : Obj} {u : HO} {vs : List (PyData × V)} {k : PyData} {v y : V} {iv : Value} {Q : Value → Shared → Prop} (hu : X.A.units + 100 < cLine) (I : Inv X pins σ H s) (h : H a = some (.frz o u)) (e : Ents X.K u vs) (hv : valF vs k = some v) (rk : RP X.K Z m H k y) (ry : RelV y iv)
    (q : ∀ w' s', Inv X pins σ H s' → RelV v w' → Q w' s') : s.TypeIs (.ref a) "dict" ∧ wpAny (model X.prog X.w) X.A (getItem (.ref a) iv) Q X.xe s := by
  cases u with
  | dK ws =>
    cases (show vs = _ from e)
    obtain ⟨kk, rfl, hw⟩ := valF_k ws k v hv
    cases rp_key rk
    have g : DGet H a (kV kk) (some v) := .inl ⟨ws, kk, .inr ⟨o, h⟩, rfl, hw.symm⟩
    exact ⟨dict_typeIs I g, d_getItem (by omega) I g ry q⟩
  | dT ws =>
    cases (show vs = _ from e)
    obtain ⟨kk, rfl, hw⟩ := valF_t ws k v hv
    simp only [RP] at rk
    obtain ⟨b, zs, rfl, hsq, rp⟩ := rk
    obtain rfl : iv = Value.ref b := ry
    cases rps_key_inv rp
    obtain ⟨z, hd, xs, rel, dd⟩ := dt_rd I.hok (.inr ⟨o, h⟩ : Rd H a (.dT ws))
    obtain ⟨w', hw', rw'⟩ := RelO.some_of (v := v) (o := (atKey xs kk).map (·.2)) (by rw [← hw]; exact rel.val kk)
    obtain ⟨pr, hp, hp2⟩ := Option.map_eq_some_iff.mp hw'
    obtain ⟨its, rvs, ⟨ob, h1, h2, n, h3⟩, _⟩ := I.tuple hsq
    have key : (tupleKind (mixKind X.prog X.w)).is s.heap kk b := ⟨ob, its.toArray, n, h1, h2, h3, by simpa using items_are rvs⟩
    refine ⟨dd.typeIs, wpAny_getItem_heap (tupleKind_room_in1 (by omega)) key dd hp ?_⟩
    rw [hp2]
    exact q _ _ (I.tok _) rw'
  | dN K' ws =>
    obtain ⟨rfl, rfl⟩ := (show K' = X.K ∧ vs = _ from e)
    obtain ⟨hk, hd, xs, rel, dd⟩ := dn_rd I h
    obtain ⟨kk, rfl, hkk, ⟨p0, hp0, ep0⟩, hw⟩ := valF_n ws k v (fun p hp => (hk p hp).1) hv
    have r3 := RP.nkv (.tuple kk) y hkk rk
    have r4 := r3
    simp only [NKV] at r4
    obtain ⟨b, zs, rfl, _⟩ := r4
    obtain rfl : iv = Value.ref b := ry
    obtain ⟨w', hw', rw'⟩ := RelO.some_of (v := v) (o := (atKey xs kk).map (·.2)) (by rw [← hw]; exact rel.val kk)
    obtain ⟨pr, hp, hp2⟩ := Option.map_eq_some_iff.mp hw'
    refine ⟨dd.typeIs, wpAny_getItem_heap (nroom hu) (nkey_of I ⟨hkk, by rw [← ep0]; exact (hk p0 hp0).2, r3⟩) dd hp ?_⟩
    rw [hp2]
    exact q _ _ (I.tok _) rw'
  | _ => exact e.elim
end
section
variable {X : Cx} {o i a tg : Expr} {fo fi f : DE} {pos : Pos}
@[simp] def dFGet (fo fi : DE) : DE := fun d m Q => fo d m fun o m1 => fi d m1 fun y m2 => ∃ kvs k p, o = .dat (fdk kvs) ∧ y = .dat k ∧ valF kvs k = some p ∧ Q (.dat p) m2
theorem le_fget (hu : X.A.units + 100 < cLine) (ho : PE X o (LE X.K fo)) (hi : PE X i (LE X.K fi)) (hs : NoSl i := by exact fun _ _ => rfl) : PE X (.Subscript o i pos) (LE X.K (dFGet fo fi)) := by
  intro pins s σ H Q I h
  obtain ⟨Z, d, m, R, ok, rs, h, k⟩ := h
  refine subD_of PySem.F.slot_dict_getitem.lookup hs (thn (ho pins s σ H (fun x H1 => ∃ (ox : D) (m1 : Mu), RD X.K Z m1 H1 ox x ∧ (fi d m1 fun y m2 => ∃ kvs k p, ox = .dat (fdk kvs) ∧ y = .dat k ∧ valF kvs k = some p ∧ R (.dat p) m2) ∧ Ext X.K Z m H m1 H1 ∧ Ok X.K Z m1 H1) I
    ⟨Z, d, m, _, ok, rs, h, fun x m1 v H1 q e1 ok1 rd => ⟨x, m1, rd, q, e1, ok1⟩⟩) fun u s1 ⟨x, H1, I1, rx, ox, m1, rd, q, e1, ok1⟩ => ?_)
  refine thn (hi pins s1 σ H1 (fun y H2 => ∃ m2 kvs ky p, RD X.K Z m2 H2 (.dat (fdk kvs)) x ∧ RD X.K Z m2 H2 (.dat ky) y ∧ valF kvs ky = some p ∧ R (.dat p) m2 ∧ Ext X.K Z m1 H1 m2 H2 ∧ Ok X.K Z m2 H2) I1
    ⟨Z, d, m1, _, ok1, rs.ext e1, q, fun y m2 w H2 ⟨kvs, ky, p, eo, ey, hv, q2⟩ e2 ok2 r2 => by subst eo; subst ey; exact ⟨m2, kvs, ky, p, rd.ext e2, r2, hv, q2, e2, ok2⟩⟩) fun iv s2 ⟨y, H2, I2, ry, m2, kvs, ky, p, ro, r2, hv, q2, e2, ok2⟩ => ?_
  obtain ⟨c, ob, un, vs, rfl, g1, g2, g3⟩ := fdk_out ro
  obtain rfl : u = Value.ref c := rx
  obtain ⟨v, hv', rv⟩ := g3.val hv
  exact fz_get hu I2 g1 g2 hv' r2 ry fun w' s' I' rw' => ⟨v, H2, I', rw', k _ m2 v H2 q2 (e1.trans e2) ok2 rv⟩
@[simp] def celK : Cel → Option (List (PyData × PyData))
  | .d kvs => some (kvs.map fun kv => (keyPy kv.1, kv.2))
  | .t kvs => some (kvs.map fun kv => (.tuple (kv.1.map keyPy), kv.2))
  | _ => none
theorem off_upd {m : Mu} {c : Addr} {x : Cel} : offM (updM m c x) c = offM m c := by
  funext b
  unfold offM updM
  split <;> rfl
@[simp] def dFrzD (f : DE) : DE := fun d m Q => f d m fun x m1 => ∃ c cl kvs, x = .cel c ∧ m c = none ∧ m1 c = some cl ∧ celK cl = some kvs ∧ Q (.dat (fdk kvs)) (offM m1 c)
theorem le_frzD {e : Expr} (he : PE X e (LE X.K f)) : PE X e (LE X.K (dFrzD f)) := by
  intro pins s σ H Q I h
  obtain ⟨Z, d, m, R, ok, rs, h, k⟩ := h
  refine thn (he pins s σ H (fun x H1 => ∃ m1 c cl kvs, x = .ref c ∧ m c = none ∧ m1 c = some cl ∧ celK cl = some kvs ∧ R (.dat (fdk kvs)) (offM m1 c) ∧ Ext X.K Z m H m1 H1 ∧ Ok X.K Z m1 H1) I
    ⟨Z, d, m, _, ok, rs, h, fun x m1 v H1 ⟨c, cl, kvs, ex, hc, hm, hk, q⟩ e1 ok1 rd => by subst ex; exact ⟨m1, c, cl, kvs, rd.1, hc, hm, hk, q, e1, ok1⟩⟩) fun u s1 ⟨x, H1, I1, r1, m1, c, cl, kvs, ex, hc, hm, hk, q, e1, ok1⟩ => ?_
  subst ex
  obtain rfl : u = Value.ref c := r1
  have fin : ∀ (un : HO) (cf : Cel) (vs : List (PyData × V)) (o : Obj), Inv X pins σ (upd H1 c (.frz o un)) { s1 with heap := s1.heap, toks := s1.toks } → Ext X.K Z m1 H1 (updM m1 c cf) (upd H1 c (.frz o un)) → Ok X.K Z (updM m1 c cf) (upd H1 c (.frz o un)) → Ents X.K un vs → RPd X.K Z m1 H1 kvs vs → EP X pins σ Q (.ref c) s1 := by
    intro un cf vs o I2 e2 ok2 en rp
    have ok3 := ok2.off (a := c)
    rw [off_upd] at ok3
    have e3 := (e1.trans e2).off hc
    rw [off_upd] at e3
    refine ⟨.ref c, _, I2, rfl, k _ _ _ _ q e3 ok3 (fdk_in upd_same en ?_)⟩
    have r2 := RPd.ext e2 _ _ rp
    refine RPd.tr0 (fun _ _ q => q) (fun b ws q1 q2 => ⟨⟨?_, q1.2⟩, q2⟩) (fun _ _ _ q => q) _ _ r2
    rw [← off_upd (x := cf)]
    exact off_none q1.1
  cases cl with
  | d ks =>
    cases hk
    obtain ⟨vs, g1, g2⟩ := ok1.d hm
    obtain ⟨z, hs, us, rel, o, es, ep, ho, rest⟩ := (show ObjOk X.prog X.w H1 s1.heap c (.dK vs) from I1.hok c _ g1)
    have I2 : Inv X pins σ (upd H1 c (.frz o (.dK vs))) { s1 with heap := s1.heap, toks := s1.toks } := d_write I1 (by rw [g1]; exact True.intro) (Heap.SameBut.refl _ _) ⟨o, ho⟩ ⟨ho, z, hs, us, rel, o, es, ep, ho, rest⟩
    exact fin _ (.fd ks) _ o I2 (Ext.put ok1 hm g1) (ok1.put hm g1 (show RC _ _ _ _ (.fd ks) (.frz o (.dK vs)) from g2)) rfl (g2.rpd keyPy)
  | t ks =>
    cases hk
    obtain ⟨vs, g1, g2⟩ := ok1.t hm
    obtain ⟨z, hs, xs, pr, o, es, ep, ho, hx, hd, hes, nd⟩ := (show ObjOk X.prog X.w H1 s1.heap c (.dT vs) from I1.hok c _ g1)
    have nt : ∀ b ys, H1 b = some (.tup ys) → upd H1 c (.frz o (.dT vs)) b = some (.tup ys) := fun b ys e => by
      rw [upd_ne (by rintro rfl; rw [g1] at e; cases e)]
      exact e
    have I2 : Inv X pins σ (upd H1 c (.frz o (.dT vs))) { s1 with heap := s1.heap, toks := s1.toks } :=
      d_write I1 (by rw [g1]; exact True.intro) (Heap.SameBut.refl _ _) ⟨o, ho⟩ ⟨ho, z, hs, xs, Paired.mapP pr fun _ _ q => ⟨q.1, nt _ _ q.2.1, q.2.2⟩, o, es, ep, ho, hx, hd, hes, nd⟩
    exact fin _ (.ft ks) _ o I2 (Ext.put ok1 hm g1) (ok1.put hm g1 (show RC _ _ _ _ (.ft ks) (.frz o (.dT vs)) from g2)) rfl (g2.rpd fun k => .tuple (k.map keyPy))
  | _ => cases hk
end
end DL
set_option Elab.async false
set_option linter.all false
set_option maxRecDepth 100000
set_option maxHeartbeats 4000000
namespace DL
open PySem PySem.Spec PyProof.Rows L2
def ItV (c : Addr) (o : Obj) (u : HO) (vks : List V) : It :=
  ⟨fun i H => H c = some (.frz o u) ∧ i < vks.length, fun i H v H' => H' = H ∧ vks[i]? = some v, fun i H => H c = some (.frz o u) ∧ i = vks.length⟩
theorem turn_dictV {P : Program} {w : World} {K : PySem.W.Frag} {tg : Expr} (c it : Addr) (o : Obj) (u : HO) (es : Array DictEntry) (ep : Nat) (vks : List V) (hd : o.data = .dict es ep) (hb : Vals vks (es.toList.map (·.key))) : Turn P w K tg (ItV c o u vks) [it] it (fun i h => h.IsKeyIter it c i es.size ep) where
  mem := by simp
  obj := fun i h st b hb => by
    have e : b = it := by simpa using hb
    subst e
    obtain ⟨o', e, _, dd⟩ := st
    exact ⟨o', e, fun v z => by rw [dd] at z; cases z⟩
  keep := fun i h h' st k => by
    obtain ⟨o', e, q⟩ := st
    exact ⟨o', k it (by simp) o' e, q⟩
  item := by
    intro X hP hw hK hc i pins s σ H E I hf st hg
    subst hP hw hK
    obtain ⟨g1, g2⟩ := hg
    obtain ⟨ho, _⟩ := (show ObjOk X.prog X.w H s.heap c (.frz o u) from I.hok c _ g1)
    have hl : es.size = vks.length := by
      have := hb.length
      simpa using this.symm
    obtain ⟨f0, f1, f2, f3, f4, f5⟩ := hf it (by simp)
    have hi : i < es.size := by omega
    refine key_item st ho hd hi fun h' st' sb => ?_
    have I1 : Inv X pins σ H { s with heap := h' } := I.turned (t' := s.toks) (fun b o hb e => (sb.2 b hb).trans e) f0 f1 f3 f4 f5
    obtain ⟨oi, e, cc, dd⟩ := id st'
    obtain ⟨kv, q1, q2⟩ := Vals.get hb (List.getElem?_eq_getElem g2)
    have ek : es[i].key = kv := by
      simp only [List.getElem?_map, Array.getElem?_toList, Array.getElem?_eq_getElem hi] at q1
      exact Option.some.inj q1
    rw [ek]
    exact ⟨_, rfl, go_of (s := { s with heap := h' }) e cc dd (by decide) ⟨vks[i], H, I1, q2, ⟨rfl, List.getElem?_eq_getElem g2⟩, st', fun b hb => (hf b hb).1⟩⟩
  done := by
    intro X hP hw hK hc i pins s σ H E I hf st hg
    subst hP hw hK
    obtain ⟨g1, g2⟩ := hg
    obtain ⟨ho, _⟩ := (show ObjOk X.prog X.w H s.heap c (.frz o u) from I.hok c _ g1)
    have hl : es.size = vks.length := by
      have := hb.length
      simpa using this.symm
    obtain ⟨f0, f1, f2, f3, f4, f5⟩ := hf it (by simp)
    exact key_done (I.ok.hd hc) st ho hd (by omega) fun h' eb => ⟨rfl, I.turned (t' := s.toks) (fun b o hb e => eb b o hb e) f0 f1 f3 f4 f5⟩
  self := fun _ _ _ _ _ st h => wpAny_pyIter_keyiter st h
section
variable {X : Cx} {pins : List (Addr × Obj)} {σ : L2.St} {H : Hp} {s : Shared}
mutual
theorem NKV.rp {K : PySem.W.Frag} {Z : Addr → Prop} {m : Mu} : ∀ (p : PyData) (v : V), NKV K H p v → RP K Z m H p v
  | .int _, _, h => by simp only [NKV] at h; simp only [RP]; exact h
  | .str _, _, h => by simp only [NKV] at h; simp only [RP]; exact h
  | .tuple xs, _, h => by
    simp only [NKV] at h
    simp only [RP]
    obtain ⟨a, vs, e, h1, h2⟩ := h
    exact ⟨a, vs, e, h1, NKVs.rp xs vs h2⟩
  | .none, _, h | .bool _, _, h | .list _, _, h | .dict _, _, h => by simp only [NKV] at h
theorem NKVs.rp {K : PySem.W.Frag} {Z : Addr → Prop} {m : Mu} : ∀ (ps : List PyData) (vs : List V), NKVs K H ps vs → RPs K Z m H ps vs
  | [], _, h => by simp only [NKVs] at h; simp only [RPs]; exact h
  | p :: ps, _, h => by
    simp only [NKVs] at h
    simp only [RPs]
    obtain ⟨v, r, e, h1, h2⟩ := h
    exact ⟨v, r, e, NKV.rp p v h1, NKVs.rp ps r h2⟩
end
abbrev KeyR (K : PySem.W.Frag) (H : Hp) : List (PyData × V) → List V → Prop := Paired fun p v => ∀ (Z : Addr → Prop) (m : Mu), RP K Z m H p.1 v
theorem kvals {P : Program} {w : World} : ∀ {ws : List (Key × V)} {us : List (Key × Value)} {l : List DictEntry}, KV ws us → Pairs (mixKind P w) l us → Vals (ws.map fun kv => kV kv.1) (l.map (·.key))
  | _, _, _, .nil, pr => by cases pr; exact .nil
  | _, _, _, @Paired.cons _ _ _ p q ps qs hq t, pr => by
    cases pr with
    | @cons en kv es' _ k1 k2 r =>
      refine .cons ?_ (kvals t r)
      show RelV (kV p.1) en.key
      rw [hq.1]
      have k1 : keyIs q.1 en.key = true := k1
      rcases keyIs_shape k1 with ⟨i, t', e1, e2⟩ | ⟨x, t', e1, e2⟩
      · rw [e1, e2]; exact ⟨t', rfl⟩
      · rw [e1, e2]; exact ⟨t', rfl⟩
theorem rp_kV {K : PySem.W.Frag} {Z : Addr → Prop} {m : Mu} (k : Key) : RP K Z m H (keyPy k) (kV k) := by
  cases k <;> (simp only [keyPy, RP]; rfl)
theorem keyr_k {K : PySem.W.Frag} : ∀ ws : List (Key × V), KeyR K H (ws.map fun kv => (keyPy kv.1, kv.2)) (ws.map fun kv => kV kv.1)
  | [] => .nil
  | p :: ws => .cons (fun Z m => rp_kV p.1) (keyr_k ws)
theorem keyr_t {K : PySem.W.Frag} : ∀ {ws : List (List Key × V)} {xs : List (List Key × Addr × Value)}, L2.KT H ws xs → KeyR K H (ws.map fun kv => (PyData.tuple (kv.1.map keyPy), kv.2)) (xs.map fun x => .ref x.2.1)
  | _, _, .nil => .nil
  | _, _, .cons hq t => .cons (fun Z m => by
      simp only [RP]
      exact ⟨_, _, rfl, .inl (.inl hq.2.1), rps_keys _⟩) (keyr_t t)
theorem keyr_n {K : PySem.W.Frag} : ∀ {ws : List (List PyData × V)} {xs : List (List PyData × Addr × Value)}, KN K H ws xs → KeyR K H (ws.map fun kv => (PyData.tuple kv.1, kv.2)) (xs.map fun x => .ref x.2.1)
  | _, _, .nil => .nil
  | _, _, .cons hq t => .cons (fun Z m => NKV.rp _ _ hq.2.1.2.2) (keyr_n t)
theorem vals_refs {κ : Type} : ∀ xs : List (κ × Addr × Value), Vals (xs.map fun x => V.ref x.2.1) (xs.map fun x => Value.ref x.2.1)
  | [] => .nil
  | x :: xs => .cons rfl (vals_refs xs)
theorem ents_keys {a : Addr} {o : Obj} {u : HO} {vs : List (PyData × V)} (I : Inv X pins σ H s) (h : H a = some (.frz o u)) (e : Ents X.K u vs) :
    s.heap.get? a = some o ∧ (a == sysModules) = false ∧ o.ExactDict ∧ ∃ es ep vks, o.data = .dict es ep ∧ Vals vks (es.toList.map (·.key)) ∧ KeyR X.K H vs vks := by
  obtain ⟨g1, g2⟩ := frz_ok I h
  refine ⟨g1, ?_⟩
  cases u with
  | dK ws =>
    cases (show vs = _ from e)
    obtain ⟨z, hs, us, rel, o', es, ep, ho, hx, hd, _, pr, _⟩ := g2
    rw [g1] at ho; cases ho
    exact ⟨hs, hx, es, ep, _, hd, kvals rel pr, keyr_k ws⟩
  | dT ws =>
    cases (show vs = _ from e)
    obtain ⟨z, hs, xs, pr, o', es, ep, ho, hx, hd, hes, _⟩ := g2
    rw [g1] at ho; cases ho
    refine ⟨hs, hx, es, ep, _, hd, ?_, keyr_t pr⟩
    rw [hes, List.map_map]
    exact vals_refs xs
  | dN K' ws =>
    obtain ⟨rfl, rfl⟩ := (show K' = X.K ∧ vs = _ from e)
    obtain ⟨z, hs, xs, pr, o', es, ep, ho, hx, hd, hes, _⟩ := g2
    rw [g1] at ho; cases ho
    refine ⟨hs, hx, es, ep, _, hd, ?_, keyr_n pr⟩
    rw [hes, List.map_map]
    exact vals_refs xs
  | _ => exact e.elim
end
section
variable {X : Cx} {a tg : Expr} {f : DE}
theorem walk_frz {pins : List (Addr × Obj)} {σ : L2.St} {H1 : Hp} {s1 : Shared} {Z : Addr → Prop} {m1 : Mu} {c : Addr} {o : Obj} {u : HO} {vs : List (PyData × V)} {R : It → Hp → Prop} (I1 : Inv X pins σ H1 s1) (g1 : H1 c = some (.frz o u)) (g2 : Ents X.K u vs)
    (k : ∀ J, Yields X.K Z m1 H1 (vs.map fun kv => .dat kv.1) J → R J H1) :
    wpAny (model X.prog X.w) X.A (pyIter (.ref c)) (PIE X pins σ tg R) X.xe s1 := by
  obtain ⟨ho, hs, hx, es, ep, vks, hd, hv, hk⟩ := ents_keys I1 g1 g2
  refine keys_start hs ho hx hd ?_
  refine ⟨s1.heap.objs.size, [s1.heap.objs.size], _, _, _, rfl, I1.kept (t' := s1.toks) fun b o e => Heap.get?_push_of_some _ e, turn_dictV c _ o u es ep vks hd hv, ⟨_, Heap.get?_push_size _ rfl, rfl, rfl⟩, fun b hb => ?_, k _ ?_⟩
  · have e : b = s1.heap.objs.size := by simpa using hb
    subst e
    exact I1.fpOk (Nat.le_refl _) (I1.hok.fresh (Nat.le_refl _))
  · intro m3 H3 ey
    have g3 := ey.fz c o u g1
    have kl : vks.length = (vs.map fun kv => D.dat kv.1).length := by rw [List.length_map]; exact (Paired.len hk).symm
    refine ⟨fun i x hx => ⟨⟨g3, ?_⟩, fun v H4 y => .inl ⟨y.1, ?_⟩⟩, g3, kl.symm⟩
    · have := (List.getElem?_eq_some_iff.mp hx).1
      omega
    · obtain ⟨_, hb⟩ := y
      rw [List.getElem?_map] at hx
      cases ek : vs[i]? with
      | none => rw [ek] at hx; cases hx
      | some kp =>
        rw [ek] at hx
        cases hx
        obtain ⟨v', q1, q2⟩ := Paired.at hk ek
        rw [hb] at q1
        cases q1
        exact q2 _ _
@[simp] def dKeysF (f : DE) : DI := fun d m Q => f d m fun x m1 => ∃ kvs, x = .dat (fdk kvs) ∧ Q (kvs.map fun kv => .dat kv.1) m1
theorem li_fdk (ha : PE X a (LE X.K f)) : PI X tg a (LI X.K (dKeysF f)) := by
  intro pins s σ H R I h
  obtain ⟨Z, d, m, ZZ, ok, rs, h, k⟩ := h
  refine thn (ha pins s σ H (fun x H1 => ∃ m1 kvs, RD X.K Z m1 H1 (.dat (fdk kvs)) x ∧ ZZ (kvs.map fun kv => .dat kv.1) m1 ∧ Ext X.K Z m H m1 H1 ∧ Ok X.K Z m1 H1) I
    ⟨Z, d, m, _, ok, rs, h, fun x m1 v H1 ⟨kvs, ex, q⟩ e1 ok1 rd => by subst ex; exact ⟨m1, kvs, rd, q, e1, ok1⟩⟩) fun u s1 ⟨x, H1, I1, r1, m1, kvs, rd, q, e1, ok1⟩ => ?_
  obtain ⟨c, o, un, vs, rfl, g1, g2, g3⟩ := fdk_out rd
  obtain rfl : u = Value.ref c := r1
  refine walk_frz (Z := Z) (m1 := m1) I1 g1 g2 fun J hJ => k _ _ _ _ q e1 ok1 ?_
  have e : (kvs.map fun kv => D.dat kv.1) = vs.map fun kv => D.dat kv.1 := by
    have := congrArg (List.map D.dat) g3.keys
    rw [List.map_map, List.map_map] at this
    exact this.symm
  rw [e]
  exact hJ
@[simp] def dKeysD (f : DE) : DI := fun d m Q => f d m fun x m1 => ∃ c kvs, x = .cel c ∧ (m1 c = some (.d kvs) ∧ Q (kvs.map fun kv => .dat (keyPy kv.1)) (updM m1 c (.fd kvs)) ∨ m1 c = some (.fd kvs) ∧ Q (kvs.map fun kv => .dat (keyPy kv.1)) m1)
theorem Ok.fd {K : PySem.W.Frag} {Z : Addr → Prop} {m : Mu} {H : Hp} {a : Addr} {xs : List (Key × PyData)} (ok : Ok K Z m H) (h : m a = some (.fd xs)) : ∃ ob vs, H a = some (.frz ob (.dK vs)) ∧ RKV K Z m H xs vs := by
  obtain ⟨o, h1, h2⟩ := ok.g a _ h
  cases o with
  | frz ob u => cases u <;> first | exact ⟨_, _, h1, h2⟩ | exact h2.elim
  | _ => exact h2.elim
theorem key_list {K : PySem.W.Frag} {Z : Addr → Prop} {m : Mu} {H : Hp} {kvs : List (Key × PyData)} {vs : List (Key × V)} (g2 : RKV K Z m H kvs vs) : ((vs.map fun kv => (keyPy kv.1, kv.2)).map fun kv => D.dat kv.1) = kvs.map fun kv => D.dat (keyPy kv.1) := by
  have := congrArg (List.map fun k => D.dat (keyPy k)) g2.keyAt
  rw [List.map_map, List.map_map] at this
  rw [List.map_map]
  exact this
theorem li_keysD (ha : PE X a (LE X.K f)) : PI X tg a (LI X.K (dKeysD f)) := by
  intro pins s σ H R I h
  obtain ⟨Z, d, m, ZZ, ok, rs, h, k⟩ := h
  refine thn (ha pins s σ H (fun x H1 => ∃ m1 c kvs, x = .ref c ∧ (m1 c = some (.d kvs) ∧ ZZ (kvs.map fun kv => .dat (keyPy kv.1)) (updM m1 c (.fd kvs)) ∨ m1 c = some (.fd kvs) ∧ ZZ (kvs.map fun kv => .dat (keyPy kv.1)) m1) ∧ Ext X.K Z m H m1 H1 ∧ Ok X.K Z m1 H1) I
    ⟨Z, d, m, _, ok, rs, h, fun x m1 v H1 ⟨c, kvs, ex, q⟩ e1 ok1 rd => by subst ex; exact ⟨m1, c, kvs, rd.1, q, e1, ok1⟩⟩) fun u s1 ⟨x, H1, I1, r1, m1, c, kvs, ex, q, e1, ok1⟩ => ?_
  subst ex
  obtain rfl : u = Value.ref c := r1
  rcases q with ⟨hm, q⟩ | ⟨hm, q⟩
  · obtain ⟨vs, g1, g2⟩ := ok1.d hm
    obtain ⟨z, hs, us, rel, o, es, ep, ho, rest⟩ := (show ObjOk X.prog X.w H1 s1.heap c (.dK vs) from I1.hok c _ g1)
    have I2 : Inv X pins σ (upd H1 c (.frz o (.dK vs))) { s1 with heap := s1.heap, toks := s1.toks } := d_write I1 (by rw [g1]; exact True.intro) (Heap.SameBut.refl _ _) ⟨o, ho⟩ ⟨ho, z, hs, us, rel, o, es, ep, ho, rest⟩
    have e2 : Ext X.K Z m1 H1 (updM m1 c (.fd kvs)) (upd H1 c (.frz o (.dK vs))) := Ext.put ok1 hm g1
    have ok2 : Ok X.K Z (updM m1 c (.fd kvs)) (upd H1 c (.frz o (.dK vs))) := ok1.put hm g1 (show RC _ _ _ _ (.fd kvs) (.frz o (.dK vs)) from g2)
    refine walk_frz (Z := Z) (m1 := updM m1 c (.fd kvs)) (u := .dK vs) I2 upd_same (vs := vs.map fun kv : Key × V => (keyPy kv.1, kv.2)) (show _ = _ from rfl) fun J hJ => k _ _ _ _ q (e1.trans e2) ok2 ?_
    rw [← key_list g2]
    exact hJ
  · obtain ⟨o, vs, g1, g2⟩ := ok1.fd hm
    refine walk_frz (Z := Z) (m1 := m1) (u := .dK vs) I1 g1 (vs := vs.map fun kv : Key × V => (keyPy kv.1, kv.2)) (show _ = _ from rfl) fun J hJ => k _ _ _ _ q e1 ok1 ?_
    rw [← key_list g2]
    exact hJ
end
section
variable {X : Cx} {o i : Expr} {fo fi : DE} {pos : Pos}
@[simp] def dDGetF (fo fi : DE) : DE := fun d m Q => fo d m fun o m1 => fi d m1 fun y m2 => ∃ c k kvs p, o = .cel c ∧ keyD y = some k ∧ m2 c = some (.fd kvs) ∧ valP kvs k = some p ∧ Q (.dat p) m2
theorem le_dgetF (hu : X.A.units + 100 < cLine) (ho : PE X o (LE X.K fo)) (hi : PE X i (LE X.K fi)) (hs : NoSl i := by exact fun _ _ => rfl) : PE X (.Subscript o i pos) (LE X.K (dDGetF fo fi)) :=
  PE.imp (pe_dget (by omega) ho hi hs) fun s H Q h => by
    obtain ⟨Z, d, m, R, ok, rs, h, k⟩ := h
    refine ⟨Z, d, m, _, ok, rs, h, fun o m1 v H1 q e1 ok1 r1 => ⟨Z, d, m1, _, ok1, rs.ext e1, q, fun y m2 w H2 q2 e2 ok2 r2 => ?_⟩⟩
    obtain ⟨c, ky, kvs, p, rfl, hk, hm, hv, q⟩ := q2
    cases r2.key hk
    obtain ⟨rfl, _⟩ := r1.ext e2
    obtain ⟨ob, vs, g1, g2⟩ := ok2.fd hm
    obtain ⟨v, hv', rv⟩ := g2.val hv
    exact ⟨c, v, rfl, .inl ⟨vs, ky, .inr ⟨ob, g1⟩, rfl, hv'.symm⟩, k _ m2 _ H2 q (e1.trans e2) ok2 rv⟩
end
end DL
set_option Elab.async false
set_option linter.all false
set_option maxRecDepth 100000
set_option maxHeartbeats 4000000
namespace DL
open PySem PySem.Spec PyProof.Rows L2
def metI (val : Nat → Int) (i : Nat) : List Int := ((List.range i).map val).foldl ins3 []
theorem metI_succ (val : Nat → Int) (i : Nat) : metI val (i + 1) = ins3 (metI val i) (val i) := by
  unfold metI
  rw [List.range_succ, List.map_append, List.foldl_append]
  rfl
section
variable {P : Program} {w : World} {A : Around} {R : Result → Shared → Prop} {I : Addr} {fp wr : List Addr} {G : Array GenState → Array GenState → Prop} {n : Nat} {Pv : Nat → Value → Prop} {St : Nat → Shared → Prop}
theorem is_loop (W : WalksS P w A.in1 I fp wr G n Pv St) (S : Addr) (hSf : S ∉ fp) (val : Nat → Int) (hval : ∀ i v, Pv i v → ∃ t, v = .int (val i) t) (hb : ∀ i, val i ∈ ([0, 1, -1] : List Int)) :
    ∀ (k i : Nat) (s : Shared), n - i = k → i ≤ n → St i s → ISet P w s.heap S (metI val i) → (∀ s', Moved (S :: wr) G s s' → ISet P w s'.heap S (metI val n) → R (.ok (.ret .none)) s') →
      codeAny (model P w) A (.builtin "set.update.loop" ⟨[.ref S, .ref I], []⟩) R s := by
  have nw : S ∉ wr := fun z => hSf (W.sub _ z)
  have sub : ∀ b ∈ wr, b ∈ S :: wr := fun b hb => List.mem_cons_of_mem _ hb
  intro k
  induction k with
  | zero =>
    intro i s hk hi hst T hR
    obtain rfl : i = n := by omega
    refine codeAny_builtin F.entry_set_update_loop ?_
    rw [Around.under_plainId F.plain_set_update_loop _]
    show wpAny _ A.in1 (pyNext (.ref I) >>= _) _ _ s
    refine wpAny_bind (W.done s _ _ hst fun s' hm => ?_)
    show wpAny _ A.in1 (ret Value.none) _ _ s'
    exact wpAny_pure (hR s' (hm.mono sub) (T.at fun o e => hm.heap S _ nw e))
  | succ k ih =>
    intro i s hk hi hst T hR
    refine codeAny_builtin F.entry_set_update_loop ?_
    rw [Around.under_plainId F.plain_set_update_loop _]
    show wpAny _ A.in1 (pyNext (.ref I) >>= _) _ _ s
    refine wpAny_bind (W.item i s _ _ (by omega) hst fun v s' hP hst' hm => ?_)
    obtain ⟨t, rfl⟩ := hval i v hP
    have T' : ISet P w s'.heap S (metI val i) := T.at fun o e => hm.heap S _ nw e
    show wpAny _ A.in1 (holding [Value.int (val i) t] (setAdd S (.int (val i) t)) >>= _) _ _ s'
    refine wpAny_bind (wpAny_holding ?_)
    unfold setAdd
    refine wpAny_holding (wpAny_bind ((mixKind P w).pyHash (k := .inl (val i)) (key_int _ _) ?_))
    refine is_add (s := { s' with toks := s'.toks + 1 }) (z := val i) T' (hb i) fun b h' sb T2 => ?_
    have T3 : ISet P w h' S (metI val (i + 1)) := by rw [metI_succ]; exact T2
    refine wpAny_pure ⟨plainId_quiet F.plain_set_update_loop _, ih (i + 1) _ (by omega) (by omega) (W.frame _ s' _ _ hst' (Nat.le_succ _) fun b hb o e => ?_) T3 fun s'' hm'' T4 => ?_⟩
    · rw [sb.2 b (by rintro rfl; exact hSf hb)]
      exact e
    · refine hR s'' (Moved.trans W.gtrans ((hm.mono sub).then_heap (Nat.le_succ _) fun b o hb e => ?_) hm'') T4
      rw [sb.2 b (by rintro rfl; exact hb List.mem_cons_self)]
      exact e
end
theorem ints_at : ∀ {vs : List Value} {zs : List Int} {i : Nat} {v : Value}, IntsAre vs zs → vs[i]? = some v → ∃ t, v = .int (zs.getD i 0) t
  | _, _, _, _, .nil, e => by simp at e
  | _, _, 0, _, .cons z t _, e => by cases e; exact ⟨t, rfl⟩
  | _, _, i + 1, _, .cons z t r, e => by
    obtain ⟨u, h⟩ := ints_at (i := i) r (by simpa using e)
    exact ⟨u, by simpa using h⟩
section
variable {P : Program} {w : World} {A : Around} {E : Value → Shared → Prop} {s : Shared}
theorem is_call {l : Addr} {items : Array Value} {zs : List Int} {Q : Value → Shared → Prop} (hh : A.handled = none) (hl : s.heap.IsList l items) (hi : IntsAre items.toList zs) (hz : ∀ z ∈ zs, z ∈ ([0, 1, -1] : List Int))
    (h : ∀ (h' : Heap) (tk : Nat), ISet P w h' s.heap.objs.size (metI (fun i => zs.getD i 0) items.size) → (∀ b o, b < s.heap.objs.size → s.heap.get? b = some o → h'.get? b = some o) → Q (.ref s.heap.objs.size) { s with heap := h', toks := tk }) :
    wpAny (model P w) A (call (.type "set") [.ref l]) Q E s := by
  obtain ⟨c, tl, hmro⟩ := F.called_set.mro
  have hmade := F.called_set.made
  have hsub := F.called_set.sub
  refine wpAny_call (codeAny_of_tree ?_)
  show wpAny _ _ (callAny (.type "set") _) _ _ _
  refine wpAny_pure ⟨Code.quiet_builtin _ (by decide +kernel), codeAny_builtin F.entry_type_call ?_⟩
  rw [Around.under_plain (weight_type_call_type "set" [.ref l] []) rfl]
  have h1 := F.called_set.notType
  have h2 := F.called_set.canCreate
  have hct := PySem.F.typeCall_set_1 (.ref l)
  repeat (any_goals (first | assumption | wp_step))
  refine codeAny_mono (code_newT (.ref l) (E := E) (Q₁ := fun obj s₁ => obj = .ref s.heap.objs.size ∧ s₁ = { s with heap := s.heap.push (freshS w) }) ⟨rfl, rfl⟩) fun r s₁ hr => ?_
  cases r with
  | error e => exact hr
  | ok fl =>
    cases fl with
    | ret obj =>
      obtain ⟨rfl, rfl⟩ := hr
      have hS : (s.heap.push (freshS w)).get? s.heap.objs.size = some (freshS w) := Heap.get?_push_size _ rfl
      have hT : Shared.TypeIs { s with heap := s.heap.push (freshS w) } (.ref s.heap.objs.size) "set" := ⟨_, hS, rfl⟩
      have hli := F.called_set.init.lookup
      have hbi := F.called_set.init.bind (.ref s.heap.objs.size)
      repeat (any_goals (first | assumption | wp_step))
      refine codeAny_mono (codeAny_call_builtin (R := wants (fun r s₂ => r = .none ∧ ∃ h' tk, s₂ = { s with heap := h', toks := tk } ∧ ISet P w h' s.heap.objs.size (metI (fun i => zs.getD i 0) items.size) ∧
          (∀ b o, b < s.heap.objs.size → s.heap.get? b = some o → h'.get? b = some o)) E) F.called_set.init.plain F.entry_set_init (check_set_init_1 hT ?_)) fun r₂ s₂ hr₂ => ?_
      · obtain ⟨ol, hol, hcl, nl, hdl⟩ := hl
        obtain ⟨ocls, odict, odata, oslots⟩ := ol
        simp only at hcl hdl
        subst hcl; subst hdl
        have hol' : (s.heap.push (freshS w)).get? l = some { cls := .type "list", dict := odict, data := .seq items nl, slots := oslots } := Heap.get?_push_of_some _ hol
        have hsls := PySem.F.sub_list_set
        have hslf := PySem.F.sub_list_frozenset
        have hne : (Value.type "list" == Value.type "dict") = false := by decide
        have hl1 : (s.heap.push (freshS w)).IsList l items := ⟨_, hol', rfl, nl, rfl⟩
        unfold Builtin.«set.__init__» noKeywords Builtin.Frozenset.updateFrom
        generalize hPI : pyIter = PI
        wp_walk
        subst hPI
        refine wpAny_pyIter_list hl1 (wpAny_bind (wpAny_runValue ?_))
        have ltl : l < s.heap.objs.size := Heap.lt_size hol
        have hh3 : A.in1.in1.in1.handled = none := by simp [hh]
        have nI : l ≠ (s.heap.push (freshS w)).objs.size := by rw [Heap.size_push]; exact Nat.ne_of_lt (Nat.lt_succ_of_lt ltl)
        have hSf : s.heap.objs.size ∉ [(s.heap.push (freshS w)).objs.size, l] := by
          rw [Heap.size_push]
          simp only [List.mem_cons, List.mem_singleton, List.not_mem_nil, or_false, not_or]
          exact ⟨Nat.ne_of_lt (Nat.lt_succ_self _), Nat.ne_of_gt ltl⟩
        have hval : ∀ (i : Nat) (v : Value), items[i]? = some v → ∃ t, v = .int ((fun i => zs.getD i 0) i) t := fun i v hv => by
          have hv : items.toList[i]? = some v := by rw [Array.getElem?_toList]; exact hv
          exact ints_at hi hv
        have hb : ∀ i, (fun i => zs.getD i 0) i ∈ ([0, 1, -1] : List Int) := fun i => by
          show zs.getD i 0 ∈ _
          rw [List.getD_eq_getElem?_getD]
          cases e : zs[i]? with
          | none => exact List.mem_cons_self
          | some z => exact hz z (List.mem_of_getElem? e)
        refine is_loop ((Walks.list hh3 _ l nI items).toS) s.heap.objs.size hSf (fun i => zs.getD i 0) hval hb (items.size - 0) 0 _ (by omega) (Nat.zero_le _) ⟨⟨_, Heap.get?_push_size _ rfl, rfl, rfl⟩, (hl1.push _)⟩ ?hS0 ?hR
        case hS0 => exact is_fresh (Heap.get?_push_of_some _ hS)
        case hR =>
          intro s' hm T
          obtain ⟨h', g', d', tk', os'⟩ := s'
          have eg : g' = s.gens := hm.gens
          have ed : d' = s.drawn := hm.drawn
          have eo : os' = s.os := hm.os
          subst eg; subst ed; subst eo
          show wpAny _ _ _ _ _ _
          refine wpAny_pure ?_
          show wpAny _ _ (ret Value.none) _ _ _
          refine wpAny_pure ⟨rfl, h', tk', rfl, T, fun b o hb e => ?_⟩
          have n1 : b ≠ s.heap.objs.size := Nat.ne_of_lt hb
          have n2 : b ≠ (s.heap.push (freshS w)).objs.size := by rw [Heap.size_push]; exact Nat.ne_of_lt (Nat.lt_succ_of_lt hb)
          exact hm.heap b o (by simp only [List.mem_cons, List.mem_singleton, List.not_mem_nil, or_false, not_or]; exact ⟨n1, n2⟩) (Heap.get?_push_of_some _ (Heap.get?_push_of_some _ e))
      · cases r₂ with
        | error e => exact hr₂
        | ok fl₂ =>
          cases fl₂ with
          | ret r =>
            obtain ⟨rfl, h', tk, rfl, T, hk'⟩ := hr₂
            repeat (any_goals (first | assumption | wp_step))
            exact h _ _ T hk'
          | _ => exact hr₂.elim
    | _ => exact hr.elim
end
def setI (zs : List Int) : List Int := zs.foldl ins3 []
theorem range_map {n : Nat} : ∀ zs : List Int, zs.length = n → (List.range n).map (fun i => zs.getD i 0) = zs := by
  intro zs h
  apply List.ext_getElem?
  intro i
  rw [List.getElem?_map]
  by_cases hi : i < n
  · rw [List.getElem?_range hi, List.getElem?_eq_getElem (by omega)]
    simp [List.getD_eq_getElem?_getD, List.getElem?_eq_getElem (show i < zs.length by omega)]
  · rw [List.getElem?_eq_none (by rw [List.length_range]; omega), List.getElem?_eq_none (by omega)]
    rfl
theorem ints_of_vals : ∀ {zs : List Int} {vs : List Value}, Vals (zs.map V.int) vs → IntsAre vs zs
  | [], _, .nil => .nil
  | z :: zs, _, .cons ⟨t, e⟩ r => by subst e; exact .cons z t (ints_of_vals r)
theorem rps_intsI {K : PySem.W.Frag} {Z : Addr → Prop} {m : Mu} {H : Hp} : ∀ {zs : List Int} {vs : List V}, RPs K Z m H (zs.map PyData.int) vs → vs = zs.map V.int
  | [], _, h => by simpa [RPs] using h
  | z :: zs, _, h => by
    simp only [List.map_cons, RPs, RP] at h
    obtain ⟨v, r, rfl, rfl, h2⟩ := h
    rw [rps_intsI h2]
    rfl
section
variable {X : Cx} {e : Expr} {f : DE} {pos p pos2 p2 : Pos}
@[simp] def dSortSetI (f : DE) : DE := fun d m Q => f d m fun x m1 => ∃ zs : List Int, x = .dat (.list (zs.map .int)) ∧ (∀ z ∈ zs, z ∈ ([0, 1, -1] : List Int)) ∧ Q (.dat (.list ((srt3 (setI zs)).map .int))) m1
theorem le_sortSetI (hc : X.calm = true) (hg : Gl X "sorted") (hm : X.mg "sorted" = none) (hg2 : Gl X "set") (hm2 : X.mg "set" = none) (he : PE X e (LE X.K f)) (hs : starEach [e] X.env = [(false, eval e X.env)] := by rfl)
    (hs2 : starEach [.Call (.Name "set" p2) [e] [] pos2] X.env = [(false, eval (.Call (.Name "set" p2) [e] [] pos2) X.env)] := by rfl) : PE X (.Call (.Name "sorted" p) [.Call (.Name "set" p2) [e] [] pos2] [] pos) (LE X.K (dSortSetI f)) := by
  intro pins s σ H Q I h
  obtain ⟨Z, d, m, R, ok, rs, h, k⟩ := h
  have hA := pa_cons (X := X) he pa_nil (by rw [hs]; rfl) pos2 pins s σ H (fun vs H1 => ∃ (zs : List Int) (m1 : Mu) (a : Addr), vs = [V.ref a] ∧ SqL X.K H1 a (zs.map V.int) ∧ (∀ z ∈ zs, z ∈ ([0, 1, -1] : List Int)) ∧ R (.dat (.list ((srt3 (setI zs)).map .int))) m1 ∧ Ext X.K Z m H m1 H1 ∧ Ok X.K Z m1 H1) I ⟨Z, d, m, _, ok, rs, h, fun x m1 v H1 ⟨zs, ex, hn, q⟩ e1 ok1 rd => by
    subst ex
    simp only [RD, RP] at rd
    obtain ⟨a, vs, rfl, _, h1, h2⟩ := rd
    cases rps_intsI h2
    exact ⟨zs, m1, a, rfl, h1, hn, q, e1, ok1⟩⟩
  refine Call_ (ld_blt I hg hm boot_sorted_ (PyProof.Rows.callWith_builtin1 ?_ hs2 rfl))
  rw [hs2]
  show wpAny _ _ (spliced ((false, eval (.Call (.Name "set" p2) [e] [] pos2) X.env) :: [])) _ _ s
  refine Calls.spliced_cons (Call_ (ld_blt I hg2 hm2 boot_set_ (PyProof.Rows.callWith_type1 (thn hA fun us s1 ⟨vs, H1, I1, r1, q1⟩ => ?_) hs rfl)))
  obtain ⟨zs, m1, a, ev, hq, hn, q, e1, ok1⟩ := q1
  subst ev
  obtain ⟨u, rfl, ru⟩ := vals1 r1
  obtain rfl : u = Value.ref a := ru
  obtain ⟨its, r', pl, hz⟩ := I1.list hq
  have hlen := r'.length
  rw [List.length_map] at hlen
  refine is_call (I1.ok.hd hc) pl.isList (by simpa using ints_of_vals r') hn fun h' tk T kp => ?_
  have em : metI (fun i => zs.getD i 0) its.toArray.size = setI zs := by
    unfold metI setI
    rw [range_map zs (by rw [List.size_toArray]; exact hlen)]
  rw [em] at T
  have hsub : setI zs ∈ SUB3 := let ⟨_, _, _, _, _, q, _⟩ := T; q
  have hl3 := (sub3_len _ hsub).1
  refine Calls.spliced_nil ?_
  refine sorted_setI (s := { s1 with heap := h', toks := tk }) (I1.ok.hd hc) T (by omega) fun s' vs' ys e' L hS hp hs' lt hL k2 g2 o2 => ?_
  obtain rfl := srt_is hsub hp hs'
  have hv := vals_ints hS
  have hvl := hv.length
  have hpl := hp.length_eq
  rw [List.length_map] at hvl
  have hle : s1.heap.objs.size ≤ L := Nat.le_of_lt (Nat.lt_of_lt_of_le (let ⟨o, _, _, ho, _⟩ := T; Heap.lt_size ho) lt)
  have hf : H1 L = none := I1.hok.fresh hle
  have kk : ∀ b ob, s1.heap.get? b = some ob → s'.heap.get? b = some ob := fun b ob q => k2 b ob (kp b ob (Heap.lt_size q) q)
  have I2 := I1.laid (t' := s'.toks) (h' := s'.heap) (a := L) (o := .lst ((srt3 (setI zs)).map V.int)) kk hle ⟨by rw [List.length_map, sizeLine_eq]; omega, vs', e', hv, hL⟩
  have I3 : Inv X pins σ (upd H1 L (.lst ((srt3 (setI zs)).map V.int))) s' := inv_like I2 rfl g2 o2
  have sm : Same H1 (upd H1 L (.lst ((srt3 (setI zs)).map V.int))) := same_new hf
  refine ⟨.ref L, _, I3, rfl, k _ m1 _ _ q (e1.trans (ok1.ext sm)) (ok1.grow sm) ?_⟩
  simp only [RD, RP]
  exact ⟨L, _, rfl, ok_none ok1 hf, .inl (.inl upd_same), ints_rps _⟩
end
end DL
set_option Elab.async false
set_option linter.all false
set_option maxRecDepth 100000
set_option maxHeartbeats 4000000
namespace DL
open PySem PySem.Spec PyProof.Rows L2
section
variable {X : Cx}
@[simp] def bMin : DC
  | [.dat (.int i), .dat (.int j)], m, Q => Q (.dat (.int (if j < i then j else i))) m
  | [.dat (.list ps)], m, Q => ∃ zs : List Int, ps = zs.map .int ∧ zs ≠ [] ∧ ∀ M, M ∈ zs → (∀ a ∈ zs, M ≤ a) → Q (.dat (.int M)) m
  | _, _, _ => False
@[simp] def bMaxL : DC
  | [.dat (.list ps)], m, Q => ∃ zs : List Int, ps = zs.map .int ∧ zs ≠ [] ∧ ∀ M, M ∈ zs → (∀ a ∈ zs, a ≤ M) → Q (.dat (.int M)) m
  | _, _, _ => False
theorem nums_list {vs : List Value} {zs : List Int} (hi : IntsAre vs zs) (hne : zs ≠ []) : ∃ xs : Array (Int × Tok), vs.toArray = intItems xs ∧ 0 < xs.size ∧ numsOf (intItems xs).toList = zs := by
  obtain ⟨xs, e⟩ := (show AllInts vs.toArray from hi.allInts).items
  refine ⟨xs, e, ?_, ?_⟩
  · have h1 := hi.length
    have h2 := congrArg Array.size e
    simp [intItems] at h2
    have : zs.length ≠ 0 := by simpa using hne
    omega
  · rw [← e]; exact hi.numsOf
theorem cd_min (hc : X.calm = true) : CallD X (.builtin "min") bMin := by
  intro pins s σ H Z m xs ds us R Q I ok rv rd h k
  unfold bMin at h
  split at h
  · obtain ⟨v, w, rfl, r1, r2⟩ := rd.two
    cases r1.int
    cases r2.int
    exact call_min2 hc pins s σ H _ us Q I rv ⟨_, _, rfl, k _ m _ H h Ext.refl ok .ofInt⟩
  · obtain ⟨v, rfl, r1⟩ := rd.one
    obtain ⟨u, rfl, ru⟩ := vals1 rv
    obtain ⟨zs, rfl, hne, q⟩ := h
    simp only [RD, RP] at r1
    obtain ⟨a, vs, rfl, _, hsq, rp⟩ := r1
    cases rps_intsI rp
    obtain rfl : u = Value.ref a := ru
    obtain ⟨its, rvs, pl, _⟩ := I.list hsq
    obtain ⟨xs, ex, hsz, en⟩ := nums_list (ints_of_vals rvs) hne
    refine min_intList (I.ok.hd hc) (by rw [← ex]; exact pl.isList) hsz fun v h' tk hv hk => ?_
    obtain ⟨t, rfl⟩ := intItems_at hv
    obtain ⟨h1, h2⟩ := argBest_lt (numAt xs) (xs.size - 1)
    refine ⟨.int _, H, I.kept hk, ⟨_, rfl⟩, k _ m _ H (q _ ?_ fun a ha => ?_) Ext.refl ok .ofInt⟩
    · rw [← en, nums_intItems, numAt_eq]; exact getD_mem (by rw [List.length_map, Array.length_toList]; omega)
    · rw [← en, nums_intItems] at ha
      obtain ⟨j, hj, rfl⟩ := mem_getD ha
      rw [List.length_map, Array.length_toList] at hj
      rw [← numAt_eq]; exact h2 j (by omega)
  · exact h.elim
theorem cd_maxL (hc : X.calm = true) : CallD X (.builtin "max") bMaxL := by
  intro pins s σ H Z m xs ds us R Q I ok rv rd h k
  unfold bMaxL at h
  split at h
  · obtain ⟨v, rfl, r1⟩ := rd.one
    obtain ⟨u, rfl, ru⟩ := vals1 rv
    obtain ⟨zs, rfl, hne, q⟩ := h
    simp only [RD, RP] at r1
    obtain ⟨a, vs, rfl, _, hsq, rp⟩ := r1
    cases rps_intsI rp
    obtain rfl : u = Value.ref a := ru
    obtain ⟨its, rvs, pl, _⟩ := I.list hsq
    obtain ⟨xs, ex, hsz, en⟩ := nums_list (ints_of_vals rvs) hne
    refine max_intList (I.ok.hd hc) (by rw [← ex]; exact pl.isList) hsz fun v h' tk hv hk => ?_
    obtain ⟨t, rfl⟩ := intItems_at hv
    obtain ⟨h1, h2⟩ := argBest_gt (numAt xs) (xs.size - 1)
    refine ⟨.int _, H, I.kept hk, ⟨_, rfl⟩, k _ m _ H (q _ ?_ fun a ha => ?_) Ext.refl ok .ofInt⟩
    · rw [← en, nums_intItems, numAt_eq]; exact getD_mem (by rw [List.length_map, Array.length_toList]; omega)
    · rw [← en, nums_intItems] at ha
      obtain ⟨j, hj, rfl⟩ := mem_getD ha
      rw [List.length_map, Array.length_toList] at hj
      rw [← numAt_eq]; exact h2 j (by omega)
  · exact h.elim
end
theorem boot_min_ : bootBuiltins "min" = some (.builtin "min") := by decide +kernel
end DL
set_option Elab.async false
set_option linter.all false
set_option maxRecDepth 100000
set_option maxHeartbeats 4000000
namespace DL
open PySem PySem.Spec PyProof.Rows L2
section
variable {X : Cx} {o i e g ek : Expr} {fo fi f fg fk : DE} {pos apos cpos : Pos}
@[simp] def dNDisp1 (fk f : DE) : DE := fun d m Q => ∀ c, m c = none → fk d (updM m c (.n [])) fun y m2 => ∃ ks, keyN y = some ks ∧ f d m2 fun x m3 => m3 c = some (.n []) ∧ Q (.cel c) (updM m3 c (.n [(ks, x)]))
theorem le_ndisp1 (hu : X.A.units + 100 < cLine) (hk : PE X ek (LE X.K fk)) (he : PE X e (LE X.K f))
    (hsh : (evalEachOpt [some ek] X.env).zip ((evalEach [e] X.env).map fun v => do let x ← v; standAt pos; pure x) = [(some (eval ek X.env), do let x ← eval e X.env; standAt pos; pure x)] := by rfl) : PE X (.Dict [some ek] [e] pos) (LE X.K (dNDisp1 fk f)) := by
  intro pins s σ H Q I h
  obtain ⟨Z, d, m, R, ok, rs, h, k⟩ := h
  have hn := I.hok.fresh (Nat.le_refl s.heap.objs.size)
  have hk0 : X.K.lookup s.heap.objs.size = none := by
    cases e : X.K.lookup s.heap.objs.size with
    | none => rfl
    | some o => exact absurd (Heap.lt_size (I.kIn _ o e)) (Nat.lt_irrefl _)
  have e0 : Ext X.K Z m H (updM m s.heap.objs.size (.n [])) (upd H s.heap.objs.size (.dN X.K [])) := Ext.cell ok hn hk0
  have ok0 : Ok X.K Z (updM m s.heap.objs.size (.n [])) (upd H s.heap.objs.size (.dN X.K [])) := ok.cell hn hk0 (show RC _ _ _ _ (.n []) (.dN X.K []) from ⟨rfl, rfl⟩)
  have I1 := I.laid (a := s.heap.objs.size) (o := .dN X.K []) (h' := s.heap.push { cls := .type "dict", data := .dict #[] }) (t' := s.toks) (fun _ _ q => Heap.get?_push_of_some _ q) (Nat.le_refl _) (dn_empty s.heap I.big)
  rw [arm_eval_Dict, hsh]
  have sh := dictDisplay_pairs [(eval ek X.env, do let x ← eval e X.env; standAt pos; pure x)] (by simp) (show (1 : Nat) < 17 by decide)
  rw [List.map_cons, List.map_nil] at sh
  rw [sh]
  refine wpAny_bind (wpAny_standAt (wpAny_bind ?_))
  unfold subDict
  refine wpAny_bind (wpAny_alloc ?_)
  refine wpAny_bind (wpAny_holding ?_)
  rw [if_pos (by show (1 : Nat) ≤ 15; decide)]
  have hq := h _ (ok_none ok hn).1
  refine wpAny_bind (evalPairs_cons (thn (hk pins _ σ _ (fun v H1 => ∃ b ks m2, v = .ref b ∧ NKV X.K H1 (.tuple ks) (.ref b) ∧ (L2.isKs ks = true ∧ PyData.depthAll ks ≤ 6) ∧ (f d m2 fun x m3 => m3 s.heap.objs.size = some (.n []) ∧ R (.cel s.heap.objs.size) (updM m3 s.heap.objs.size (.n [(ks, x)]))) ∧ Ext X.K Z m H m2 H1 ∧ Ok X.K Z m2 H1) I1
    ⟨Z, d, _, _, ok0, rs.ext e0, hq, fun y m2 v H1 ⟨ks, ey, q⟩ e1 ok1 rd => ?_⟩) fun kv s1 ⟨v, H1, I1', rv, b, ks, m2, ev, nk, hkk, q1, e1, ok1⟩ => ?_))
  · obtain ⟨rfl, hkk⟩ := keyN_of ey
    have r3 := RP.nkv (.tuple ks) v hkk.1 rd
    have r4 := r3
    simp only [NKV] at r4
    obtain ⟨b, vs, rfl, _⟩ := r4
    exact ⟨b, ks, m2, rfl, r3, hkk, q, e0.trans e1, ok1⟩
  subst ev
  obtain rfl : kv = Value.ref b := rv
  refine wpAny_bind (thn (he pins s1 σ H1 (fun w H2 => ∃ x m3, RD X.K Z m3 H2 x w ∧ NKV X.K H2 (.tuple ks) (.ref b) ∧ m3 s.heap.objs.size = some (.n []) ∧ R (.cel s.heap.objs.size) (updM m3 s.heap.objs.size (.n [(ks, x)])) ∧ Ext X.K Z m2 H1 m3 H2 ∧ Ok X.K Z m3 H2) I1'
    ⟨Z, d, m2, _, ok1, rs.ext e1, q1, fun x m3 w H2 ⟨hm, q2⟩ e2 ok2 r2 => ?_⟩) fun vv s2 ⟨w, H2, I2, rw2, x, m3, rx, nk2, hm, q2, e2, ok2⟩ => ?_)
  · refine ⟨x, m3, r2, ?_, hm, q2, e2, ok2⟩
    exact RP.nkv (Z := Z) (m := m3) (.tuple ks) (.ref b) hkk.1 (RP.ext e2 _ _ (NKV.rp (.tuple ks) (.ref b) nk))
  refine wpAny_bind (wpAny_standAt (wpAny_pure (evalPairs_nil ?_)))
  refine wpAny_holding ?_
  obtain ⟨ws, g1, g2⟩ := ok2.n hm
  cases (show ws = [] from g2)
  obtain ⟨z, hd, xs, rel, dd⟩ := dn_of I2 g1
  cases rel
  rw [List.forIn_cons]
  refine wpAny_bind (wpAny_bind (wpAny_bind (wpAny_dictSet_heap (hsz := by simp) (knd := nestKind X.prog X.w) ?_ (nkey_of I2 ⟨hkk.1, hkk.2, nk2⟩) dd fun h' dd' hs' => wpAny_pure ?_)))
  · show X.A.units + 20 < cLine
    omega
  obtain ⟨q, es, ep, hq', h2, h3, h4, _, h5⟩ := dd'
  have ht : ∀ b' xs', H2 b' = some (.tup xs') → upd H2 s.heap.objs.size (.dN X.K (putK [] ks w)) b' = some (.tup xs') := fun b' xs' e => by rw [upd_ne (ne_of e g1 (fun z => nomatch z))]; exact e
  have hf : ∀ b' ob u', H2 b' = some (.frz ob u') → upd H2 s.heap.objs.size (.dN X.K (putK [] ks w)) b' = some (.frz ob u') := fun b' ob u' e => by rw [upd_ne (ne_of e g1 (fun z => nomatch z))]; exact e
  have I3 := d_write (t' := s2.toks + (nestKind X.prog X.w).draws ks) (ob := .dN X.K (putK [] ks w)) I2 (by rw [g1]; exact True.intro) hs' ⟨q, hq'⟩ ⟨by show (putK [] ks w).length ≤ sizeLine; rw [sizeLine_eq]; have := length_putK ([] : List (List PyData × V)) ks w; simp at this; omega, hd, _, Paired.mapP (KN.put .nil ks ⟨hkk.1, hkk.2, nk2⟩ rw2) (fun p q z => ⟨z.1, ⟨z.2.1.1, z.2.1.2.1, NKV.stay ht hf _ _ z.2.1.2.2⟩, z.2.2⟩), q, es, ep, hq', h2, h3, h4, h5⟩
  have e4 : Ext X.K Z m3 H2 (updM m3 s.heap.objs.size (.n [(ks, x)])) (upd H2 s.heap.objs.size (.dN X.K (putK [] ks w))) := Ext.put ok2 hm g1
  have fin := k _ _ (.ref s.heap.objs.size) _ q2 (e1.trans (e2.trans e4)) (ok2.put hm g1 ⟨rfl, RKW.put (kvs := []) (vs := []) rfl rx.rw⟩) ⟨rfl, by rw [updM_same]; rfl⟩
  exact wpAny_pure (wpAny_pure (wpAny_pure (wpAny_pure ⟨.ref s.heap.objs.size, _, I3, rfl, fin⟩)))
@[simp] def dNGet2 (fo fi fg : DE) : DE := fun d m Q => fo d m fun o m1 => ∃ c, o = .cel c ∧ (∃ kvs, m1 c = some (.n kvs)) ∧ fi d m1 fun y m2 => ∃ ks, keyN y = some ks ∧ fg d m2 fun z m3 => ∃ kvs, m3 c = some (.n kvs) ∧ match valG kvs ks with
  | some x => (∀ b, x = .cel b → (m3 b).isSome = true) ∧ Q x m3
  | none => Q z m3
theorem le_nget2 (hu : X.A.units + 100 < cLine) (ho : PE X o (LE X.K fo)) (hi : PE X e (LE X.K fi)) (hf : PE X g (LE X.K fg))
    (hbase : attributeBase o "get" X.env (eval o X.env) = eval o X.env := by rfl)
    (hfew : ((backTo cpos (starEach [e, g] X.env)).all (fun x => !x.1) && (backToKw cpos (keywordEach [] X.env)).all (fun x => x.1.isSome) && decide (([e, g] : List Expr).length + ([] : List Keyword).length + (if ([] : List Keyword).isEmpty then 0 else 1) < 30)) = true := by rfl)
    (hline : (apos.endLine == cpos.line) = true := by rfl) (hs : backTo cpos (starEach [e, g] X.env) = [(false, eval e X.env), (false, eval g X.env)] := by rfl) :
    PE X (.Call (.Attribute o "get" apos) [e, g] [] cpos) (LE X.K (dNGet2 fo fi fg)) := by
  intro pins s σ H Q I h
  obtain ⟨Z, d, m, R, ok, rs, h, k⟩ := h
  refine wpAny_Call_method hbase hfew hline PySem.F.plainAttrs_dict PySem.F.slot_dict_get PySem.F.type_dict_get (thn (ho pins s σ H (fun x H1 => ∃ c m1 kvs, x = .ref c ∧ m1 c = some (.n kvs) ∧ (fi d m1 fun y m2 => ∃ ks, keyN y = some ks ∧ fg d m2 fun z m3 => ∃ kvs, m3 c = some (.n kvs) ∧ match valG kvs ks with
      | some x => (∀ b, x = .cel b → (m3 b).isSome = true) ∧ R x m3
      | none => R z m3) ∧ Ext X.K Z m H m1 H1 ∧ Ok X.K Z m1 H1) I
    ⟨Z, d, m, _, ok, rs, h, fun x m1 v H1 ⟨c, ex, ⟨kvs, hm⟩, q⟩ e1 ok1 rd => by subst ex; exact ⟨c, m1, kvs, rd.1, hm, q, e1, ok1⟩⟩) fun u s1 ⟨x, H1, I1, rx, c, m1, kvs1, ex, hm1, q1, e1, ok1⟩ => ?_)
  subst ex
  obtain rfl : u = Value.ref c := rx
  obtain ⟨ws1, g1, _⟩ := ok1.n hm1
  obtain ⟨_, hdm, xs1, _, dd1⟩ := dn_of I1 g1
  refine ⟨dd1.typeIs, fun b q => ?_, ?_⟩
  · cases q
    obtain ⟨ob, _, _, h1, h2, _⟩ := dd1
    exact ⟨ob, h1, h2.2.1⟩
  rw [hs]
  refine Calls.callWith_builtin rfl (Calls.evalArgs_plain (Calls.spliced_cons (thn (hi pins s1 σ _ (fun v H2 => ∃ (ks : List PyData) (b : Addr) (m2 : Mu), v = .ref b ∧ RP X.K Z m2 H2 (.tuple ks) (.ref b) ∧ (L2.isKs ks = true ∧ PyData.depthAll ks ≤ 6) ∧ (fg d m2 fun z m3 => ∃ kvs, m3 c = some (.n kvs) ∧ match valG kvs ks with
      | some x => (∀ b, x = .cel b → (m3 b).isSome = true) ∧ R x m3
      | none => R z m3) ∧ Ext X.K Z m H m2 H2 ∧ Ok X.K Z m2 H2) I1 ⟨Z, d, m1, _, ok1, rs.ext e1, q1, fun y m2 v H2 ⟨ks, ey, hq⟩ e2 ok2 r2 => ?_⟩) fun iv s2 ⟨y, H2, I2, ry, ks, b, m2, ey, rp, hk, q2, e2, ok2⟩ =>
    Calls.spliced_cons (thn (hf pins s2 σ H2 (fun w H3 => ∃ (z : D) (m3 : Mu) (kvs : List (List PyData × D)), RD X.K Z m3 H3 z w ∧ RP X.K Z m3 H3 (.tuple ks) (.ref b) ∧ m3 c = some (.n kvs) ∧ (match valG kvs ks with
      | some x => (∀ b, x = .cel b → (m3 b).isSome = true) ∧ R x m3
      | none => R z m3) ∧ Ext X.K Z m H m3 H3 ∧ Ok X.K Z m3 H3) I2 ⟨Z, d, m2, _, ok2, rs.ext e2, q2, fun z m3 w H3 ⟨kvs, hm, hq⟩ e3 ok3 r3 => ⟨z, m3, kvs, r3, RP.ext e3 _ _ rp, hm, hq, e2.trans e3, ok3⟩⟩) fun fv s3 ⟨w, H3, I3, rw3, z, m3, kvs, rz, rp3, hm, q3, e3, ok3⟩ => Calls.spliced_nil ?_))))
  · obtain ⟨rfl, hk⟩ := keyN_of ey
    have r4 := r2
    simp only [RD, RP] at r4
    obtain ⟨b, vs, rfl, _⟩ := r4
    exact ⟨ks, b, m2, rfl, r2, hk, hq, e1.trans e2, ok2⟩
  · subst ey
    obtain rfl : iv = Value.ref b := ry
    obtain ⟨ws, g1, g2⟩ := ok3.n hm
    obtain ⟨_, hd, xs, rel, dd⟩ := dn_of I3 g1
    have r3 := RP.nkv (.tuple ks) (.ref b) hk.1 rp3
    refine call_meetsIn PySem.F.slot_dict_get dd.typeIs PySem.F.entry_dict_get (PySem.F.args_dict_get_3 _ _ _) (meetsH_dict_get_default (nestKind X.prog X.w) c b hd fv) ⟨nroom hu, ks, xs, nkey_of I3 ⟨hk.1, hk.2, r3⟩, dd, ?_⟩
    have rl := rel.val ks
    cases hv : valG kvs ks with
    | none =>
      rw [hv] at q3
      have hn : valV ws ks = none := by
        have := (g2.val (k := ks)).2
        rw [hv] at this
        cases e : valV ws ks with
        | none => rfl
        | some _ => rw [e] at this; cases this
      rw [hn] at rl
      have : (atKey xs ks).map (·.2) = none := by
        cases e : (atKey xs ks).map (·.2) with
        | none => rfl
        | some _ => rw [e] at rl; exact rl.elim
      rw [this]
      exact ⟨w, H3, I3.tok _, rw3, k _ m3 _ H3 q3 e3 ok3 rz⟩
    | some x =>
      rw [hv] at q3
      obtain ⟨v, hv', rv⟩ := (g2.val (k := ks)).1 _ hv
      obtain ⟨w', hw, rw'⟩ := RelO.some_of (v := v) (o := (atKey xs ks).map (·.2)) (by rw [← hv']; exact rl)
      rw [hw]
      exact ⟨v, H3, I3.tok _, rw', k _ m3 _ H3 q3.2 e3 ok3 (rv.rd q3.1)⟩
end
end DL
set_option Elab.async false
set_option linter.all false
set_option maxRecDepth 100000
set_option maxHeartbeats 4000000
namespace DL
open PySem PySem.Spec PyProof.Rows L2
def pickL {α : Type} (e : Int) (xs : List α) : List α := (sliceRange (sliceBounds none none (some e) xs.length).1 (sliceBounds none none (some e) xs.length).2.1 (sliceBounds none none (some e) xs.length).2.2).filterMap (xs[·]?)
theorem pickL_mem {α : Type} {e : Int} {xs : List α} {x : α} (h : x ∈ pickL e xs) : x ∈ xs := by
  obtain ⟨i, _, q⟩ := List.mem_filterMap.mp h
  exact List.mem_of_getElem? q
theorem pick_rel {α β : Type} {R : α → β → Prop} {xs : List α} {ys : List β} (hl : xs.length = ys.length) (h : ∀ (i : Nat) x y, xs[i]? = some x → ys[i]? = some y → R x y) (F : List α → List β → Prop) (f0 : F [] []) (f1 : ∀ x y l r, R x y → F l r → F (x :: l) (y :: r)) (e : Int) : F (pickL e xs) (pickL e ys) := by
  unfold pickL
  rw [← hl]
  induction sliceRange (sliceBounds none none (some e) xs.length).1 (sliceBounds none none (some e) xs.length).2.1 (sliceBounds none none (some e) xs.length).2.2 with
  | nil => exact f0
  | cons i L ih =>
    rw [List.filterMap_cons, List.filterMap_cons]
    cases q : xs[i]? with
    | none =>
      have : ys[i]? = none := List.getElem?_eq_none (by rw [← hl]; exact List.getElem?_eq_none_iff.mp q)
      rw [this]
      exact ih
    | some x =>
      have lt := (List.getElem?_eq_some_iff.mp q).1
      have e2 : ys[i]? = some (ys[i]'(by omega)) := List.getElem?_eq_getElem _
      rw [e2]
      exact f1 _ _ _ _ (h _ _ _ q e2) ih
theorem pick_eq (its : List Value) (e : Int) : slicePick its.toArray none none (some e) = (pickL e its).toArray := by
  unfold slicePick pickL
  have : (fun x : Nat => its.toArray[x]?) = fun x => its[x]? := by funext i; simp
  rw [List.size_toArray, this]
theorem pickL_len (its : List Value) (e : Int) : (pickL e its).length ≤ its.length := by
  have := slicePick_size_le its.toArray none none (some e)
  rw [pick_eq, List.size_toArray, List.size_toArray] at this
  exact this
section
variable {X : Cx} {a e : Expr} {f g : DE} {pos p2 : Pos}
@[simp] def dStepL (f g : DE) : DE := fun d m Q => f d m fun x m1 => g d m1 fun y m2 => ∃ (e : Int) (xs : List PyData), y = .dat (.int e) ∧ e ≠ 0 ∧ (x = .dat (.list xs) ∨ ∃ c, x = .cel c ∧ m2 c = some (.l xs)) ∧ Q (.dat (.list (pickL e xs))) m2
theorem le_stepL (ha : PE X a (LE X.K f)) (he : PE X e (LE X.K g)) : PE X (.Subscript a (.Slice none none (some e) p2) pos) (LE X.K (dStepL f g)) := by
  intro pins s σ H Q I h
  obtain ⟨Z, d, m, R, ok, rs, h, kk⟩ := h
  refine Subscript_ (thn (ha pins s σ H (fun x H1 => ∃ dx m1, RD X.K Z m1 H1 dx x ∧ (g d m1 fun y m2 => ∃ (e : Int) (xs : List PyData), y = .dat (.int e) ∧ e ≠ 0 ∧ (dx = .dat (.list xs) ∨ ∃ c, dx = .cel c ∧ m2 c = some (.l xs)) ∧ R (.dat (.list (pickL e xs))) m2) ∧ Ext X.K Z m H m1 H1 ∧ Ok X.K Z m1 H1) I
    ⟨Z, d, m, _, ok, rs, h, fun x m1 v H1 q e1 ok1 rd => ⟨x, m1, rd, q, e1, ok1⟩⟩) fun v s1 ⟨x, H1, I1, r1, dx, m1, rd, q, e1, ok1⟩ => ?_)
  refine wpAny_Slice ?_
  rw [evalPart_none]
  refine wpAny_pure (wpAny_pure ?_)
  rw [evalPart_some]
  refine thn (he pins s1 σ H1 (fun y H2 => ∃ (n : Int) (xs : List PyData) (m2 : Mu) (c : Addr) (vs : List V), y = .int n ∧ n ≠ 0 ∧ x = .ref c ∧ SqL X.K H2 c vs ∧ RPs X.K Z m2 H2 xs vs ∧ R (.dat (.list (pickL n xs))) m2 ∧ Ext X.K Z m1 H1 m2 H2 ∧ Ok X.K Z m2 H2) I1
    ⟨Z, d, m1, _, ok1, rs.ext e1, q, fun y m2 w H2 ⟨n, xs, ey, h0, hx, q2⟩ e2 ok2 r2 => ?_⟩) fun iv s2 ⟨y, H2, I2, ry, n, xs, m2, c, vs, ey, h0, ex, hsq, rp, q2, e2, ok2⟩ => ?_
  · subst ey
    have rx := rd.ext e2
    rcases hx with rfl | ⟨c, rfl, hm⟩
    · simp only [RD, RP] at rx
      obtain ⟨c, vs, rfl, _, h1, h2⟩ := rx
      exact ⟨n, xs, m2, c, vs, r2.int, h0, rfl, h1, h2, q2, e2, ok2⟩
    · obtain ⟨o, h1, h2⟩ := ok2.g _ _ hm
      obtain ⟨rfl, _⟩ := rx
      cases o <;> first | exact ⟨n, xs, m2, c, _, r2.int, h0, rfl, .inl (.inl h1), h2, q2, e2, ok2⟩ | exact h2.elim
  subst ey; subst ex
  obtain ⟨tk, rfl⟩ := ry
  obtain rfl : v = Value.ref c := r1
  have I4 : ∀ t, Inv X pins σ H2 { s2 with heap := s2.heap.push { cls := .type "slice", data := .fields #[.none, .none, .int n tk] }, toks := t } := fun t => I2.kept fun b ob q => Heap.get?_push_of_some _ q
  obtain ⟨its, r, ht, hz⟩ := (I4 s2.toks).list hsq
  have hl := r.length
  have hzz : its.toArray.size ≤ sizeLine := by rw [List.size_toArray]; omega
  refine tail_any (ops := [.ref c, .ref s2.heap.objs.size]) ht.isList.typeIs PySem.F.slot_list_getitem.lookup (wpAny_getItem_list_slice (s := { s2 with heap := s2.heap.push { cls := .type "slice", data := .fields #[.none, .none, .int n tk] } }) ht.isList (Heap.IsSliceOf.new ..) .none .none (.int n tk) (by simpa using h0) ?_ hzz) (by with_unfolding_all rfl)
  rw [pick_eq]
  have hp := (I4 s2.toks).hok.fresh (Nat.le_refl _)
  have sm : Same H2 (upd H2 (s2.heap.push { cls := .type "slice", data := .fields #[.none, .none, .int n tk] }).objs.size (.lst (pickL n vs))) := same_new hp
  refine ⟨.ref _, upd H2 _ (.lst (pickL n vs)), (I4 s2.toks).laid (t' := s2.toks) (fun b ob q => Heap.get?_push_of_some _ q) (Nat.le_refl _) ?_, rfl, kk _ m2 _ _ q2 (e1.trans (e2.trans (ok2.ext sm))) (ok2.grow sm) ?_⟩
  · have hv : Vals (pickL n vs) (pickL n its) := pick_rel (Vals.rel r).1 (Vals.rel r).2 (fun l r => Vals l r) .nil (fun x y l r q1 q2 => .cons q1 q2) n
    exact ⟨by rw [hv.length]; exact Nat.le_trans (pickL_len its n) (by omega), _, 0, hv, Heap.get?_push_size _ rfl⟩
  · simp only [RD, RP]
    exact ⟨_, _, rfl, ok_none ok2 hp, .inl (.inl upd_same), RPs.ext (ok2.ext sm) _ _ (pick_rel (RPs.rel rp).1 (RPs.rel rp).2 (fun l r => RPs X.K Z m2 H2 l r) rfl (fun x y l r q1 q2 => ⟨_, _, rfl, q1, q2⟩) n)⟩
end
end DL
set_option Elab.async false
set_option linter.all false
set_option maxRecDepth 100000
set_option maxHeartbeats 4000000
namespace DL
open PySem PySem.Spec PyProof.Rows L2
structure QE (X : Cx) (e : Expr) (t : TE) : Prop where
  pe : PE X e t
structure QA (X : Cx) (e : List Expr) (t : TA) : Prop where
  pe : PA X e t
structure QT (X : Cx) (e : Expr) (t : TT) : Prop where
  pe : PT X e t
structure QW (X : Cx) (e : Expr) (t : TT) : Prop where
  pe : PW X e t
structure QS (X : Cx) (e : Stmt) (t : TS) : Prop where
  pe : PS X e t
structure QSs (X : Cx) (e : List Stmt) (t : TS) : Prop where
  pe : PSs X e t
structure QG (X : Cx) (e : Expr) (t : TG) : Prop where
  pe : PG X e t
structure QGs (X : Cx) (e : List Expr) (t : TGs) : Prop where
  pe : PGs X e t
structure QO (X : Cx) (e : Option Expr) (t : TO) : Prop where
  pe : PO X e t
structure QF (X : Cx) (e : List Expr) (t : TT) : Prop where
  pe : PF X e t
structure QI (X : Cx) (tg e : Expr) (t : TI) : Prop where
  pe : PI X tg e t
structure QD (X : Cx) (p : Pos) (k : List (Option Expr)) (v : List Expr) (t : List (DE × DE)) : Prop where
  pe : PD X p k v t
theorem QW.pt {X : Cx} {e : Expr} {t : TT} (h : QW X e t) : QT X e t := ⟨h.pe.pt⟩
section
variable {X : Cx} {pos : Pos}
theorem qle_var (i : Nat) {x : Str} (hN : X.N[i]? = some x := by rfl) (hv : Vis X.env.scope x := by first | exact Or.inl rfl | exact Or.inr (Or.inl rfl) | exact Or.inr (Or.inr rfl)) (hd : (x == ("__debug__" : Str)) = false := by decide) (hcd : (x == ("__classdict__" : Str)) = false := by decide) : QE X (.Name x pos) (LE X.K (dVar i)) := ⟨le_var (i := i) (hN := hN) (hv := hv) (hd := hd) (hcd := hcd)⟩
end
section
variable {X : Cx} {pos : Pos}
theorem qle_int {i : Int} {j : Nat} : QE X (.Constant (.int i) j pos) (LE X.K (dCon (.int i))) := ⟨le_int ⟩
end
section
variable {X : Cx} {pos : Pos}
theorem qle_bl {b : Bool} {j : Nat} : QE X (.Constant (.bool b) j pos) (LE X.K (dCon (.bool b))) := ⟨le_bl ⟩
end
section
variable {X : Cx} {pos : Pos}
end
section
variable {X : Cx} {pos : Pos}
theorem qle_str {x : Str} {j : Nat} : QE X (.Constant (.str x) j pos) (LE X.K (dCon (.str x))) := ⟨le_str ⟩
end
section
variable {X : Cx} {a b c : Expr} {f g : DE} {pos : Pos}
theorem qle_bin {op : Operator} {r : D2} (ho : OpD X (binaryOp op) r) (ha : QE X a (LE X.K f)) (hb : QE X b (LE X.K g)) : QE X (.BinOp a op b pos) (LE X.K (dBin r f g)) := ⟨le_bin (ho := ho) (ha := ha.pe) (hb := hb.pe)⟩
end
section
variable {X : Cx} {a b c : Expr} {f g : DE} {pos : Pos}
theorem qle_cmp {op : CmpOp} {r : D2} (ho : OpD X (compareOp op) r) (ha : QE X a (LE X.K f)) (hb : QE X b (LE X.K g)) (hm : behindInMarks op b = false := by exact nomark _) : QE X (.Compare a [op] [b] pos) (LE X.K (dBin r f g)) := ⟨le_cmp (ho := ho) (ha := ha.pe) (hb := hb.pe) (hm := hm)⟩
end
section
variable {X : Cx} {a b c : Expr} {f g : DE} {pos : Pos}
theorem qlt_cmp {op : CmpOp} {r : D2} (ho : OpD X (compareOp op) r) (ha : QE X a (LE X.K f)) (hb : QE X b (LE X.K g)) (hm : behindInMarks op b = false := by exact nomark _) : QT X (.Compare a [op] [b] pos) (LT X.K (dTst (dBin r f g))) := ⟨lt_cmp (ho := ho) (ha := ha.pe) (hb := hb.pe) (hm := hm)⟩
end
section
variable {X : Cx} {a b c : Expr} {f g : DE} {pos : Pos}
theorem qlt_val (h : QE X a (LE X.K f)) (he : ∀ whole, isTrue a X.env whole = (do let v ← whole; standAt a.pos; holding [v] (truthy v)) := by intro _; rfl) : QT X a (LT X.K (dTst f)) := ⟨lt_val (h := h.pe) (he := he)⟩
end
section
variable {X : Cx} {a b c : Expr} {rest : List Expr} {f g : DE} {t u : DT} {pos : Pos}
theorem qlw_and1 (ha : QT X a (LT X.K t)) : QW X (.BoolOp .And [a] pos) (LT X.K t) := ⟨lw_and1 (ha := ha.pe)⟩
end
section
variable {X : Cx} {a b c : Expr} {rest : List Expr} {f g : DE} {t u : DT} {pos : Pos}
theorem qlw_or1 (ha : QT X a (LT X.K t)) : QW X (.BoolOp .Or [a] pos) (LT X.K t) := ⟨lw_or1 (ha := ha.pe)⟩
end
section
variable {X : Cx} {a b c : Expr} {rest : List Expr} {f g : DE} {t u : DT} {pos : Pos}
theorem qlw_and (ha : QT X a (LT X.K t)) (hb : QW X (.BoolOp .And (b :: rest) pos) (LT X.K u)) : QW X (.BoolOp .And (a :: b :: rest) pos) (LT X.K (dAndT t u)) := ⟨lw_and (ha := ha.pe) (hb := hb.pe)⟩
end
section
variable {X : Cx} {a b c : Expr} {rest : List Expr} {f g : DE} {t u : DT} {pos : Pos}
theorem qlw_or (ha : QT X a (LT X.K t)) (hb : QW X (.BoolOp .Or (b :: rest) pos) (LT X.K u)) : QW X (.BoolOp .Or (a :: b :: rest) pos) (LT X.K (dOrT t u)) := ⟨lw_or (ha := ha.pe) (hb := hb.pe)⟩
end
section
variable {X : Cx} {a b c : Expr} {rest : List Expr} {f g : DE} {t u : DT} {pos : Pos}
end
section
variable {X : Cx} {a b c : Expr} {rest : List Expr} {f g : DE} {t u : DT} {pos : Pos}
theorem qle_one {op : BoolOp} (h : QE X a (LE X.K f)) : QE X (.BoolOp op [a] pos) (LE X.K f) := ⟨le_one (h := h.pe)⟩
end
section
variable {X : Cx} {a b c : Expr} {rest : List Expr} {f g : DE} {t u : DT} {pos : Pos}
theorem qle_and (ha : QE X a (LE X.K f)) (hb : QE X (.BoolOp .And (b :: rest) pos) (LE X.K g)) : QE X (.BoolOp .And (a :: b :: rest) pos) (LE X.K (dAnd f g)) := ⟨le_and (ha := ha.pe) (hb := hb.pe)⟩
end
section
variable {X : Cx} {a b c : Expr} {rest : List Expr} {f g : DE} {t u : DT} {pos : Pos}
end
section
variable {X : Cx} {a b c : Expr} {rest : List Expr} {f g : DE} {t u : DT} {pos : Pos}
end
section
variable {X : Cx} {a b c : Expr} {rest : List Expr} {f g : DE} {t u : DT} {pos : Pos}
theorem qle_ite (hc : QT X c (LT X.K t)) (ha : QE X a (LE X.K f)) (hb : QE X b (LE X.K g)) : QE X (.IfExp c a b pos) (LE X.K (dIte t f g)) := ⟨le_ite (hc := hc.pe) (ha := ha.pe) (hb := hb.pe)⟩
end
section
variable {X : Cx} {e : Expr} {es : List Expr} {f : DE} {g : DA} {pos : Pos}
theorem qla_nil  : QA X [] (LA X.K dNil) := ⟨la_nil ⟩
end
section
variable {X : Cx} {e : Expr} {es : List Expr} {f : DE} {g : DA} {pos : Pos}
theorem qla_cons (ha : QE X e (LE X.K f)) (hr : QA X es (LA X.K g)) (hs : starEach (e :: es) X.env = (false, eval e X.env) :: starEach es X.env := by rfl) : QA X (e :: es) (LA X.K (dCons f g)) := ⟨la_cons (ha := ha.pe) (hr := hr.pe) (hs := hs)⟩
end
section
variable {X : Cx} {e : Expr} {es : List Expr} {f : DE} {g : DA} {pos : Pos}
theorem qle_tup {j : Nat} (h : QA X es (LA X.K g)) : QE X (.Tuple es j pos) (LE X.K (dTup g)) := ⟨le_tup (h := h.pe)⟩
end
section
variable {X : Cx} {e : Expr} {es : List Expr} {f : DE} {g : DA} {pos : Pos}
theorem qle_lst (h : QA X es (LA X.K g)) : QE X (.List es pos) (LE X.K (dLst g)) := ⟨le_lst (h := h.pe)⟩
end
section
variable {X : Cx} {e : Expr} {es : List Expr} {f : DE} {g : DA} {pos : Pos}
theorem qle_lstC (h : QA X es (LA X.K g)) : QE X (.List es pos) (LE X.K (dLstC g)) := ⟨le_lstC (h := h.pe)⟩
end
section
variable {X : Cx} {a b c e : Expr} {es : List Expr} {f g : DE} {ga : DA} {pos p2 p : Pos}
end
section
variable {X : Cx} {a b c e : Expr} {es : List Expr} {f g : DE} {ga : DA} {pos p2 p : Pos}
theorem qle_ix (ha : QE X a (LE X.K f)) (hb : QE X b (LE X.K g)) (hs : PlainIx b := by exact fun _ _ => rfl) : QE X (.Subscript a b pos) (LE X.K (dBin aIx f g)) := ⟨le_ix (ha := ha.pe) (hb := hb.pe) (hs := hs)⟩
end
section
variable {X : Cx} {a b c e : Expr} {es : List Expr} {f g : DE} {ga : DA} {pos p2 p : Pos}
theorem qlo_none  : QO X none (LO X.K dNoP) := ⟨lo_none ⟩
end
section
variable {X : Cx} {a b c e : Expr} {es : List Expr} {f g : DE} {ga : DA} {pos p2 p : Pos}
theorem qlo_some (ha : QE X a (LE X.K f)) : QO X (some a) (LO X.K (dPart f)) := ⟨lo_some (ha := ha.pe)⟩
end
section
variable {X : Cx} {a b c e : Expr} {es : List Expr} {f g : DE} {ga : DA} {pos p2 p : Pos}
end
section
variable {X : Cx} {a b c e : Expr} {es : List Expr} {f g : DE} {ga : DA} {pos p2 p : Pos}
theorem qle_callB {x : Str} {id : String} {r : DC} (hc : CallD X (.builtin id) r) (hg : Gl X x) (hm : X.mg x = none) (hv : bootBuiltins x = some (.builtin id)) (ha : QA X (e :: es) (LA X.K ga)) (hn : x ≠ "__name__" := by decide) (hdb : (x == ("__debug__" : Str)) = false := by decide) (he : starEach (e :: es) X.env = (false, eval e X.env) :: starEach es X.env := by rfl) (hpl : (backTo pos (starEach es X.env)).any (·.1) = false := by rfl) : QE X (.Call (.Name x p) (e :: es) [] pos) (LE X.K (dCallB r ga)) := ⟨le_callB (hc := hc) (hg := hg) (hm := hm) (hv := hv) (ha := ha.pe) (hn := hn) (hdb := hdb) (he := he) (hpl := hpl)⟩
end
section
variable {X : Cx} {a b c e : Expr} {es : List Expr} {f g : DE} {ga : DA} {pos p2 p : Pos}
theorem qle_callTy {x : Str} {T : String} {r : DC} (hc : CallD X (.type T) r) (hg : Gl X x) (hm : X.mg x = none) (hv : bootBuiltins x = some (.type T)) (ha : QA X (e :: es) (LA X.K ga)) (hn : x ≠ "__name__" := by decide) (hdb : (x == ("__debug__" : Str)) = false := by decide) (he : starEach (e :: es) X.env = (false, eval e X.env) :: starEach es X.env := by rfl) (hpl : (backTo pos (starEach es X.env)).any (·.1) = false := by rfl) : QE X (.Call (.Name x p) (e :: es) [] pos) (LE X.K (dCallB r ga)) := ⟨le_callTy (hc := hc) (hg := hg) (hm := hm) (hv := hv) (ha := ha.pe) (hn := hn) (hdb := hdb) (he := he) (hpl := hpl)⟩
end
section
variable {X : Cx} {st : Stmt} {rest body orelse : List Stmt} {t u b : DS} {e c tg iter : Expr} {f : DE} {tc : DT} {pos : Pos}
theorem qlss_nil  : QSs X [] (LS X.K dNext) := ⟨lss_nil ⟩
end
section
variable {X : Cx} {st : Stmt} {rest body orelse : List Stmt} {t u b : DS} {e c tg iter : Expr} {f : DE} {tc : DT} {pos : Pos}
theorem qlss_cons (h1 : QS X st (LS X.K t)) (h2 : QSs X rest (LS X.K u)) : QSs X (st :: rest) (LS X.K (dSeq t u)) := ⟨lss_cons (h1 := h1.pe) (h2 := h2.pe)⟩
end
section
variable {X : Cx} {st : Stmt} {rest body orelse : List Stmt} {t u b : DS} {e c tg iter : Expr} {f : DE} {tc : DT} {pos : Pos}
end
section
variable {X : Cx} {st : Stmt} {rest body orelse : List Stmt} {t u b : DS} {e c tg iter : Expr} {f : DE} {tc : DT} {pos : Pos}
theorem qls_expr (he : QE X e (LE X.K f)) (hs : swapsWith e none pos.line X.env = pure false := by rfl) : QS X (.Expr e pos) (LS X.K (dExpr f)) := ⟨ls_expr (he := he.pe) (hs := hs)⟩
end
section
variable {X : Cx} {st : Stmt} {rest body orelse : List Stmt} {t u b : DS} {e c tg iter : Expr} {f : DE} {tc : DT} {pos : Pos}
theorem qls_ret (he : QE X e (LE X.K f)) : QS X (.Return (some e) pos) (LS X.K (dRet f)) := ⟨ls_ret (he := he.pe)⟩
end
section
variable {X : Cx} {st : Stmt} {rest body orelse : List Stmt} {t u b : DS} {e c tg iter : Expr} {f : DE} {tc : DT} {pos : Pos}
theorem qls_if (hc : QT X c (LT X.K tc)) (h1 : QSs X body (LS X.K t)) (h2 : QSs X orelse (LS X.K u)) : QS X (.If c body orelse pos) (LS X.K (dIf tc t u)) := ⟨ls_if (hc := hc.pe) (h1 := h1.pe) (h2 := h2.pe)⟩
end
section
variable {X : Cx} {st : Stmt} {rest body orelse : List Stmt} {t u b : DS} {e c tg iter : Expr} {f : DE} {tc : DT} {pos : Pos}
theorem qls_set (i : Nat) {x : Str} {pos' : Pos} (hN : X.N.Nodup) (he : QE X e (LE X.K f)) (hi : X.N[i]? = some x := by rfl) (hx : Loc X.env.scope x := by first | exact Or.inl rfl | exact Or.inr rfl) (hs : swapsWith e (some (.Name x pos')) pos.line X.env = pure false := by rfl) (hf : X.fn x = true ∨ X.env.scope.names.lookup x = some .local := by first | exact .inl rfl | exact .inr rfl) : QS X (.Assign [.Name x pos'] e pos) (LS X.K (dSet i f)) := ⟨ls_set (i := i) (hN := hN) (he := he.pe) (hi := hi) (hx := hx) (hs := hs) (hf := hf)⟩
end
section
variable {X : Cx} {st : Stmt} {rest body orelse : List Stmt} {t u b : DS} {e c tg iter : Expr} {f : DE} {tc : DT} {pos : Pos}
theorem qlg_name (i : Nat) {x : Str} (hN : X.N.Nodup) (hi : X.N[i]? = some x := by rfl) (hx : Loc X.env.scope x := by first | exact Or.inl rfl | exact Or.inr rfl) (hf : X.fn x = true ∨ X.env.scope.names.lookup x = some .local := by first | exact .inl rfl | exact .inr rfl) : QG X (.Name x pos) (LG X.K (gN i)) := ⟨lg_name (i := i) (hN := hN) (hi := hi) (hx := hx) (hf := hf)⟩
end
section
variable {X : Cx} {st : Stmt} {rest body orelse : List Stmt} {t u b : DS} {e c tg iter : Expr} {f : DE} {tc : DT} {pos : Pos}
theorem qlgs_nil  : QGs X [] (LGs X.K gN0) := ⟨lgs_nil ⟩
end
section
variable {X : Cx} {st : Stmt} {rest body orelse : List Stmt} {t u b : DS} {e c tg iter : Expr} {f : DE} {tc : DT} {pos : Pos}
theorem qlgs_cons {es : List Expr} {g : DG} {r : DGs} (h1 : QG X e (LG X.K g)) (h2 : QGs X es (LGs X.K r)) (hs : (assignEach (e :: es) X.env).map (·.2) = assign e X.env :: (assignEach es X.env).map (·.2) := by rfl) : QGs X (e :: es) (LGs X.K (gNs g r)) := ⟨lgs_cons (h1 := h1.pe) (h2 := h2.pe) (hs := hs)⟩
end
section
variable {X : Cx} {st : Stmt} {rest body orelse : List Stmt} {t u b : DS} {e c tg iter : Expr} {f : DE} {tc : DT} {pos : Pos}
theorem qlg_tup {es : List Expr} {j n : Nat} {g : DGs} (hc : X.calm = true) (h : QGs X es (LGs X.K g)) (hn : (assignEach es X.env).length = n := by rfl) (hst : (assignEach es X.env).findIdx? (·.1) = none := by rfl) : QG X (.Tuple es j pos) (LG X.K (gT n g)) := ⟨lg_tup (hc := hc) (h := h.pe) (hn := hn) (hst := hst)⟩
end
section
variable {X : Cx} {st : Stmt} {rest body orelse : List Stmt} {t u b : DS} {e c tg iter : Expr} {f : DE} {tc : DT} {pos : Pos}
end
section
variable {X : Cx} {st : Stmt} {rest body orelse : List Stmt} {t u b : DS} {e c tg iter : Expr} {f : DE} {tc : DT} {pos : Pos}
end
section
variable {X : Cx} {st : Stmt} {rest body orelse : List Stmt} {t u b : DS} {e c tg iter : Expr} {f : DE} {tc : DT} {pos : Pos}
end
section
variable {X : Cx} {st : Stmt} {rest body orelse : List Stmt} {t u b : DS} {e c tg iter : Expr} {f : DE} {tc : DT} {pos : Pos}
end
section
variable {X : Cx} {st : Stmt} {rest body orelse : List Stmt} {t u b : DS} {e c tg iter : Expr} {f : DE} {tc : DT} {pos : Pos}
theorem qli_seq (ha : QE X e (LE X.K f)) : QI X tg e (LI X.K (dSeqI f)) := ⟨li_seq (ha := ha.pe)⟩
end
section
variable {X : Cx} {st : Stmt} {rest body orelse : List Stmt} {t u b : DS} {e c tg iter : Expr} {f : DE} {tc : DT} {pos : Pos}
theorem qli_range {p : Pos} (hg : Gl X "range") (hm : X.mg "range" = none) (ha : QE X e (LE X.K f)) (hs : starEach [e] X.env = [(false, eval e X.env)] := by rfl) : QI X tg (.Call (.Name "range" p) [e] [] pos) (LI X.K (dRngI f)) := ⟨li_range (hg := hg) (hm := hm) (ha := ha.pe) (hs := hs)⟩
end
section
variable {X : Cx} {st : Stmt} {rest body orelse : List Stmt} {t u b : DS} {e c tg iter : Expr} {f : DE} {tc : DT} {pos : Pos}
theorem qls_for {fi : DI} {g : DG} (hp : PassesOwn (model X.prog X.w) X.A X.env X.xe) (hc : X.calm = true) (hi : QI X tg iter (LI X.K fi)) (hg : QG X tg (LG X.K g)) (hb : QSs X body (LS X.K b)) (hs : ∀ x, foldedSetIterable iter X.env x = pure x := by intro _; rfl) : QS X (.For tg iter body [] pos) (LS X.K (dFor fi g b)) := ⟨ls_for (hp := hp) (hc := hc) (hi := hi.pe) (hg := hg.pe) (hb := hb.pe) (hs := hs)⟩
end
section
variable {X : Cx} {a e : Expr} {es : List Expr} {f : DE} {ga : DA} {pos p p1 p2 p3 p4 : Pos}
end
section
variable {X : Cx} {a e : Expr} {es : List Expr} {f : DE} {ga : DA} {pos p p1 p2 p3 p4 : Pos}
end
section
variable {X : Cx} {a e : Expr} {es : List Expr} {f : DE} {ga : DA} {pos p p1 p2 p3 p4 : Pos}
end
section
variable {X : Cx} {a e : Expr} {es : List Expr} {f : DE} {ga : DA} {pos p p1 p2 p3 p4 : Pos}
theorem qle_call {k n : Nat} {fa : Addr} {fd : FuncData} {ps : List Str} {sp : DC} {x : Str} (F : FnOk X.prog X.w X.K X.mg X.base CX0 k fa fd ps (LSp X.K n sp)) (hr : Room k X.A) (hm : X.mg x = some (.ref fa)) (hk : PySem.W.keepIn X.K (.ref fa) = true) (hb : Binds X.K fd ps []) (hx : X.xe = fun _ _ => False) (ha : QA X (e :: es) (LA X.K ga)) (hg : Gl X x := by rfl) (hdb : (x == ("__debug__" : Str)) = false := by decide) (he : starEach (e :: es) X.env = (false, eval e X.env) :: starEach es X.env := by rfl) (hpl : (backTo pos (starEach es X.env)).any (·.1) = false := by rfl) : QE X (.Call (.Name x p) (e :: es) [] pos) (LE X.K (dCall n sp ga)) := ⟨le_call (F := F) (hr := hr) (hm := hm) (hk := hk) (hb := hb) (hx := hx) (ha := ha.pe) (hg := hg) (hdb := hdb) (he := he) (hpl := hpl)⟩
end
section
theorem qpf_nil {Y : Cx} : QF Y [] (LT Y.K dTrue) := ⟨pf_nil ⟩
end
section
theorem qpf_one {Y : Cx} {c : Expr} {t : TT} (h : QT Y c t) : QF Y [c] t := ⟨pf_one (h := h.pe)⟩
end
section
variable {X : Cx} {a e o : Expr} {es : List Expr} {f g : DE} {ga : DA} {pos p p1 p2 : Pos}
end
section
variable {X : Cx} {a e o : Expr} {es : List Expr} {f g : DE} {ga : DA} {pos p p1 p2 : Pos}
end
section
variable {X : Cx} {a e o : Expr} {es : List Expr} {f g : DE} {ga : DA} {pos p p1 p2 : Pos}
end
section
variable {X : Cx} {tg iter elt : Expr} {ifs : List Expr} {scope : Scope} {fi : DI} {g : DG} {t : DT} {f : DE} {pos : Pos}
theorem qle_lcB (NC : List Str) (src : List (Option Nat)) (hc : X.calm = true) (hi : QI X tg iter (LI X.K fi)) (hg : ∀ cl C s2 H2 pins fp, QG (cyOf X scope cl C NC s2 H2 pins fp) tg (LG X.K g)) (ht : ∀ cl C s2 H2 pins fp, QF (cyOf X scope cl C NC s2 H2 pins fp) ifs (LT X.K t)) (he : ∀ cl C s2 H2 pins fp, QE (cyOf X scope cl C NC s2 H2 pins fp) elt (LE X.K f)) (hkind : scope.kind = .function := by rfl) (hB : chkB scope X.env = true := by rfl) (hS : chkS X.N scope X.env NC src = true := by rfl) (hs : ∀ x, foldedSetIterable iter X.env x = pure x := by intro _; rfl) : QE X (.ListComp elt [⟨tg, iter, ifs, 0⟩] scope pos) (LE X.K (dLC src fi g t f)) := ⟨le_lcB (NC := NC) (src := src) (hc := hc) (hi := hi.pe) (hg := fun cl C s2 H2 pins fp => (hg cl C s2 H2 pins fp).pe) (ht := fun cl C s2 H2 pins fp => (ht cl C s2 H2 pins fp).pe) (he := fun cl C s2 H2 pins fp => (he cl C s2 H2 pins fp).pe) (hkind := hkind) (hB := hB) (hS := hS) (hs := hs)⟩
end
section
variable {X : Cx} {tg iter elt : Expr} {ifs : List Expr} {scope : Scope} {fi : DI} {g : DG} {t : DT} {f : DE} {pos : Pos}
end
section
variable {X : Cx} {tg iter elt : Expr} {ifs : List Expr} {scope : Scope} {fi : DI} {g : DG} {t : DT} {f : DE} {pos : Pos}
theorem qls_lcB (i : Nat) {y : Str} {py spos : Pos} (NC : List Str) (src : List (Option Nat)) (hc : X.calm = true) (hN : X.N.Nodup) (hi : QI X tg iter (LI X.K fi)) (hg : ∀ cl C s2 H2 pins fp, QG (cyOf X scope cl C NC s2 H2 pins fp) tg (LG X.K g)) (ht : ∀ cl C s2 H2 pins fp, QF (cyOf X scope cl C NC s2 H2 pins fp) ifs (LT X.K t)) (he : ∀ cl C s2 H2 pins fp, QE (cyOf X scope cl C NC s2 H2 pins fp) elt (LE X.K f)) (hkind : scope.kind = .function := by rfl) (hB : chkB scope X.env = true := by rfl) (hS : chkS X.N scope X.env NC src = true := by rfl) (hi2 : X.N[i]? = some y := by rfl) (hx : Loc X.env.scope y := by first | exact Or.inl rfl | exact Or.inr rfl) (hf : X.fn y = true ∨ X.env.scope.names.lookup y = some .local := by first | exact .inl rfl | exact .inr rfl) (hsw : swapsWith (.ListComp elt [⟨tg, iter, ifs, 0⟩] scope pos) (some (.Name y py)) spos.line X.env = pure true := by rfl) (hs : ∀ x, foldedSetIterable iter X.env x = pure x := by intro _; rfl) : QS X (.Assign [.Name y py] (.ListComp elt [⟨tg, iter, ifs, 0⟩] scope pos) spos) (LS X.K (dSet i (dLC src fi g t f))) := ⟨ls_lcB (i := i) (NC := NC) (src := src) (hc := hc) (hN := hN) (hi := hi.pe) (hg := fun cl C s2 H2 pins fp => (hg cl C s2 H2 pins fp).pe) (ht := fun cl C s2 H2 pins fp => (ht cl C s2 H2 pins fp).pe) (he := fun cl C s2 H2 pins fp => (he cl C s2 H2 pins fp).pe) (hkind := hkind) (hB := hB) (hS := hS) (hi2 := hi2) (hx := hx) (hf := hf) (hsw := hsw) (hs := hs)⟩
end
section
variable {X : Cx} {a b : Expr} {elts : List Expr} {j : Nat} {f g : DE} {pos p p2 : Pos}
end
section
variable {X : Cx} {a e o : Expr} {es : List Expr} {f g : DE} {ga : DA} {pos p p1 p2 : Pos}
end
section
variable {X : Cx} {a e o : Expr} {es : List Expr} {f g : DE} {ga : DA} {pos p p1 p2 : Pos}
theorem qle_app {apos cpos : Pos} (ho : QE X o (LE X.K f)) (he : QE X e (LE X.K g)) (hbase : attributeBase o "append" X.env (eval o X.env) = eval o X.env := by rfl) (hfew : ((backTo cpos (starEach [e] X.env)).all (fun x => !x.1) && (backToKw cpos (keywordEach [] X.env)).all (fun x => x.1.isSome) && decide ([e].length + ([] : List Keyword).length + (if ([] : List Keyword).isEmpty then 0 else 1) < 30)) = true := by rfl) (hline : (apos.endLine == cpos.line) = true := by rfl) (hs : starEach [e] X.env = (false, eval e X.env) :: starEach [] X.env := by rfl) : QE X (.Call (.Attribute o "append" apos) [e] [] cpos) (LE X.K (dApp f g)) := ⟨le_app (ho := ho.pe) (he := he.pe) (hbase := hbase) (hfew := hfew) (hline := hline) (hs := hs)⟩
end
section
variable {X : Cx} {a e o : Expr} {es : List Expr} {f g : DE} {ga : DA} {pos p p1 p2 : Pos}
theorem qle_slX {lo hi : Option Expr} {tl th : DO} (ha : QE X a (LE X.K f)) (hl : QO X lo (LO X.K tl)) (hu : QO X hi (LO X.K th)) : QE X (.Subscript a (.Slice lo hi none p2) pos) (LE X.K (dSlX f tl th)) := ⟨le_slX (ha := ha.pe) (hl := hl.pe) (hu := hu.pe)⟩
end
section
variable {X : Cx} {o i e : Expr} {fo fi f : DE} {pos tpos : Pos}
end
section
variable {X : Cx} {o i e : Expr} {fo fi f : DE} {pos tpos : Pos}
theorem qls_dput (hu : X.A.units + 100 < cLine) (he : QE X e (LE X.K f)) (ho : QE X o (LE X.K fo)) (hi : QE X i (LE X.K fi)) (hs : swapsWith e (some (.Subscript o i tpos)) pos.line X.env = pure false := by rfl) : QS X (.Assign [.Subscript o i tpos] e pos) (LS X.K (dDPut fo fi f)) := ⟨ls_dput (hu := hu) (he := he.pe) (ho := ho.pe) (hi := hi.pe) (hs := hs)⟩
end
section
variable {X : Cx} {o i e : Expr} {fo fi f : DE} {pos tpos : Pos}
theorem qle_dget (hu : X.A.units + 100 < cLine) (ho : QE X o (LE X.K fo)) (hi : QE X i (LE X.K fi)) (hs : NoSl i := by exact fun _ _ => rfl) : QE X (.Subscript o i pos) (LE X.K (dDGet fo fi)) := ⟨le_dget (hu := hu) (ho := ho.pe) (hi := hi.pe) (hs := hs)⟩
end
section
variable {X : Cx} {e : Expr} {f : DE} {pos p p2 pos2 : Pos}
end
section
variable {X : Cx} {i e g : Expr} {fi f fg : DE} {p pos apos cpos : Pos}
theorem qle_dgetC {x : Str} {c : Addr} {kvs : List (Str × PyData)} (hg : Gl X x) (hm : X.mg x = some (.ref c)) (hk : KD X.K X.w c kvs) (hi : QE X i (LE X.K fi)) (hd : (x == ("__debug__" : Str)) = false := by decide) (hs : NoSl i := by exact fun _ _ => rfl) : QE X (.Subscript (.Name x p) i pos) (LE X.K (dDGetC kvs fi)) := ⟨le_dgetC (hg := hg) (hm := hm) (hk := hk) (hi := hi.pe) (hd := hd) (hs := hs)⟩
end
section
variable {X : Cx} {i e g : Expr} {fi f fg : DE} {p pos apos cpos : Pos}
end
section
variable {X : Cx} {e g : Expr} {f fg : DE} {tg : Expr} {pos : Pos}
end
section
variable {X : Cx} {o i e : Expr} {es : List Expr} {fo f : DE} {fa : DA} {pos tpos ipos : Pos} {j : Nat}
theorem qle_tnew  : QE X (.Dict [] [] pos) (LE X.K dTNew) := ⟨le_tnew ⟩
end
section
variable {X : Cx} {o i e : Expr} {es : List Expr} {fo f : DE} {fa : DA} {pos tpos ipos : Pos} {j : Nat}
theorem qls_tput (hu : X.A.units + 100 < cLine) (he : QE X e (LE X.K f)) (ho : QE X o (LE X.K fo)) (ha : QA X es (LA X.K fa)) (hs : swapsWith e (some (.Subscript o (.Tuple es j ipos) tpos)) pos.line X.env = pure false := by rfl) : QS X (.Assign [.Subscript o (.Tuple es j ipos) tpos] e pos) (LS X.K (dTPut fo fa f)) := ⟨ls_tput (hu := hu) (he := he.pe) (ho := ho.pe) (ha := ha.pe) (hs := hs)⟩
end
section
variable {X : Cx} {o i e : Expr} {es : List Expr} {fo f : DE} {fa : DA} {pos tpos ipos : Pos} {j : Nat}
end
section
variable {X : Cx} {e : Expr} {f : DE} {pos p : Pos}
end
section
variable {X : Cx} {tg iter tg2 iter2 elt : Expr} {ifs ifs2 : List Expr} {scope : Scope} {NC : List Str} {fi fi2 : DI} {g g2 : DG} {t t2 : DT} {f : DE} {pos : Pos}
theorem qle_call0 {k n : Nat} {fa : Addr} {fd : FuncData} {ps : List Str} {sp : DC} {x : Str} {p : Pos} (F : FnOk X.prog X.w X.K X.mg X.base CX0 k fa fd ps (LSp X.K n sp)) (hr : Room k X.A) (hm : X.mg x = some (.ref fa)) (hk : PySem.W.keepIn X.K (.ref fa) = true) (hb : Binds X.K fd ps []) (hx : X.xe = fun _ _ => False) (hg : Gl X x := by rfl) (hdb : (x == ("__debug__" : Str)) = false := by decide) : QE X (.Call (.Name x p) [] [] pos) (LE X.K (dCall n sp dNil)) := ⟨le_call0 (F := F) (hr := hr) (hm := hm) (hk := hk) (hb := hb) (hx := hx) (hg := hg) (hdb := hdb)⟩
end
section
variable {X : Cx} {tg iter tg2 iter2 elt : Expr} {ifs ifs2 : List Expr} {scope : Scope} {NC : List Str} {fi fi2 : DI} {g g2 : DG} {t t2 : DT} {f : DE} {pos : Pos}
end
section
variable {X : Cx} {e g : Expr} {fi fg : DE} {p apos cpos : Pos}
end
section
variable {X : Cx} {o e : Expr} {f g : DE} {apos cpos : Pos}
theorem qle_idxV (ho : QE X o (LE X.K f)) (he : QE X e (LE X.K g)) (hbase : attributeBase o "index" X.env (eval o X.env) = eval o X.env := by rfl) (hfew : ((backTo cpos (starEach [e] X.env)).all (fun x => !x.1) && (backToKw cpos (keywordEach [] X.env)).all (fun x => x.1.isSome) && decide ([e].length + ([] : List Keyword).length + (if ([] : List Keyword).isEmpty then 0 else 1) < 30)) = true := by rfl) (hline : (apos.endLine == cpos.line) = true := by rfl) (hs : backTo cpos (starEach [e] X.env) = [(false, eval e X.env)] := by rfl) : QE X (.Call (.Attribute o "index" apos) [e] [] cpos) (LE X.K (dIdxV f g)) := ⟨le_idxV (ho := ho.pe) (he := he.pe) (hbase := hbase) (hfew := hfew) (hline := hline) (hs := hs)⟩
end
section
variable {X : Cx} {o e : Expr} {f g : DE} {apos cpos : Pos}
end
section
variable {X : Cx} {a : Expr} {f : DE} {pos p2 : Pos}
end
section
variable {X : Cx} {a : Expr} {elts : List Expr} {j : Nat} {f : DE} {pos p p2 : Pos}
end
section
variable {X : Cx} {a : Expr} {elts : List Expr} {j : Nat} {f : DE} {pos p p2 : Pos}
end
section
variable {X : Cx} {a b : Expr} {elts : List Expr} {j : Nat} {f g : DE} {pos p p2 : Pos}
end
section
variable {X : Cx} {a : Expr} {f : DE} {pos p2 : Pos}
end
section
variable {X : Cx} {e : Expr} {f : DE} {pos p : Pos}
theorem qle_dictL (hc : X.calm = true) (hg : Gl X "dict") (hm : X.mg "dict" = none) (he : QE X e (LE X.K f)) (hs : starEach [e] X.env = [(false, eval e X.env)] := by rfl) : QE X (.Call (.Name "dict" p) [e] [] pos) (LE X.K (dDictL f)) := ⟨le_dictL (hc := hc) (hg := hg) (hm := hm) (he := he.pe) (hs := hs)⟩
end
section
variable {X : Cx} {a b : Expr} {f g : DE} {pos p p2 pos2 : Pos}
end
section
variable {X : Cx} {o e : Expr} {f g : DE}
end
section
variable {X : Cx} {o e : Expr} {f g : DE}
end
section
variable {X : Cx} {e : Expr} {f : DE}
end
section
variable {X : Cx} {pos : Pos}
theorem qld_nil  : QD X pos [] [] [] := ⟨ld_nil ⟩
end
section
variable {X : Cx} {pos : Pos}
theorem qld_cons {k v : Expr} {ks : List (Option Expr)} {vs : List Expr} {fk fv : DE} {ps : List (DE × DE)} (hk : QE X k (LE X.K fk)) (hv : QE X v (LE X.K fv)) (hr : QD X pos ks vs ps) : QD X pos (some k :: ks) (v :: vs) ((fk, fv) :: ps) := ⟨ld_cons (hk := hk.pe) (hv := hv.pe) (hr := hr.pe)⟩
end
section
variable {X : Cx} {pos : Pos}
theorem qle_disp {keys : List (Option Expr)} {values : List Expr} {ps : List (DE × DE)} (h : QD X pos keys values ps) (hall : keys.all (·.isSome) = true := by rfl) (hl : keys.length = values.length := by rfl) (h0 : keys ≠ [] := by exact List.cons_ne_nil _ _) (h15 : keys.length ≤ 15 := by decide) : QE X (.Dict keys values pos) (LE X.K (dDisp ps)) := ⟨le_disp (h := h.pe) (hall := hall) (hl := hl) (h0 := h0) (h15 := h15)⟩
end
section
variable {X : Cx} {pos : Pos}
variable {o e : Expr} {f g : DE}
theorem qle_dupd {apos cpos : Pos} (ho : QE X o (LE X.K f)) (he : QE X e (LE X.K g)) (M : M1 X o "update" apos e cpos := by exact ⟨by rfl, by rfl, by rfl, by rfl⟩) : QE X (.Call (.Attribute o "update" apos) [e] [] cpos) (LE X.K (dDUpd f g)) := ⟨le_dupd (ho := ho.pe) (he := he.pe) (M := M)⟩
end
section
variable {X : Cx} {o i : Expr} {fo fi : DE} {pos : Pos}
end
section
variable {X : Cx} {e : Expr} {f : DE} {pos p p2 pos2 : Pos}
end
section
variable {X : Cx} {e : Expr} {f : DE} {pos p p2 pos2 : Pos}
variable {e2 : Expr} {f2 : DE}
end
section
variable {X : Cx} {a b c : Expr} {f g h : DE} {pos : Pos}
theorem qle_chain {op op' : CmpOp} {r r' : D2} (ho : OpD X (compareOp op) r) (ho' : OpD X (compareOp op') r') (ha : QE X a (LE X.K f)) (hb : QE X b (LE X.K g)) (hc : QE X c (LE X.K h)) (hm : lastMarks [op, op'] [b, c] = false := by with_unfolding_all rfl) : QE X (.Compare a [op, op'] [b, c] pos) (LE X.K (dChain r r' f g h)) := ⟨le_chain (ho := ho) (ho' := ho') (ha := ha.pe) (hb := hb.pe) (hc := hc.pe) (hm := hm)⟩
end
section
variable {X : Cx} {a b c : Expr} {f g h : DE} {pos : Pos}
end
section
variable {X : Cx} {a b c : Expr} {f g h : DE} {pos : Pos}
end
section
variable {X : Cx} {a b c : Expr} {f g h : DE} {pos : Pos}
end
section
variable {X : Cx} {a : Expr} {tg : Expr} {f : DE}
end
section
variable {X : Cx} {o : Expr} {es : List Expr} {fo : DE} {fa : DA} {pos ipos : Pos} {j : Nat}
end
section
variable {X : Cx} {o i e : Expr} {fo fi f : DE} {pos tpos : Pos}
end
section
variable {X : Cx} {o i e : Expr} {fo fi f : DE} {pos tpos : Pos}
end
section
variable {X : Cx} {o i e : Expr} {fo fi f : DE} {pos tpos : Pos}
end
section
variable {X : Cx} {a lo st : Expr} {f g h : DE} {pos p2 : Pos}
end
section
variable {X : Cx} {e : Expr} {f : DE} {pos p p2 pos2 : Pos}
end
section
variable {X : Cx} {a : Expr} {tg : Expr} {f : DE}
end
section
variable {X : Cx} {o e : Expr} {es : List Expr} {fo fe : DE} {ga : DA} {pos pos' tpos apos p : Pos} {N f : Str} {C : Addr}
end
section
variable {X : Cx} {o e : Expr} {es : List Expr} {fo fe : DE} {ga : DA} {pos pos' tpos apos p : Pos} {N f : Str} {C : Addr}
end
section
variable {X : Cx} {o e : Expr} {es : List Expr} {fo fe : DE} {ga : DA} {pos pos' tpos apos p : Pos} {N f : Str} {C : Addr}
end
section
variable {X : Cx} {o e : Expr} {es : List Expr} {fo fe : DE} {ga : DA} {pos pos' tpos apos p : Pos} {N f : Str} {C : Addr}
end
section
variable {X : Cx} {o e : Expr} {es : List Expr} {fo fe : DE} {ga : DA} {pos pos' tpos apos p : Pos} {N f : Str} {C : Addr}
end
section
variable {X : Cx} {o e : Expr} {es : List Expr} {fo fe : DE} {ga : DA} {pos pos' tpos apos p : Pos} {N f : Str} {C : Addr}
end
section
variable {X : Cx} {o i e : Expr} {fo fi f : DE} {pos tpos : Pos}
end
section
variable {X : Cx} {o i e : Expr} {fo fi f : DE} {pos tpos : Pos}
end
section
variable {X : Cx} {o i e : Expr} {fo fi f : DE} {pos tpos : Pos}
theorem qls_nput (hu : X.A.units + 100 < cLine) (he : QE X e (LE X.K f)) (ho : QE X o (LE X.K fo)) (hi : QE X i (LE X.K fi)) (hs : swapsWith e (some (.Subscript o i tpos)) pos.line X.env = pure false := by rfl) : QS X (.Assign [.Subscript o i tpos] e pos) (LS X.K (dNPut fo fi f)) := ⟨ls_nput (hu := hu) (he := he.pe) (ho := ho.pe) (hi := hi.pe) (hs := hs)⟩
end
section
variable {X : Cx} {o e : Expr} {f g : DE} {pos : Pos}
end
section
variable {X : Cx} {elt tg iter : Expr} {ifs : List Expr} {scope : Scope} {NC : List Str} {fi : DI} {g : DG} {t : DT} {f : DE} {pos : Pos}
theorem qle_sortSCB {p pos2 : Pos} (NC : List Str) (src : List (Option Nat)) (hc : X.calm = true) (hg0 : Gl X "sorted") (hm0 : X.mg "sorted" = none) (hi : QI X tg iter (LI X.K fi)) (hg : ∀ cl C s2 H2 pins fp, QG (cyOf X scope cl C NC s2 H2 pins fp) tg (LG X.K g)) (ht : ∀ cl C s2 H2 pins fp, QF (cyOf X scope cl C NC s2 H2 pins fp) ifs (LT X.K t)) (he : ∀ cl C s2 H2 pins fp, QE (cyOf X scope cl C NC s2 H2 pins fp) elt (LE X.K f)) (hkind : scope.kind = .function := by rfl) (hB : chkB scope X.env = true := by rfl) (hS : chkS X.N scope X.env NC src = true := by rfl) (hs : ∀ x, foldedSetIterable iter X.env x = pure x := by intro _; rfl) (hs2 : starEach [.SetComp elt [⟨tg, iter, ifs, 0⟩] scope pos2] X.env = [(false, eval (.SetComp elt [⟨tg, iter, ifs, 0⟩] scope pos2) X.env)] := by rfl) : QE X (.Call (.Name "sorted" p) [.SetComp elt [⟨tg, iter, ifs, 0⟩] scope pos2] [] pos) (LE X.K (dSortSC src fi g t f)) := ⟨le_sortSCB (NC := NC) (src := src) (hc := hc) (hg0 := hg0) (hm0 := hm0) (hi := hi.pe) (hg := fun cl C s2 H2 pins fp => (hg cl C s2 H2 pins fp).pe) (ht := fun cl C s2 H2 pins fp => (ht cl C s2 H2 pins fp).pe) (he := fun cl C s2 H2 pins fp => (he cl C s2 H2 pins fp).pe) (hkind := hkind) (hB := hB) (hS := hS) (hs := hs) (hs2 := hs2)⟩
end
section
variable {X : Cx} {a : Expr} {f : DE} {pos p2 p3 : Pos}
end
section
variable {X : Cx} {a b : Expr} {elts : List Expr} {j : Nat} {f g : DE} {pos p p2 : Pos}
end
section
variable {X : Cx} {ek ev tg iter : Expr} {ifs : List Expr} {scope : Scope} {NC : List Str} {fi : DI} {g : DG} {t : DT} {fk fv : DE} {pos : Pos}
end
section
variable {X : Cx} {o i a tg : Expr} {fo fi f : DE} {pos : Pos}
theorem qle_fget (hu : X.A.units + 100 < cLine) (ho : QE X o (LE X.K fo)) (hi : QE X i (LE X.K fi)) (hs : NoSl i := by exact fun _ _ => rfl) : QE X (.Subscript o i pos) (LE X.K (dFGet fo fi)) := ⟨le_fget (hu := hu) (ho := ho.pe) (hi := hi.pe) (hs := hs)⟩
end
section
variable {X : Cx} {o i a tg : Expr} {fo fi f : DE} {pos : Pos}
theorem qle_frzD {e : Expr} (he : QE X e (LE X.K f)) : QE X e (LE X.K (dFrzD f)) := ⟨le_frzD (he := he.pe)⟩
end
section
variable {X : Cx} {a tg : Expr} {f : DE}
theorem qli_fdk (ha : QE X a (LE X.K f)) : QI X tg a (LI X.K (dKeysF f)) := ⟨li_fdk (ha := ha.pe)⟩
end
section
variable {X : Cx} {a tg : Expr} {f : DE}
theorem qli_keysD (ha : QE X a (LE X.K f)) : QI X tg a (LI X.K (dKeysD f)) := ⟨li_keysD (ha := ha.pe)⟩
end
section
variable {X : Cx} {o i : Expr} {fo fi : DE} {pos : Pos}
theorem qle_dgetF (hu : X.A.units + 100 < cLine) (ho : QE X o (LE X.K fo)) (hi : QE X i (LE X.K fi)) (hs : NoSl i := by exact fun _ _ => rfl) : QE X (.Subscript o i pos) (LE X.K (dDGetF fo fi)) := ⟨le_dgetF (hu := hu) (ho := ho.pe) (hi := hi.pe) (hs := hs)⟩
end
section
variable {X : Cx} {e : Expr} {f : DE} {pos p pos2 p2 : Pos}
theorem qle_sortSetI (hc : X.calm = true) (hg : Gl X "sorted") (hm : X.mg "sorted" = none) (hg2 : Gl X "set") (hm2 : X.mg "set" = none) (he : QE X e (LE X.K f)) (hs : starEach [e] X.env = [(false, eval e X.env)] := by rfl) (hs2 : starEach [.Call (.Name "set" p2) [e] [] pos2] X.env = [(false, eval (.Call (.Name "set" p2) [e] [] pos2) X.env)] := by rfl) : QE X (.Call (.Name "sorted" p) [.Call (.Name "set" p2) [e] [] pos2] [] pos) (LE X.K (dSortSetI f)) := ⟨le_sortSetI (hc := hc) (hg := hg) (hm := hm) (hg2 := hg2) (hm2 := hm2) (he := he.pe) (hs := hs) (hs2 := hs2)⟩
end
section
variable {X : Cx} {o i e g ek : Expr} {fo fi f fg fk : DE} {pos apos cpos : Pos}
theorem qle_ndisp1 (hu : X.A.units + 100 < cLine) (hk : QE X ek (LE X.K fk)) (he : QE X e (LE X.K f)) (hsh : (evalEachOpt [some ek] X.env).zip ((evalEach [e] X.env).map fun v => do let x ← v; standAt pos; pure x) = [(some (eval ek X.env), do let x ← eval e X.env; standAt pos; pure x)] := by rfl) : QE X (.Dict [some ek] [e] pos) (LE X.K (dNDisp1 fk f)) := ⟨le_ndisp1 (hu := hu) (hk := hk.pe) (he := he.pe) (hsh := hsh)⟩
end
section
variable {X : Cx} {o i e g ek : Expr} {fo fi f fg fk : DE} {pos apos cpos : Pos}
theorem qle_nget2 (hu : X.A.units + 100 < cLine) (ho : QE X o (LE X.K fo)) (hi : QE X e (LE X.K fi)) (hf : QE X g (LE X.K fg)) (hbase : attributeBase o "get" X.env (eval o X.env) = eval o X.env := by rfl) (hfew : ((backTo cpos (starEach [e, g] X.env)).all (fun x => !x.1) && (backToKw cpos (keywordEach [] X.env)).all (fun x => x.1.isSome) && decide (([e, g] : List Expr).length + ([] : List Keyword).length + (if ([] : List Keyword).isEmpty then 0 else 1) < 30)) = true := by rfl) (hline : (apos.endLine == cpos.line) = true := by rfl) (hs : backTo cpos (starEach [e, g] X.env) = [(false, eval e X.env), (false, eval g X.env)] := by rfl) : QE X (.Call (.Attribute o "get" apos) [e, g] [] cpos) (LE X.K (dNGet2 fo fi fg)) := ⟨le_nget2 (hu := hu) (ho := ho.pe) (hi := hi.pe) (hf := hf.pe) (hbase := hbase) (hfew := hfew) (hline := hline) (hs := hs)⟩
end
section
variable {X : Cx} {a e : Expr} {f g : DE} {pos p2 : Pos}
theorem qle_stepL (ha : QE X a (LE X.K f)) (he : QE X e (LE X.K g)) : QE X (.Subscript a (.Slice none none (some e) p2) pos) (LE X.K (dStepL f g)) := ⟨le_stepL (ha := ha.pe) (he := he.pe)⟩
end
section
variable {P : Program} {w : World} {K : PySem.W.Frag} {mg : Str → Option Value} {base : Heap}
theorem qfn_body {x qual : Str} {st : Stmt} {fa : Addr} {fd : FuncData} {N ps : List Str} {k : Nat} {sp : DC} {body : DS} (F : Fun K x qual st fa fd) (S : FnScope N ps (defScope st))
    (hb : ∀ (cdv : Value) (A : Around) (outer : List Env) (s : Shared) (H : Hp) (E : XK), Room k (A.deeper (envOfC qual (defScope st) s.heap.objs.size fa cdv)) → QSs (cxOf CX0 P w K mg base N qual (defScope st) fa cdv A outer s H E).nox (defBody st) (LS K body))
    (hv : ∀ ds m R, ds.length = ps.length → sp ds m R → body { nx := fun _ m => R (.dat .none) m, rt := R } (start2 N ds) m) : FnOk P w K mg base CX0 (k + 1) fa fd ps (LSp K ps.length sp) := fn_body F S (fun cdv A outer s H E hr => (hb cdv A outer s H E hr).pe) hv
end
end DL
set_option linter.all false
set_option maxHeartbeats 1000000
namespace K01
open PySem PySem.Spec PyProof.Rows L2 DL
def Bd (n : Nat) (i : Int) : Prop := i.natAbs < 2 ^ n
theorem Bd.mono {m n : Nat} {i : Int} (h : Bd m i) (hl : m ≤ n) : Bd n i := Nat.lt_of_lt_of_le h (Nat.pow_le_pow_right (by decide) hl)
theorem Bd.mul {m n : Nat} {i j : Int} (h : Bd m i) (g : Bd n j) : Bd (m + n) (i * j) := by
  unfold Bd at *
  rw [Int.natAbs_mul, Nat.pow_add]
  exact Nat.mul_lt_mul'' h g
theorem Bd.add {n : Nat} {i j : Int} (h : Bd n i) (g : Bd n j) : Bd (n + 1) (i + j) := by
  unfold Bd at *
  have := Int.natAbs_add_le i j
  rw [Nat.pow_succ]
  omega
theorem Bd.neg {n : Nat} {i : Int} (h : Bd n i) : Bd n (-i) := by
  unfold Bd at *
  rw [Int.natAbs_neg]
  exact h
theorem Bd.sub {n : Nat} {i j : Int} (h : Bd n i) (g : Bd n j) : Bd (n + 1) (i - j) := by
  rw [Int.sub_eq_add_neg]
  exact h.add g.neg
end K01
set_option Elab.async false
set_option linter.all false
set_option maxRecDepth 100000
set_option maxHeartbeats 4000000
namespace K01
open PySem PySem.Spec PyProof.Rows L2 DL
section
variable {κ : Type} [DecidableEq κ]
end
def Sv (B w e : Nat) (p : PyData) : Prop := p.showable = true ∧ p.leavesShort B = true ∧ p.weight ≤ w ∧ p.depth ≤ e
theorem Sv.mono {B w e w' e' : Nat} {p : PyData} (h : Sv B w e p) (h1 : w ≤ w') (h2 : e ≤ e') : Sv B w' e' p := ⟨h.1, h.2.1, Nat.le_trans h.2.2.1 h1, Nat.le_trans h.2.2.2 h2⟩
end K01
set_option Elab.async false
set_option linter.all false
set_option maxRecDepth 100000
set_option maxHeartbeats 4000000
namespace K37
open PySem PySem.Spec PyProof.Rows L2 DL K01
def Kn (m m' : Mu) : Prop := ∀ c, (m c).isSome = true → m' c = m c
abbrev I (i : Int) : D := .dat (.int i)
def ORD : List Str := ["ahead", "meets", "overlaps", "begins", "within", "ends", "same", "ended", "holds", "begun", "lapped", "met", "behind"]
def kd (k : Bool) : Str := if k then "stretch" else "point"
def WS : Bool → Bool → List Str
  | true, true => ORD
  | false, false => ["ahead", "same", "behind"]
  | false, true => ["ahead", "begins", "within", "ends", "behind"]
  | true, false => ["ahead", "ended", "holds", "begun", "behind"]
abbrev kds (k l : Bool) : PyData := .tuple [.str (kd k), .str (kd l)]
def WT : List (Str × List Int) := [("ahead", [-1, -1, -1, -1]), ("meets", [-1, -1, 0, -1]), ("overlaps", [-1, -1, 1, -1]), ("begins", [0, -1, 1, -1]), ("within", [1, -1, 1, -1]), ("ends", [1, -1, 1, 0]), ("same", [0, -1, 1, 0]), ("ended", [-1, -1, 1, 0]), ("holds", [-1, -1, 1, 1]), ("begun", [0, -1, 1, 1]), ("lapped", [1, -1, 1, 1]), ("met", [1, 0, 1, 1]), ("behind", [1, 1, 1, 1])]
def w4 (z : Str) : List Int := ((WT.find? fun kv => decide (kv.1 = z)).map (·.2)).getD []
def WB (k l : Bool) (z : Str) : List Int := match k, l with
  | true, true => w4 z
  | false, false => (w4 z).take 1
  | _, _ => [(w4 z).getD 0 0, (w4 z).getD 3 0]
def cnt (k : Bool) : Nat := if k then 2 else 1
def FD (ns : List PyData) (i j t : Int) : List (Key × PyData) := [(.inr "cells", .list ns), (.inr "at", .int i), (.inr "left", .int j), (.inr "turn", .int t)]
def Tp (n : Int) (m : Mu) (a : Addr) : Prop := ∃ (ns : List Int) (i j t : Int), m a = some (.d (FD (ns.map .int) i j t)) ∧ 0 ≤ t ∧ t ≤ n
def Fed (b : Int) (n : Int) (m m' : Mu) (a : Addr) : Prop := Tp (n + b) m' a ∧ ∀ c, c ≠ a → (m c).isSome = true → m' c = m c
def way (k l : Bool) (x y : Nat) (z : Str) : Int := (WB k l z).getD (x * cnt l + y) 0
def sgs (k l : Bool) (zs : List Str) (x y : Nat) : List Int := srt3 (zs.foldl (fun acc z => ins3 acc (way k l x y z)) [])
def sp_ways_by : DC := fun ds m R => ∃ k l z, ds = [.dat (kds k l), .dat (.str z)] ∧ z ∈ ORD ∧ R (.dat (.tuple ((WB k l z).map .int))) m
def sp_how_ends : DC := fun ds m R => ∃ (k l : Bool) (z : Str) (x y : Nat), ds = [.dat (kds k l), .dat (.str z), I (x : Int), I (y : Int)] ∧ z ∈ WS k l ∧ x < cnt k ∧ y < cnt l ∧ R (I (way k l x y z)) m
def sp_signs_in : DC := fun ds m R => ∃ (k l : Bool) (zs : List Str) (x y : Nat), ds = [.dat (kds k l), .dat (.tuple (zs.map .str)), I (x : Int), I (y : Int)] ∧ (∀ z ∈ zs, z ∈ WS k l) ∧ x < cnt k ∧ y < cnt l ∧ R (.dat (.tuple ((sgs k l zs x y).map .int))) m
def sp__law_feed : DC := fun ds m R => ∃ ns : List Int, ds = [.dat (.list (ns.map .int))] ∧ ns.length ≤ 63 ∧ ∀ a m', Tp 0 m' a → R (.cel a) m'
def sp__law_draw : DC := fun ds m R => ∃ (a : Addr) (n L : Int), ds = [.cel a, I n] ∧ 0 < n ∧ n ≤ 1000 ∧ L ≤ 10000000 ∧ Tp L m a ∧ ∀ (r : Int) m', 0 ≤ r → r < n → Fed 1 L m m' a → R (I r) m'
def sg (x y : Int) : Int := (if y < x then 1 else 0) - (if x < y then 1 else 0)
def oth (l : Bool) : Int × Int := if l then (4, 8) else (5, 5)
def LAYS : Bool → Bool → List (Str × Int × Int)
  | true, true => [("ahead", 1, 2), ("meets", 1, 4), ("overlaps", 1, 6), ("begins", 4, 6), ("within", 5, 7), ("ends", 6, 8), ("same", 4, 8), ("ended", 1, 8), ("holds", 1, 9), ("begun", 4, 9), ("lapped", 6, 9), ("met", 8, 9), ("behind", 9, 10)]
  | false, true => [("ahead", 1, 1), ("begins", 4, 4), ("within", 6, 6), ("ends", 8, 8), ("behind", 9, 9)]
  | true, false => [("ahead", 1, 2), ("ended", 1, 5), ("holds", 1, 9), ("begun", 5, 9), ("behind", 8, 9)]
  | false, false => [("ahead", 1, 1), ("same", 5, 5), ("behind", 9, 9)]
def SG (a b c d : Int) : List (List Key × PyData) := [([.inl 0, .inl 0], .int (sg a c)), ([.inl 0, .inl 1], .int (sg a d)), ([.inl 1, .inl 0], .int (sg b c)), ([.inl 1, .inl 1], .int (sg b d))]
def SF (a b c d : Int) : List (PyData × PyData) := [(.tuple [.int 0, .int 0], .int (sg a c)), (.tuple [.int 0, .int 1], .int (sg a d)), (.tuple [.int 1, .int 0], .int (sg b c)), (.tuple [.int 1, .int 1], .int (sg b d))]
def LY (k l : Bool) : List (Key × PyData) := (LAYS k l).map fun x => (.inr x.1, fdk (SF x.2.1 x.2.2 (oth l).1 (oth l).2))
def LF (k l : Bool) : List (PyData × PyData) := (LAYS k l).map fun x => (.str x.1, fdk (SF x.2.1 x.2.2 (oth l).1 (oth l).2))
def layZ (k l : Bool) (z : Str) : Int × Int := (((LAYS k l).find? fun x => decide (x.1 = z)).map (·.2)).getD (0, 0)
def pk (p : Int × Int) (x : Nat) : Int := if x = 0 then p.1 else p.2
def LW (k l : Bool) (x y : Nat) (z : Str) : Int := sg (pk (layZ k l z) x) (pk (oth l) y)
def okw (k l : Bool) (zs : List Str) (z : Str) (x y : Nat) : Bool := (zs.any fun u => decide (LW k l x y u ≤ LW k l x y z)) && zs.any fun u => decide (LW k l x y z ≤ LW k l x y u)
def AR (k l : Bool) (zs : List Str) : List Str := (WS k l).filter fun z => !zs.isEmpty && okw k l zs z 0 0 && okw k l zs z 0 1 && okw k l zs z 1 0 && okw k l zs z 1 1
abbrev May (k l : Bool) (zs : List Str) : Prop := zs.Sublist (WS k l)
abbrev TS (zs : List Str) : PyData := .tuple (zs.map .str)
def sp__law_order : DC := fun ds m R => ds = [] ∧ R (.dat (.list (ORD.map .str))) m
def sp__law_words : DC := fun ds m R => ∃ k l, ds = [.dat (kds k l)] ∧ ∀ m', Kn m m' → R (.dat (.list ((WS k l).map .str))) m'
def sp__law_signs : DC := fun ds m R => ∃ a b c d : Int, ds = [.dat (.tuple [.int a, .int b]), .dat (.tuple [.int c, .int d])] ∧ ∀ (p : Addr) m', m p = none → Kn m m' → m' p = some (.t (SG a b c d)) → R (.cel p) m'
def sp__law_lays : DC := fun ds m R => ∃ k l, ds = [.dat (kds k l)] ∧ ∀ (p : Addr) m', m p = none → Kn m m' → m' p = some (.d (LY k l)) → R (.cel p) m'
def sp__law_around : DC := fun ds m R => ∃ k l zs, ds = [.dat (kds k l), .dat (TS zs)] ∧ May k l zs ∧ ∀ m', Kn m m' → R (.dat (TS (AR k l zs))) m'
def sp__law_some : DC := fun ds m R => ∃ (a : Addr) (k l : Bool) (w : Str) (L : Int), ds = [.cel a, .dat (kds k l), .dat (.str w)] ∧ w ∈ WS k l ∧ L ≤ 9000000 ∧ Tp L m a ∧ ∀ (zs : List Str) m', May k l zs → w ∈ zs → Fed 14 L m m' a → R (.dat (TS zs)) m'
def sp__law_due : DC := fun ds m R => ∃ (k l : Bool) (zs : List Str) (x y : Nat), ds = [.dat (kds k l), .dat (TS zs), I (x : Int), I (y : Int)] ∧ May k l zs ∧ x < cnt k ∧ y < cnt l ∧ ∀ m', Kn m m' → R (.dat (.tuple ((sgs k l zs x y).map .int))) m'
def sp__law_drawn : DC := fun ds m R => ∃ (a : Addr) (k l : Bool) (L : Int), ds = [.cel a, .dat (kds k l)] ∧ L ≤ 8000000 ∧ Tp L m a ∧ ∀ (zs : List Str) m', May k l zs → Fed 20 L m m' a → R (.dat (TS zs)) m'
def sp_law : DC := fun ds m R => ∃ ns : List Int, ds = [.dat (.list (ns.map .int))] ∧ ns.length ≤ 63 ∧ ∀ m', R (.dat (.bool true)) m'
end K37
set_option Elab.async false
set_option linter.all false
set_option maxRecDepth 100000
set_option maxHeartbeats 4000000
namespace K37
open PySem PySem.Spec PyProof.Rows L2 DL
-- ranks: ways_by 1, how_ends 2, signs_in 3, _law_feed 1, _law_draw 1, _law_order 1, _law_words 2, _law_signs 1, _law_lays 2, _law_around 3, _law_some 3, _law_due 3, _law_drawn 4, law 5
def top (i : Nat) : Stmt := PySem.Challenge.pw_whens_k37_signs_of_mays.main.body.getD i (.Pass ⟨0, 0, 0, 0⟩)
abbrev tb_WAYS : List (Str × PyData) := [("ahead", .tuple [.int (-1), .int (-1), .int (-1), .int (-1)]), ("meets", .tuple [.int (-1), .int (-1), .int (0), .int (-1)]), ("overlaps", .tuple [.int (-1), .int (-1), .int (1), .int (-1)]), ("begins", .tuple [.int (0), .int (-1), .int (1), .int (-1)]), ("within", .tuple [.int (1), .int (-1), .int (1), .int (-1)]), ("ends", .tuple [.int (1), .int (-1), .int (1), .int (0)]), ("same", .tuple [.int (0), .int (-1), .int (1), .int (0)]), ("ended", .tuple [.int (-1), .int (-1), .int (1), .int (0)]), ("holds", .tuple [.int (-1), .int (-1), .int (1), .int (1)]), ("begun", .tuple [.int (0), .int (-1), .int (1), .int (1)]), ("lapped", .tuple [.int (1), .int (-1), .int (1), .int (1)]), ("met", .tuple [.int (1), .int (0), .int (1), .int (1)]), ("behind", .tuple [.int (1), .int (1), .int (1), .int (1)])]
abbrev tb_END_COUNTS : List (Str × PyData) := [("point", .int (1)), ("stretch", .int (2))]
abbrev s_ways_by : Stmt := top 3
abbrev N_ways_by : List Str := ["kinds", "word", "ways"]
abbrev p_ways_by : List Str := ["kinds", "word"]
theorem sc_ways_by : FnScope N_ways_by p_ways_by (defScope s_ways_by) := ⟨rfl, rfl, rfl, by decide +kernel, rfl, by decide +kernel, by decide +kernel⟩
def b_ways_by_3 : DS := (dSeq (dRet (dTup (dCons (dBin aIx (dVar 2) (dCon (.int 0))) (dCons (dBin aIx (dVar 2) (dCon (.int 3))) dNil)))) dNext)
def b_ways_by_2 : DS := (dSeq (dIf (dTst (dBin aEq (dVar 0) (dTup (dCons (dCon (.str "point")) (dCons (dCon (.str "point")) dNil))))) (dSeq (dRet (dSlX (dVar 2) dNoP (dPart (dCon (.int 1))))) dNext) dNext) b_ways_by_3)
def b_ways_by_1 : DS := (dSeq (dIf (dTst (dBin aEq (dVar 0) (dTup (dCons (dCon (.str "stretch")) (dCons (dCon (.str "stretch")) dNil))))) (dSeq (dRet (dVar 2)) dNext) dNext) b_ways_by_2)
def b_ways_by : DS := (dSeq (dSet 2 (dDGetC tb_WAYS (dVar 1))) b_ways_by_1)
abbrev s_how_ends : Stmt := top 4
abbrev N_how_ends : List Str := ["kinds", "word", "x", "y"]
abbrev p_how_ends : List Str := ["kinds", "word", "x", "y"]
theorem sc_how_ends : FnScope N_how_ends p_how_ends (defScope s_how_ends) := ⟨rfl, rfl, rfl, by decide +kernel, rfl, by decide +kernel, by decide +kernel⟩
def b_how_ends : DS := (dSeq (dRet (dBin aIx (dCall 2 sp_ways_by (dCons (dVar 0) (dCons (dVar 1) dNil))) (dBin aAdd (dBin aMul (dVar 2) (dDGetC tb_END_COUNTS (dBin aIx (dVar 0) (dCon (.int 1))))) (dVar 3)))) dNext)
abbrev s_signs_in : Stmt := top 6
abbrev N_signs_in : List Str := ["kinds", "may", "x", "y"]
abbrev p_signs_in : List Str := ["kinds", "may", "x", "y"]
theorem sc_signs_in : FnScope N_signs_in p_signs_in (defScope s_signs_in) := ⟨rfl, rfl, rfl, by decide +kernel, rfl, by decide +kernel, by decide +kernel⟩
theorem nd_signs_in_1 : List.Nodup (["word", "kinds", "x", "y"] : List Str) := by decide +kernel
def b_signs_in : DS := (dSeq (dRet (dCallB bTuple (dCons (dSortSC [none, some 0, some 2, some 3] (dSeqI (dVar 1)) (gN 0) dTrue (dCall 4 sp_how_ends (dCons (dVar 1) (dCons (dVar 0) (dCons (dVar 2) (dCons (dVar 3) dNil)))))) dNil))) dNext)
abbrev s__law_feed : Stmt := top 8
abbrev N__law_feed : List Str := ["_law_script"]
abbrev p__law_feed : List Str := ["_law_script"]
theorem sc__law_feed : FnScope N__law_feed p__law_feed (defScope s__law_feed) := ⟨rfl, rfl, rfl, by decide +kernel, rfl, by decide +kernel, by decide +kernel⟩
def b__law_feed : DS := (dSeq (dRet (dDisp [((dCon (.str "cells")), (dCallB bList (dCons (dSlX (dVar 0) dNoP (dPart (dCon (.int 63)))) dNil))), ((dCon (.str "at")), (dCon (.int 0))), ((dCon (.str "left")), (dCon (.int 0))), ((dCon (.str "turn")), (dCon (.int 0)))])) dNext)
abbrev s__law_draw : Stmt := top 9
abbrev N__law_draw : List Str := ["_law_feed_here", "_law_many", "_law_found", "_law_spot", "_law_cell", "_law_mixed"]
abbrev p__law_draw : List Str := ["_law_feed_here", "_law_many"]
theorem sc__law_draw : FnScope N__law_draw p__law_draw (defScope s__law_draw) := ⟨rfl, rfl, rfl, by decide +kernel, rfl, by decide +kernel, by decide +kernel⟩
def b__law_draw_B0_1 : DS := (dSeq (dRet (dVar 2)) dNext)
def b__law_draw_B0 : DS := (dSeq (dDPut (dVar 0) (dCon (.str "left")) (dBin aDiv (dDGet (dVar 0) (dCon (.str "left"))) (dVar 1))) b__law_draw_B0_1)
def b__law_draw_B1_1 : DS := (dSeq (dRet (dBin aMod (dVar 4) (dVar 1))) dNext)
def b__law_draw_B1 : DS := (dSeq (dDPut (dVar 0) (dCon (.str "left")) (dBin aDiv (dVar 4) (dVar 1))) b__law_draw_B1_1)
def b__law_draw_10 : DS := (dSeq (dRet (dBin aMod (dBin aDiv (dVar 5) (dCon (.int 64))) (dVar 1))) dNext)
def b__law_draw_9 : DS := (dSeq (dSet 5 (dBin aMod (dBin aMul (dBin aAdd (dBin aDiv (dVar 5) (dCon (.int 64))) (dBin aMul (dCon (.int 37)) (dDGet (dVar 0) (dCon (.str "turn"))))) (dCon (.int 69621))) (dCon (.int 2147483587)))) b__law_draw_10)
def b__law_draw_8 : DS := (dSeq (dSet 5 (dBin aMod (dBin aMul (dBin aAdd (dBin aMod (dVar 4) (dCon (.int 2147483629))) (dBin aMul (dCon (.int 1013)) (dDGet (dVar 0) (dCon (.str "turn"))))) (dCon (.int 48271))) (dCon (.int 2147483647)))) b__law_draw_9)
def b__law_draw_7 : DS := (dSeq (dIf (dAndT (dTst (dBin aGe (dVar 4) (dBin aPow (dCon (.int 10)) (dCon (.int 18))))) (dTst (dBin aLt (dVar 3) (dCallB bLen (dCons (dDGet (dVar 0) (dCon (.str "cells"))) dNil))))) b__law_draw_B1 dNext) b__law_draw_8)
def b__law_draw_6 : DS := (dSeq (dIf (dTst (dBin aNe (dDGet (dVar 0) (dCon (.str "cells"))) (dLst dNil))) (dSeq (dSet 4 (dBin aIx (dDGet (dVar 0) (dCon (.str "cells"))) (dBin aMod (dVar 3) (dCallB bLen (dCons (dDGet (dVar 0) (dCon (.str "cells"))) dNil))))) dNext) dNext) b__law_draw_7)
def b__law_draw_5 : DS := (dSeq (dSet 4 (dCon (.int 0))) b__law_draw_6)
def b__law_draw_4 : DS := (dSeq (dDPut (dVar 0) (dCon (.str "at")) (dBin aAdd (dVar 3) (dCon (.int 1)))) b__law_draw_5)
def b__law_draw_3 : DS := (dSeq (dSet 3 (dDGet (dVar 0) (dCon (.str "at")))) b__law_draw_4)
def b__law_draw_2 : DS := (dSeq (dIf (dTst (dBin aGt (dDGet (dVar 0) (dCon (.str "left"))) (dCon (.int 0)))) b__law_draw_B0 dNext) b__law_draw_3)
def b__law_draw_1 : DS := (dSeq (dSet 2 (dBin aMod (dDGet (dVar 0) (dCon (.str "left"))) (dVar 1))) b__law_draw_2)
def b__law_draw : DS := (dSeq (dDPut (dVar 0) (dCon (.str "turn")) (dBin aAdd (dDGet (dVar 0) (dCon (.str "turn"))) (dCon (.int 1)))) b__law_draw_1)
abbrev s__law_order : Stmt := top 10
abbrev N__law_order : List Str := ["_law_some_here"]
abbrev p__law_order : List Str := []
theorem sc__law_order : FnScope N__law_order p__law_order (defScope s__law_order) := ⟨rfl, rfl, rfl, by decide +kernel, rfl, by decide +kernel, by decide +kernel⟩
def b__law_order_1 : DS := (dSeq (dRet (dBin aAdd (dVar 0) (dLst (dCons (dCon (.str "ended")) (dCons (dCon (.str "holds")) (dCons (dCon (.str "begun")) (dCons (dCon (.str "lapped")) (dCons (dCon (.str "met")) (dCons (dCon (.str "behind")) dNil))))))))) dNext)
def b__law_order : DS := (dSeq (dSet 0 (dLst (dCons (dCon (.str "ahead")) (dCons (dCon (.str "meets")) (dCons (dCon (.str "overlaps")) (dCons (dCon (.str "begins")) (dCons (dCon (.str "within")) (dCons (dCon (.str "ends")) (dCons (dCon (.str "same")) dNil))))))))) b__law_order_1)
abbrev s__law_words : Stmt := top 11
abbrev N__law_words : List Str := ["_law_kinds", "_law_some_here"]
abbrev p__law_words : List Str := ["_law_kinds"]
theorem sc__law_words : FnScope N__law_words p__law_words (defScope s__law_words) := ⟨rfl, rfl, rfl, by decide +kernel, rfl, by decide +kernel, by decide +kernel⟩
def b__law_words_3 : DS := (dSeq (dRet (dNGet2 (dVar 1) (dVar 0) (dCall 0 sp__law_order dNil))) dNext)
def b__law_words_2 : DS := (dSeq (dNPut (dVar 1) (dTup (dCons (dCon (.str "stretch")) (dCons (dCon (.str "point")) dNil))) (dLst (dCons (dCon (.str "ahead")) (dCons (dCon (.str "ended")) (dCons (dCon (.str "holds")) (dCons (dCon (.str "begun")) (dCons (dCon (.str "behind")) dNil))))))) b__law_words_3)
def b__law_words_1 : DS := (dSeq (dNPut (dVar 1) (dTup (dCons (dCon (.str "point")) (dCons (dCon (.str "stretch")) dNil))) (dLst (dCons (dCon (.str "ahead")) (dCons (dCon (.str "begins")) (dCons (dCon (.str "within")) (dCons (dCon (.str "ends")) (dCons (dCon (.str "behind")) dNil))))))) b__law_words_2)
def b__law_words : DS := (dSeq (dSet 1 (dNDisp1 (dTup (dCons (dCon (.str "point")) (dCons (dCon (.str "point")) dNil))) (dLst (dCons (dCon (.str "ahead")) (dCons (dCon (.str "same")) (dCons (dCon (.str "behind")) dNil)))))) b__law_words_1)
abbrev s__law_signs : Stmt := top 12
abbrev N__law_signs : List Str := ["_law_one", "_law_other", "_law_found", "_law_x", "_law_y"]
abbrev p__law_signs : List Str := ["_law_one", "_law_other"]
theorem sc__law_signs : FnScope N__law_signs p__law_signs (defScope s__law_signs) := ⟨rfl, rfl, rfl, by decide +kernel, rfl, by decide +kernel, by decide +kernel⟩
def b__law_signs_L1 : DS := (dSeq (dTPut (dVar 2) (dCons (dVar 3) (dCons (dVar 4) dNil)) (dBin aSub (dCallB bInt (dCons (dBin aGt (dBin aIx (dVar 0) (dVar 3)) (dBin aIx (dVar 1) (dVar 4))) dNil)) (dCallB bInt (dCons (dBin aLt (dBin aIx (dVar 0) (dVar 3)) (dBin aIx (dVar 1) (dVar 4))) dNil)))) dNext)
def b__law_signs_L0 : DS := (dSeq (dFor (dRngI (dCon (.int 2))) (gN 4) b__law_signs_L1) dNext)
def b__law_signs_2 : DS := (dSeq (dRet (dVar 2)) dNext)
def b__law_signs_1 : DS := (dSeq (dFor (dRngI (dCon (.int 2))) (gN 3) b__law_signs_L0) b__law_signs_2)
def b__law_signs : DS := (dSeq (dSet 2 dTNew) b__law_signs_1)
abbrev s__law_lays : Stmt := top 13
abbrev N__law_lays : List Str := ["_law_kinds", "_law_other", "_law_some_here"]
abbrev p__law_lays : List Str := ["_law_kinds"]
theorem sc__law_lays : FnScope N__law_lays p__law_lays (defScope s__law_lays) := ⟨rfl, rfl, rfl, by decide +kernel, rfl, by decide +kernel, by decide +kernel⟩
theorem nd__law_lays_1 : List.Nodup (["_law_word", "_law_other", "_law_some_here"] : List Str) := by decide +kernel
def b__law_lays_7 : DS := (dSeq (dRet (dDictL (dLC [none, some 1, some 2] (dKeysD (dVar 2)) (gN 0) dTrue (dTup (dCons (dVar 0) (dCons (dFrzD (dCall 2 sp__law_signs (dCons (dDGetF (dVar 2) (dVar 0)) (dCons (dVar 1) dNil)))) dNil)))))) dNext)
def b__law_lays_6 : DS := (dSeq (dIf (dTst (dBin aEq (dVar 0) (dTup (dCons (dCon (.str "point")) (dCons (dCon (.str "point")) dNil))))) (dSeq (dSet 2 (dDisp [((dCon (.str "ahead")), (dTup (dCons (dCon (.int 1)) (dCons (dCon (.int 1)) dNil)))), ((dCon (.str "same")), (dTup (dCons (dCon (.int 5)) (dCons (dCon (.int 5)) dNil)))), ((dCon (.str "behind")), (dTup (dCons (dCon (.int 9)) (dCons (dCon (.int 9)) dNil))))])) dNext) dNext) b__law_lays_7)
def b__law_lays_5 : DS := (dSeq (dIf (dTst (dBin aEq (dVar 0) (dTup (dCons (dCon (.str "stretch")) (dCons (dCon (.str "point")) dNil))))) (dSeq (dSet 2 (dDisp [((dCon (.str "ahead")), (dTup (dCons (dCon (.int 1)) (dCons (dCon (.int 2)) dNil)))), ((dCon (.str "ended")), (dTup (dCons (dCon (.int 1)) (dCons (dCon (.int 5)) dNil)))), ((dCon (.str "holds")), (dTup (dCons (dCon (.int 1)) (dCons (dCon (.int 9)) dNil)))), ((dCon (.str "begun")), (dTup (dCons (dCon (.int 5)) (dCons (dCon (.int 9)) dNil)))), ((dCon (.str "behind")), (dTup (dCons (dCon (.int 8)) (dCons (dCon (.int 9)) dNil))))])) dNext) dNext) b__law_lays_6)
def b__law_lays_4 : DS := (dSeq (dIf (dTst (dBin aEq (dVar 0) (dTup (dCons (dCon (.str "point")) (dCons (dCon (.str "stretch")) dNil))))) (dSeq (dSet 2 (dDisp [((dCon (.str "ahead")), (dTup (dCons (dCon (.int 1)) (dCons (dCon (.int 1)) dNil)))), ((dCon (.str "begins")), (dTup (dCons (dCon (.int 4)) (dCons (dCon (.int 4)) dNil)))), ((dCon (.str "within")), (dTup (dCons (dCon (.int 6)) (dCons (dCon (.int 6)) dNil)))), ((dCon (.str "ends")), (dTup (dCons (dCon (.int 8)) (dCons (dCon (.int 8)) dNil)))), ((dCon (.str "behind")), (dTup (dCons (dCon (.int 9)) (dCons (dCon (.int 9)) dNil))))])) dNext) dNext) b__law_lays_5)
def b__law_lays_3 : DS := (dSeq (dExpr (dDUpd (dVar 2) (dDisp [((dCon (.str "met")), (dTup (dCons (dCon (.int 8)) (dCons (dCon (.int 9)) dNil)))), ((dCon (.str "behind")), (dTup (dCons (dCon (.int 9)) (dCons (dCon (.int 10)) dNil))))]))) b__law_lays_4)
def b__law_lays_2 : DS := (dSeq (dExpr (dDUpd (dVar 2) (dDisp [((dCon (.str "same")), (dTup (dCons (dCon (.int 4)) (dCons (dCon (.int 8)) dNil)))), ((dCon (.str "ended")), (dTup (dCons (dCon (.int 1)) (dCons (dCon (.int 8)) dNil)))), ((dCon (.str "holds")), (dTup (dCons (dCon (.int 1)) (dCons (dCon (.int 9)) dNil)))), ((dCon (.str "begun")), (dTup (dCons (dCon (.int 4)) (dCons (dCon (.int 9)) dNil)))), ((dCon (.str "lapped")), (dTup (dCons (dCon (.int 6)) (dCons (dCon (.int 9)) dNil))))]))) b__law_lays_3)
def b__law_lays_1 : DS := (dSeq (dSet 2 (dDisp [((dCon (.str "ahead")), (dTup (dCons (dCon (.int 1)) (dCons (dCon (.int 2)) dNil)))), ((dCon (.str "meets")), (dTup (dCons (dCon (.int 1)) (dCons (dCon (.int 4)) dNil)))), ((dCon (.str "overlaps")), (dTup (dCons (dCon (.int 1)) (dCons (dCon (.int 6)) dNil)))), ((dCon (.str "begins")), (dTup (dCons (dCon (.int 4)) (dCons (dCon (.int 6)) dNil)))), ((dCon (.str "within")), (dTup (dCons (dCon (.int 5)) (dCons (dCon (.int 7)) dNil)))), ((dCon (.str "ends")), (dTup (dCons (dCon (.int 6)) (dCons (dCon (.int 8)) dNil))))])) b__law_lays_2)
def b__law_lays : DS := (dSeq (dSet 1 (dIte (dTst (dBin aEq (dBin aIx (dVar 0) (dCon (.int 1))) (dCon (.str "stretch")))) (dTup (dCons (dCon (.int 4)) (dCons (dCon (.int 8)) dNil))) (dTup (dCons (dCon (.int 5)) (dCons (dCon (.int 5)) dNil))))) b__law_lays_1)
abbrev s__law_around : Stmt := top 14
abbrev N__law_around : List Str := ["_law_kinds", "_law_words_here", "_law_lays_here", "_law_found", "_law_word", "_law_good", "_law_spot", "_law_some_here"]
abbrev p__law_around : List Str := ["_law_kinds", "_law_words_here"]
theorem sc__law_around : FnScope N__law_around p__law_around (defScope s__law_around) := ⟨rfl, rfl, rfl, by decide +kernel, rfl, by decide +kernel, by decide +kernel⟩
theorem nd__law_around_1 : List.Nodup (["_law_one", "_law_lays_here", "_law_spot"] : List Str) := by decide +kernel
def b__law_around_L1_1 : DS := (dSeq (dSet 5 (dAnd (dVar 5) (dChain aLe aLe (dCallB bMin (dCons (dVar 7) dNil)) (dFGet (dFGet (dVar 2) (dVar 4)) (dVar 6)) (dCallB bMaxL (dCons (dVar 7) dNil))))) dNext)
def b__law_around_L1 : DS := (dSeq (dSet 7 (dLC [none, some 2, some 6] (dSeqI (dVar 1)) (gN 0) dTrue (dFGet (dFGet (dVar 1) (dVar 0)) (dVar 2)))) b__law_around_L1_1)
def b__law_around_L0_2 : DS := (dSeq (dIf (dTst (dVar 5)) (dSeq (dExpr (dApp (dVar 3) (dVar 4))) dNext) dNext) dNext)
def b__law_around_L0_1 : DS := (dSeq (dFor (dKeysF (dFGet (dVar 2) (dVar 4))) (gN 6) b__law_around_L1) b__law_around_L0_2)
def b__law_around_L0 : DS := (dSeq (dSet 5 (dBin aGt (dCallB bLen (dCons (dVar 1) dNil)) (dCon (.int 0)))) b__law_around_L0_1)
def b__law_around_3 : DS := (dSeq (dRet (dCallB bTuple (dCons (dVar 3) dNil))) dNext)
def b__law_around_2 : DS := (dSeq (dFor (dSeqI (dCall 1 sp__law_words (dCons (dVar 0) dNil))) (gN 4) b__law_around_L0) b__law_around_3)
def b__law_around_1 : DS := (dSeq (dSet 3 (dLstC dNil)) b__law_around_2)
def b__law_around : DS := (dSeq (dSet 2 (dFrzD (dCall 1 sp__law_lays (dCons (dVar 0) dNil)))) b__law_around_1)
abbrev s__law_some : Stmt := top 15
abbrev N__law_some : List Str := ["_law_feed_here", "_law_kinds", "_law_word", "_law_share", "_law_found"]
abbrev p__law_some : List Str := ["_law_feed_here", "_law_kinds", "_law_word"]
theorem sc__law_some : FnScope N__law_some p__law_some (defScope s__law_some) := ⟨rfl, rfl, rfl, by decide +kernel, rfl, by decide +kernel, by decide +kernel⟩
theorem nd__law_some_1 : List.Nodup (["_law_one", "_law_feed_here", "_law_word", "_law_share"] : List Str) := by decide +kernel
def b__law_some_2 : DS := (dSeq (dRet (dCallB bTuple (dCons (dVar 4) dNil))) dNext)
def b__law_some_1 : DS := (dSeq (dSet 4 (dLC [none, some 0, some 2, some 3] (dSeqI (dCall 1 sp__law_words (dCons (dVar 1) dNil))) (gN 0) (dOrT (dTst (dBin aEq (dVar 0) (dVar 2))) (dTst (dBin aEq (dCall 2 sp__law_draw (dCons (dVar 1) (dCons (dBin aAdd (dCon (.int 1)) (dVar 3)) dNil))) (dCon (.int 0))))) (dVar 0))) b__law_some_2)
def b__law_some : DS := (dSeq (dSet 3 (dBin aAdd (dCon (.int 1)) (dCall 2 sp__law_draw (dCons (dVar 0) (dCons (dCon (.int 3)) dNil))))) b__law_some_1)
abbrev s__law_due : Stmt := top 16
abbrev N__law_due : List Str := ["_law_kinds", "_law_words_here", "_law_x", "_law_y", "_law_lays_here"]
abbrev p__law_due : List Str := ["_law_kinds", "_law_words_here", "_law_x", "_law_y"]
theorem sc__law_due : FnScope N__law_due p__law_due (defScope s__law_due) := ⟨rfl, rfl, rfl, by decide +kernel, rfl, by decide +kernel, by decide +kernel⟩
theorem nd__law_due_1 : List.Nodup (["_law_word", "_law_x", "_law_y", "_law_lays_here"] : List Str) := by decide +kernel
def b__law_due_1 : DS := (dSeq (dRet (dCallB bTuple (dCons (dSortSetI (dLC [none, some 2, some 3, some 4] (dSeqI (dVar 1)) (gN 0) dTrue (dFGet (dFGet (dVar 3) (dVar 0)) (dTup (dCons (dVar 1) (dCons (dVar 2) dNil)))))) dNil))) dNext)
def b__law_due : DS := (dSeq (dSet 4 (dFrzD (dCall 1 sp__law_lays (dCons (dVar 0) dNil)))) b__law_due_1)
abbrev s__law_drawn : Stmt := top 17
abbrev N__law_drawn : List Str := ["_law_feed_here", "_law_kinds", "_law_way", "_law_every", "_law_words_here"]
abbrev p__law_drawn : List Str := ["_law_feed_here", "_law_kinds"]
theorem sc__law_drawn : FnScope N__law_drawn p__law_drawn (defScope s__law_drawn) := ⟨rfl, rfl, rfl, by decide +kernel, rfl, by decide +kernel, by decide +kernel⟩
def b__law_drawn_5 : DS := (dSeq (dRet (dIte (dTst (dBin aEq (dVar 2) (dCon (.int 2)))) (dCall 2 sp__law_around (dCons (dVar 1) (dCons (dVar 4) dNil))) (dVar 4))) dNext)
def b__law_drawn_4 : DS := (dSeq (dSet 4 (dCall 3 sp__law_some (dCons (dVar 0) (dCons (dVar 1) (dCons (dBin aIx (dVar 3) (dCall 2 sp__law_draw (dCons (dVar 0) (dCons (dCallB bLen (dCons (dVar 3) dNil)) dNil)))) dNil))))) b__law_drawn_5)
def b__law_drawn_3 : DS := (dSeq (dIf (dTst (dBin aEq (dVar 2) (dCon (.int 1)))) (dSeq (dRet (dTup (dCons (dBin aIx (dVar 3) (dCall 2 sp__law_draw (dCons (dVar 0) (dCons (dCallB bLen (dCons (dVar 3) dNil)) dNil)))) dNil))) dNext) dNext) b__law_drawn_4)
def b__law_drawn_2 : DS := (dSeq (dIf (dTst (dBin aEq (dVar 2) (dCon (.int 0)))) (dSeq (dRet (dBin aIx (dLst (dCons (dTup dNil) (dCons (dCallB bTuple (dCons (dVar 3) dNil)) dNil))) (dCall 2 sp__law_draw (dCons (dVar 0) (dCons (dCon (.int 2)) dNil))))) dNext) dNext) b__law_drawn_3)
def b__law_drawn_1 : DS := (dSeq (dSet 3 (dCall 1 sp__law_words (dCons (dVar 1) dNil))) b__law_drawn_2)
def b__law_drawn : DS := (dSeq (dSet 2 (dCall 2 sp__law_draw (dCons (dVar 0) (dCons (dCon (.int 5)) dNil)))) b__law_drawn_1)
abbrev s_law : Stmt := top 18
abbrev N_law : List Str := ["_law_script", "_law_feed_here", "_law_some_here", "_law_rows", "_law_k", "_law_kinds", "_law_words_here", "_law_x", "_law_y", "_law_due_here"]
abbrev p_law : List Str := ["_law_script"]
theorem sc_law : FnScope N_law p_law (defScope s_law) := ⟨rfl, rfl, rfl, by decide +kernel, rfl, by decide +kernel, by decide +kernel⟩
theorem nd_law_1 : List.Nodup (["_law_kinds", "_law_words_here", "_law_x", "_law_y", "_law_due_here"] : List Str) := by decide +kernel
def b_law_L2_2 : DS := (dSeq (dIf (dTst (dBin aNe (dCallB bRepr (dCons (dCall 4 sp_signs_in (dCons (dVar 5) (dCons (dVar 6) (dCons (dVar 7) (dCons (dVar 8) dNil))))) dNil)) (dCallB bRepr (dCons (dVar 9) dNil)))) (dSeq (dRet (dCon (.bool false))) dNext) dNext) dNext)
def b_law_L2_1 : DS := (dSeq (dExpr (dApp (dVar 3) (dTup (dCons (dVar 5) (dCons (dVar 6) (dCons (dVar 7) (dCons (dVar 8) (dCons (dCallB bRepr (dCons (dVar 9) dNil)) dNil)))))))) b_law_L2_2)
def b_law_L2 : DS := (dSeq (dSet 9 (dCall 4 sp__law_due (dCons (dVar 5) (dCons (dVar 6) (dCons (dVar 7) (dCons (dVar 8) dNil)))))) b_law_L2_1)
def b_law_L1 : DS := (dSeq (dFor (dRngI (dBin aAdd (dCon (.int 1)) (dIdxV (dVar 2) (dBin aIx (dVar 5) (dCon (.int 1)))))) (gN 8) b_law_L2) dNext)
def b_law_L0_2 : DS := (dSeq (dFor (dRngI (dBin aAdd (dCon (.int 1)) (dIdxV (dVar 2) (dBin aIx (dVar 5) (dCon (.int 0)))))) (gN 7) b_law_L1) dNext)
def b_law_L0_1 : DS := (dSeq (dSet 6 (dCall 2 sp__law_drawn (dCons (dVar 1) (dCons (dVar 5) dNil)))) b_law_L0_2)
def b_law_L0 : DS := (dSeq (dSet 5 (dTup (dCons (dBin aIx (dVar 2) (dCallB bInt (dCons (dBin aGt (dCall 2 sp__law_draw (dCons (dVar 1) (dCons (dCon (.int 4)) dNil))) (dCon (.int 0))) dNil))) (dCons (dBin aIx (dVar 2) (dCallB bInt (dCons (dBin aGt (dCall 2 sp__law_draw (dCons (dVar 1) (dCons (dCon (.int 4)) dNil))) (dCon (.int 0))) dNil))) dNil)))) b_law_L0_1)
def b_law_4 : DS := (dSeq (dRet (dBin aEq (dLC [none, none, none, none, none] (dSeqI (dStepL (dVar 3) (dCon (.int 3)))) (gT 5 (gNs (gN 0) (gNs (gN 1) (gNs (gN 2) (gNs (gN 3) (gNs (gN 4) gN0)))))) (dTst (dBin aNe (dCallB bRepr (dCons (dCall 4 sp_signs_in (dCons (dVar 0) (dCons (dVar 1) (dCons (dVar 2) (dCons (dVar 3) dNil))))) dNil)) (dVar 4))) (dCon (.int 1))) (dLst dNil))) dNext)
def b_law_3 : DS := (dSeq (dFor (dRngI (dCon (.int 20))) (gN 4) b_law_L0) b_law_4)
def b_law_2 : DS := (dSeq (dSet 3 (dLstC dNil)) b_law_3)
def b_law_1 : DS := (dSeq (dSet 2 (dLst (dCons (dCon (.str "point")) (dCons (dCon (.str "stretch")) dNil)))) b_law_2)
def b_law : DS := (dSeq (dSet 1 (dCall 1 sp__law_feed (dCons (dVar 0) dNil))) b_law_1)
end K37
namespace K37
open PySem PySem.Spec PyProof.Rows L2 DL
section
variable {P : Program} {w : World} {K : PySem.W.Frag} {mg : Str → Option Value} {base : Heap}
theorem ok_ways_by {a_ways_by : Addr} {fd_ways_by : FuncData} (F_ways_by : Fun K "ways_by" "ways_by" s_ways_by a_ways_by fd_ways_by) {c_WAYS : Addr} (M_WAYS : mg "WAYS" = some (.ref c_WAYS)) (K_WAYS : KD K w c_WAYS tb_WAYS)
    (vc : ∀ ds m R, ds.length = p_ways_by.length → sp_ways_by ds m R → b_ways_by { nx := fun _ m => R (.dat .none) m, rt := R } (start2 N_ways_by ds) m) : FnOk P w K mg base CX0 1 a_ways_by fd_ways_by p_ways_by (LSp K 2 sp_ways_by) :=
  qfn_body (k := 0) F_ways_by sc_ways_by (body := b_ways_by) (fun cdv A outer s H E hr => have nd := (sc_ways_by).nd; (qlss_cons (qls_set 2 nd (qle_dgetC rfl M_WAYS K_WAYS (qle_var 1))) (qlss_cons (qls_if (qlt_cmp (od_eq hr.u100) (qle_var 0) (qle_tup (qla_cons qle_str (qla_cons qle_str qla_nil)))) (qlss_cons (qls_ret (qle_var 2)) qlss_nil) qlss_nil) (qlss_cons (qls_if (qlt_cmp (od_eq hr.u100) (qle_var 0) (qle_tup (qla_cons qle_str (qla_cons qle_str qla_nil)))) (qlss_cons (qls_ret (qle_slX (qle_var 2) qlo_none (qlo_some qle_int))) qlss_nil) qlss_nil) (qlss_cons (qls_ret (qle_tup (qla_cons (qle_ix (qle_var 2) qle_int) (qla_cons (qle_ix (qle_var 2) qle_int) qla_nil)))) qlss_nil))))) vc
theorem ok_how_ends {a_how_ends : Addr} {fd_how_ends : FuncData} (F_how_ends : Fun K "how_ends" "how_ends" s_how_ends a_how_ends fd_how_ends) {a_ways_by : Addr} {fd_ways_by : FuncData} (F_ways_by : Fun K "ways_by" "ways_by" s_ways_by a_ways_by fd_ways_by) (B_ways_by : Binds K fd_ways_by p_ways_by []) (M_ways_by : mg "ways_by" = some (.ref a_ways_by)) (C_ways_by : FnOk P w K mg base CX0 1 a_ways_by fd_ways_by p_ways_by (LSp K 2 sp_ways_by)) {c_END_COUNTS : Addr} (M_END_COUNTS : mg "END_COUNTS" = some (.ref c_END_COUNTS)) (K_END_COUNTS : KD K w c_END_COUNTS tb_END_COUNTS)
    (vc : ∀ ds m R, ds.length = p_how_ends.length → sp_how_ends ds m R → b_how_ends { nx := fun _ m => R (.dat .none) m, rt := R } (start2 N_how_ends ds) m) : FnOk P w K mg base CX0 2 a_how_ends fd_how_ends p_how_ends (LSp K 4 sp_how_ends) :=
  qfn_body (k := 1) F_how_ends sc_how_ends (body := b_how_ends) (fun cdv A outer s H E hr => have nd := (sc_how_ends).nd; (qlss_cons (qls_ret (qle_ix (qle_call C_ways_by (hr.mono (by decide)) M_ways_by F_ways_by.kp B_ways_by rfl (qla_cons (qle_var 0) (qla_cons (qle_var 1) qla_nil))) (qle_bin od_add (qle_bin od_mul (qle_var 2) (qle_dgetC rfl M_END_COUNTS K_END_COUNTS (qle_ix (qle_var 0) qle_int))) (qle_var 3)))) qlss_nil)) vc
theorem ok_signs_in {a_signs_in : Addr} {fd_signs_in : FuncData} (F_signs_in : Fun K "signs_in" "signs_in" s_signs_in a_signs_in fd_signs_in) {a_how_ends : Addr} {fd_how_ends : FuncData} (F_how_ends : Fun K "how_ends" "how_ends" s_how_ends a_how_ends fd_how_ends) (B_how_ends : Binds K fd_how_ends p_how_ends []) (M_how_ends : mg "how_ends" = some (.ref a_how_ends)) (C_how_ends : FnOk P w K mg base CX0 2 a_how_ends fd_how_ends p_how_ends (LSp K 4 sp_how_ends)) (m_tuple : mg "tuple" = none) (m_sorted : mg "sorted" = none)
    (vc : ∀ ds m R, ds.length = p_signs_in.length → sp_signs_in ds m R → b_signs_in { nx := fun _ m => R (.dat .none) m, rt := R } (start2 N_signs_in ds) m) : FnOk P w K mg base CX0 3 a_signs_in fd_signs_in p_signs_in (LSp K 4 sp_signs_in) :=
  qfn_body (k := 2) F_signs_in sc_signs_in (body := b_signs_in) (fun cdv A outer s H E hr => have nd := (sc_signs_in).nd; (qlss_cons (qls_ret (qle_callTy cd_tuple rfl m_tuple boot_tuple_ (qla_cons (qle_sortSCB ["word", "kinds", "x", "y"] [none, some 0, some 2, some 3] rfl rfl m_sorted (qli_seq (qle_var 1)) (fun cl C s2 H2 pins fp => (qlg_name 0 nd_signs_in_1)) (fun cl C s2 H2 pins fp => qpf_nil) (fun cl C s2 H2 pins fp => (qle_call C_how_ends (hr.mono (by decide)) M_how_ends F_how_ends.kp B_how_ends rfl (qla_cons (qle_var 1) (qla_cons (qle_var 0) (qla_cons (qle_var 2) (qla_cons (qle_var 3) qla_nil))))))) qla_nil))) qlss_nil)) vc
theorem ok__law_feed {a__law_feed : Addr} {fd__law_feed : FuncData} (F__law_feed : Fun K "_law_feed" "_law_feed" s__law_feed a__law_feed fd__law_feed) (m_list : mg "list" = none)
    (vc : ∀ ds m R, ds.length = p__law_feed.length → sp__law_feed ds m R → b__law_feed { nx := fun _ m => R (.dat .none) m, rt := R } (start2 N__law_feed ds) m) : FnOk P w K mg base CX0 1 a__law_feed fd__law_feed p__law_feed (LSp K 1 sp__law_feed) :=
  qfn_body (k := 0) F__law_feed sc__law_feed (body := b__law_feed) (fun cdv A outer s H E hr => have nd := (sc__law_feed).nd; (qlss_cons (qls_ret (qle_disp (qld_cons qle_str (qle_callTy cd_list rfl m_list boot_list_ (qla_cons (qle_slX (qle_var 0) qlo_none (qlo_some qle_int)) qla_nil)) (qld_cons qle_str qle_int (qld_cons qle_str qle_int (qld_cons qle_str qle_int qld_nil)))))) qlss_nil)) vc
theorem ok__law_draw {a__law_draw : Addr} {fd__law_draw : FuncData} (F__law_draw : Fun K "_law_draw" "_law_draw" s__law_draw a__law_draw fd__law_draw) (m_len : mg "len" = none)
    (vc : ∀ ds m R, ds.length = p__law_draw.length → sp__law_draw ds m R → b__law_draw { nx := fun _ m => R (.dat .none) m, rt := R } (start2 N__law_draw ds) m) : FnOk P w K mg base CX0 1 a__law_draw fd__law_draw p__law_draw (LSp K 2 sp__law_draw) :=
  qfn_body (k := 0) F__law_draw sc__law_draw (body := b__law_draw) (fun cdv A outer s H E hr => have nd := (sc__law_draw).nd; (qlss_cons (qls_dput hr.u100 (qle_bin od_add (qle_dget hr.u100 (qle_var 0) qle_str) qle_int) (qle_var 0) qle_str) (qlss_cons (qls_set 2 nd (qle_bin od_mod (qle_dget hr.u100 (qle_var 0) qle_str) (qle_var 1))) (qlss_cons (qls_if (qlt_cmp od_gt (qle_dget hr.u100 (qle_var 0) qle_str) qle_int) (qlss_cons (qls_dput hr.u100 (qle_bin od_div (qle_dget hr.u100 (qle_var 0) qle_str) (qle_var 1)) (qle_var 0) qle_str) (qlss_cons (qls_ret (qle_var 2)) qlss_nil)) qlss_nil) (qlss_cons (qls_set 3 nd (qle_dget hr.u100 (qle_var 0) qle_str)) (qlss_cons (qls_dput hr.u100 (qle_bin od_add (qle_var 3) qle_int) (qle_var 0) qle_str) (qlss_cons (qls_set 4 nd qle_int) (qlss_cons (qls_if (qlt_cmp (od_ne hr.u100) (qle_dget hr.u100 (qle_var 0) qle_str) (qle_lst qla_nil)) (qlss_cons (qls_set 4 nd (qle_ix (qle_dget hr.u100 (qle_var 0) qle_str) (qle_bin od_mod (qle_var 3) (qle_callB cd_len rfl m_len boot_len_ (qla_cons (qle_dget hr.u100 (qle_var 0) qle_str) qla_nil))))) qlss_nil) qlss_nil) (qlss_cons (qls_if (QW.pt (qlw_and (qlt_cmp od_ge (qle_var 4) (qle_bin od_pow qle_int qle_int)) (qlw_and1 (qlt_cmp od_lt (qle_var 3) (qle_callB cd_len rfl m_len boot_len_ (qla_cons (qle_dget hr.u100 (qle_var 0) qle_str) qla_nil)))))) (qlss_cons (qls_dput hr.u100 (qle_bin od_div (qle_var 4) (qle_var 1)) (qle_var 0) qle_str) (qlss_cons (qls_ret (qle_bin od_mod (qle_var 4) (qle_var 1))) qlss_nil)) qlss_nil) (qlss_cons (qls_set 5 nd (qle_bin od_mod (qle_bin od_mul (qle_bin od_add (qle_bin od_mod (qle_var 4) qle_int) (qle_bin od_mul qle_int (qle_dget hr.u100 (qle_var 0) qle_str))) qle_int) qle_int)) (qlss_cons (qls_set 5 nd (qle_bin od_mod (qle_bin od_mul (qle_bin od_add (qle_bin od_div (qle_var 5) qle_int) (qle_bin od_mul qle_int (qle_dget hr.u100 (qle_var 0) qle_str))) qle_int) qle_int)) (qlss_cons (qls_ret (qle_bin od_mod (qle_bin od_div (qle_var 5) qle_int) (qle_var 1))) qlss_nil)))))))))))) vc
theorem ok__law_order {a__law_order : Addr} {fd__law_order : FuncData} (F__law_order : Fun K "_law_order" "_law_order" s__law_order a__law_order fd__law_order) 
    (vc : ∀ ds m R, ds.length = p__law_order.length → sp__law_order ds m R → b__law_order { nx := fun _ m => R (.dat .none) m, rt := R } (start2 N__law_order ds) m) : FnOk P w K mg base CX0 1 a__law_order fd__law_order p__law_order (LSp K 0 sp__law_order) :=
  qfn_body (k := 0) F__law_order sc__law_order (body := b__law_order) (fun cdv A outer s H E hr => have nd := (sc__law_order).nd; (qlss_cons (qls_set 0 nd (qle_lst (qla_cons qle_str (qla_cons qle_str (qla_cons qle_str (qla_cons qle_str (qla_cons qle_str (qla_cons qle_str (qla_cons qle_str qla_nil))))))))) (qlss_cons (qls_ret (qle_bin od_add (qle_var 0) (qle_lst (qla_cons qle_str (qla_cons qle_str (qla_cons qle_str (qla_cons qle_str (qla_cons qle_str (qla_cons qle_str qla_nil))))))))) qlss_nil))) vc
theorem ok__law_words {a__law_words : Addr} {fd__law_words : FuncData} (F__law_words : Fun K "_law_words" "_law_words" s__law_words a__law_words fd__law_words) {a__law_order : Addr} {fd__law_order : FuncData} (F__law_order : Fun K "_law_order" "_law_order" s__law_order a__law_order fd__law_order) (B__law_order : Binds K fd__law_order p__law_order []) (M__law_order : mg "_law_order" = some (.ref a__law_order)) (C__law_order : FnOk P w K mg base CX0 1 a__law_order fd__law_order p__law_order (LSp K 0 sp__law_order))
    (vc : ∀ ds m R, ds.length = p__law_words.length → sp__law_words ds m R → b__law_words { nx := fun _ m => R (.dat .none) m, rt := R } (start2 N__law_words ds) m) : FnOk P w K mg base CX0 2 a__law_words fd__law_words p__law_words (LSp K 1 sp__law_words) :=
  qfn_body (k := 1) F__law_words sc__law_words (body := b__law_words) (fun cdv A outer s H E hr => have nd := (sc__law_words).nd; (qlss_cons (qls_set 1 nd (qle_ndisp1 hr.u100 (qle_tup (qla_cons qle_str (qla_cons qle_str qla_nil))) (qle_lst (qla_cons qle_str (qla_cons qle_str (qla_cons qle_str qla_nil)))))) (qlss_cons (qls_nput hr.u100 (qle_lst (qla_cons qle_str (qla_cons qle_str (qla_cons qle_str (qla_cons qle_str (qla_cons qle_str qla_nil)))))) (qle_var 1) (qle_tup (qla_cons qle_str (qla_cons qle_str qla_nil)))) (qlss_cons (qls_nput hr.u100 (qle_lst (qla_cons qle_str (qla_cons qle_str (qla_cons qle_str (qla_cons qle_str (qla_cons qle_str qla_nil)))))) (qle_var 1) (qle_tup (qla_cons qle_str (qla_cons qle_str qla_nil)))) (qlss_cons (qls_ret (qle_nget2 hr.u100 (qle_var 1) (qle_var 0) (qle_call0 C__law_order (hr.mono (by decide)) M__law_order F__law_order.kp B__law_order rfl))) qlss_nil))))) vc
theorem ok__law_signs {a__law_signs : Addr} {fd__law_signs : FuncData} (F__law_signs : Fun K "_law_signs" "_law_signs" s__law_signs a__law_signs fd__law_signs) (m_int : mg "int" = none) (m_range : mg "range" = none)
    (vc : ∀ ds m R, ds.length = p__law_signs.length → sp__law_signs ds m R → b__law_signs { nx := fun _ m => R (.dat .none) m, rt := R } (start2 N__law_signs ds) m) : FnOk P w K mg base CX0 1 a__law_signs fd__law_signs p__law_signs (LSp K 2 sp__law_signs) :=
  qfn_body (k := 0) F__law_signs sc__law_signs (body := b__law_signs) (fun cdv A outer s H E hr => have nd := (sc__law_signs).nd; (qlss_cons (qls_set 2 nd qle_tnew) (qlss_cons (qls_for PassesOwn.never rfl (qli_range rfl m_range qle_int) (qlg_name 3 nd) (qlss_cons (qls_for PassesOwn.never rfl (qli_range rfl m_range qle_int) (qlg_name 4 nd) (qlss_cons (qls_tput hr.u100 (qle_bin od_sub (qle_callTy cd_int rfl m_int boot_int_ (qla_cons (qle_cmp od_gt (qle_ix (qle_var 0) (qle_var 3)) (qle_ix (qle_var 1) (qle_var 4))) qla_nil)) (qle_callTy cd_int rfl m_int boot_int_ (qla_cons (qle_cmp od_lt (qle_ix (qle_var 0) (qle_var 3)) (qle_ix (qle_var 1) (qle_var 4))) qla_nil))) (qle_var 2) (qla_cons (qle_var 3) (qla_cons (qle_var 4) qla_nil))) qlss_nil)) qlss_nil)) (qlss_cons (qls_ret (qle_var 2)) qlss_nil)))) vc
theorem ok__law_lays {a__law_lays : Addr} {fd__law_lays : FuncData} (F__law_lays : Fun K "_law_lays" "_law_lays" s__law_lays a__law_lays fd__law_lays) {a__law_signs : Addr} {fd__law_signs : FuncData} (F__law_signs : Fun K "_law_signs" "_law_signs" s__law_signs a__law_signs fd__law_signs) (B__law_signs : Binds K fd__law_signs p__law_signs []) (M__law_signs : mg "_law_signs" = some (.ref a__law_signs)) (C__law_signs : FnOk P w K mg base CX0 1 a__law_signs fd__law_signs p__law_signs (LSp K 2 sp__law_signs)) (m_dict : mg "dict" = none)
    (vc : ∀ ds m R, ds.length = p__law_lays.length → sp__law_lays ds m R → b__law_lays { nx := fun _ m => R (.dat .none) m, rt := R } (start2 N__law_lays ds) m) : FnOk P w K mg base CX0 2 a__law_lays fd__law_lays p__law_lays (LSp K 1 sp__law_lays) :=
  qfn_body (k := 1) F__law_lays sc__law_lays (body := b__law_lays) (fun cdv A outer s H E hr => have nd := (sc__law_lays).nd; (qlss_cons (qls_set 1 nd (qle_ite (qlt_cmp (od_eq hr.u100) (qle_ix (qle_var 0) qle_int) qle_str) (qle_tup (qla_cons qle_int (qla_cons qle_int qla_nil))) (qle_tup (qla_cons qle_int (qla_cons qle_int qla_nil))))) (qlss_cons (qls_set 2 nd (qle_disp (qld_cons qle_str (qle_tup (qla_cons qle_int (qla_cons qle_int qla_nil))) (qld_cons qle_str (qle_tup (qla_cons qle_int (qla_cons qle_int qla_nil))) (qld_cons qle_str (qle_tup (qla_cons qle_int (qla_cons qle_int qla_nil))) (qld_cons qle_str (qle_tup (qla_cons qle_int (qla_cons qle_int qla_nil))) (qld_cons qle_str (qle_tup (qla_cons qle_int (qla_cons qle_int qla_nil))) (qld_cons qle_str (qle_tup (qla_cons qle_int (qla_cons qle_int qla_nil))) qld_nil)))))))) (qlss_cons (qls_expr (qle_dupd (qle_var 2) (qle_disp (qld_cons qle_str (qle_tup (qla_cons qle_int (qla_cons qle_int qla_nil))) (qld_cons qle_str (qle_tup (qla_cons qle_int (qla_cons qle_int qla_nil))) (qld_cons qle_str (qle_tup (qla_cons qle_int (qla_cons qle_int qla_nil))) (qld_cons qle_str (qle_tup (qla_cons qle_int (qla_cons qle_int qla_nil))) (qld_cons qle_str (qle_tup (qla_cons qle_int (qla_cons qle_int qla_nil))) qld_nil)))))))) (qlss_cons (qls_expr (qle_dupd (qle_var 2) (qle_disp (qld_cons qle_str (qle_tup (qla_cons qle_int (qla_cons qle_int qla_nil))) (qld_cons qle_str (qle_tup (qla_cons qle_int (qla_cons qle_int qla_nil))) qld_nil))))) (qlss_cons (qls_if (qlt_cmp (od_eq hr.u100) (qle_var 0) (qle_tup (qla_cons qle_str (qla_cons qle_str qla_nil)))) (qlss_cons (qls_set 2 nd (qle_disp (qld_cons qle_str (qle_tup (qla_cons qle_int (qla_cons qle_int qla_nil))) (qld_cons qle_str (qle_tup (qla_cons qle_int (qla_cons qle_int qla_nil))) (qld_cons qle_str (qle_tup (qla_cons qle_int (qla_cons qle_int qla_nil))) (qld_cons qle_str (qle_tup (qla_cons qle_int (qla_cons qle_int qla_nil))) (qld_cons qle_str (qle_tup (qla_cons qle_int (qla_cons qle_int qla_nil))) qld_nil))))))) qlss_nil) qlss_nil) (qlss_cons (qls_if (qlt_cmp (od_eq hr.u100) (qle_var 0) (qle_tup (qla_cons qle_str (qla_cons qle_str qla_nil)))) (qlss_cons (qls_set 2 nd (qle_disp (qld_cons qle_str (qle_tup (qla_cons qle_int (qla_cons qle_int qla_nil))) (qld_cons qle_str (qle_tup (qla_cons qle_int (qla_cons qle_int qla_nil))) (qld_cons qle_str (qle_tup (qla_cons qle_int (qla_cons qle_int qla_nil))) (qld_cons qle_str (qle_tup (qla_cons qle_int (qla_cons qle_int qla_nil))) (qld_cons qle_str (qle_tup (qla_cons qle_int (qla_cons qle_int qla_nil))) qld_nil))))))) qlss_nil) qlss_nil) (qlss_cons (qls_if (qlt_cmp (od_eq hr.u100) (qle_var 0) (qle_tup (qla_cons qle_str (qla_cons qle_str qla_nil)))) (qlss_cons (qls_set 2 nd (qle_disp (qld_cons qle_str (qle_tup (qla_cons qle_int (qla_cons qle_int qla_nil))) (qld_cons qle_str (qle_tup (qla_cons qle_int (qla_cons qle_int qla_nil))) (qld_cons qle_str (qle_tup (qla_cons qle_int (qla_cons qle_int qla_nil))) qld_nil))))) qlss_nil) qlss_nil) (qlss_cons (qls_ret (qle_dictL rfl rfl m_dict (qle_lcB ["_law_word", "_law_other", "_law_some_here"] [none, some 1, some 2] rfl (qli_keysD (qle_var 2)) (fun cl C s2 H2 pins fp => (qlg_name 0 nd__law_lays_1)) (fun cl C s2 H2 pins fp => qpf_nil) (fun cl C s2 H2 pins fp => (qle_tup (qla_cons (qle_var 0) (qla_cons (qle_frzD (qle_call C__law_signs (hr.mono (by decide)) M__law_signs F__law_signs.kp B__law_signs rfl (qla_cons (qle_dgetF hr.u100 (qle_var 2) (qle_var 0)) (qla_cons (qle_var 1) qla_nil)))) qla_nil))))))) qlss_nil))))))))) vc
theorem ok__law_around {a__law_around : Addr} {fd__law_around : FuncData} (F__law_around : Fun K "_law_around" "_law_around" s__law_around a__law_around fd__law_around) {a__law_lays : Addr} {fd__law_lays : FuncData} (F__law_lays : Fun K "_law_lays" "_law_lays" s__law_lays a__law_lays fd__law_lays) (B__law_lays : Binds K fd__law_lays p__law_lays []) (M__law_lays : mg "_law_lays" = some (.ref a__law_lays)) (C__law_lays : FnOk P w K mg base CX0 2 a__law_lays fd__law_lays p__law_lays (LSp K 1 sp__law_lays)) {a__law_words : Addr} {fd__law_words : FuncData} (F__law_words : Fun K "_law_words" "_law_words" s__law_words a__law_words fd__law_words) (B__law_words : Binds K fd__law_words p__law_words []) (M__law_words : mg "_law_words" = some (.ref a__law_words)) (C__law_words : FnOk P w K mg base CX0 2 a__law_words fd__law_words p__law_words (LSp K 1 sp__law_words)) (m_len : mg "len" = none) (m_min : mg "min" = none) (m_max : mg "max" = none) (m_tuple : mg "tuple" = none)
    (vc : ∀ ds m R, ds.length = p__law_around.length → sp__law_around ds m R → b__law_around { nx := fun _ m => R (.dat .none) m, rt := R } (start2 N__law_around ds) m) : FnOk P w K mg base CX0 3 a__law_around fd__law_around p__law_around (LSp K 2 sp__law_around) :=
  qfn_body (k := 2) F__law_around sc__law_around (body := b__law_around) (fun cdv A outer s H E hr => have nd := (sc__law_around).nd; (qlss_cons (qls_set 2 nd (qle_frzD (qle_call C__law_lays (hr.mono (by decide)) M__law_lays F__law_lays.kp B__law_lays rfl (qla_cons (qle_var 0) qla_nil)))) (qlss_cons (qls_set 3 nd (qle_lstC qla_nil)) (qlss_cons (qls_for PassesOwn.never rfl (qli_seq (qle_call C__law_words (hr.mono (by decide)) M__law_words F__law_words.kp B__law_words rfl (qla_cons (qle_var 0) qla_nil))) (qlg_name 4 nd) (qlss_cons (qls_set 5 nd (qle_cmp od_gt (qle_callB cd_len rfl m_len boot_len_ (qla_cons (qle_var 1) qla_nil)) qle_int)) (qlss_cons (qls_for PassesOwn.never rfl (qli_fdk (qle_fget hr.u100 (qle_var 2) (qle_var 4))) (qlg_name 6 nd) (qlss_cons (qls_lcB 7 ["_law_one", "_law_lays_here", "_law_spot"] [none, some 2, some 6] rfl nd (qli_seq (qle_var 1)) (fun cl C s2 H2 pins fp => (qlg_name 0 nd__law_around_1)) (fun cl C s2 H2 pins fp => qpf_nil) (fun cl C s2 H2 pins fp => (qle_fget hr.u100 (qle_fget hr.u100 (qle_var 1) (qle_var 0)) (qle_var 2)))) (qlss_cons (qls_set 5 nd (qle_and (qle_var 5) (qle_one (qle_chain od_le od_le (qle_callB (cd_min rfl) rfl m_min boot_min_ (qla_cons (qle_var 7) qla_nil)) (qle_fget hr.u100 (qle_fget hr.u100 (qle_var 2) (qle_var 4)) (qle_var 6)) (qle_callB (cd_maxL rfl) rfl m_max boot_max_ (qla_cons (qle_var 7) qla_nil)))))) qlss_nil))) (qlss_cons (qls_if (qlt_val (qle_var 5)) (qlss_cons (qls_expr (qle_app (qle_var 3) (qle_var 4))) qlss_nil) qlss_nil) qlss_nil)))) (qlss_cons (qls_ret (qle_callTy cd_tuple rfl m_tuple boot_tuple_ (qla_cons (qle_var 3) qla_nil))) qlss_nil))))) vc
theorem ok__law_some {a__law_some : Addr} {fd__law_some : FuncData} (F__law_some : Fun K "_law_some" "_law_some" s__law_some a__law_some fd__law_some) {a__law_draw : Addr} {fd__law_draw : FuncData} (F__law_draw : Fun K "_law_draw" "_law_draw" s__law_draw a__law_draw fd__law_draw) (B__law_draw : Binds K fd__law_draw p__law_draw []) (M__law_draw : mg "_law_draw" = some (.ref a__law_draw)) (C__law_draw : FnOk P w K mg base CX0 1 a__law_draw fd__law_draw p__law_draw (LSp K 2 sp__law_draw)) {a__law_words : Addr} {fd__law_words : FuncData} (F__law_words : Fun K "_law_words" "_law_words" s__law_words a__law_words fd__law_words) (B__law_words : Binds K fd__law_words p__law_words []) (M__law_words : mg "_law_words" = some (.ref a__law_words)) (C__law_words : FnOk P w K mg base CX0 2 a__law_words fd__law_words p__law_words (LSp K 1 sp__law_words)) (m_tuple : mg "tuple" = none)
    (vc : ∀ ds m R, ds.length = p__law_some.length → sp__law_some ds m R → b__law_some { nx := fun _ m => R (.dat .none) m, rt := R } (start2 N__law_some ds) m) : FnOk P w K mg base CX0 3 a__law_some fd__law_some p__law_some (LSp K 3 sp__law_some) :=
  qfn_body (k := 2) F__law_some sc__law_some (body := b__law_some) (fun cdv A outer s H E hr => have nd := (sc__law_some).nd; (qlss_cons (qls_set 3 nd (qle_bin od_add qle_int (qle_call C__law_draw (hr.mono (by decide)) M__law_draw F__law_draw.kp B__law_draw rfl (qla_cons (qle_var 0) (qla_cons qle_int qla_nil))))) (qlss_cons (qls_lcB 4 ["_law_one", "_law_feed_here", "_law_word", "_law_share"] [none, some 0, some 2, some 3] rfl nd (qli_seq (qle_call C__law_words (hr.mono (by decide)) M__law_words F__law_words.kp B__law_words rfl (qla_cons (qle_var 1) qla_nil))) (fun cl C s2 H2 pins fp => (qlg_name 0 nd__law_some_1)) (fun cl C s2 H2 pins fp => (qpf_one (QW.pt (qlw_or (qlt_cmp (od_eq hr.u100) (qle_var 0) (qle_var 2)) (qlw_or1 (qlt_cmp (od_eq hr.u100) (qle_call C__law_draw (hr.mono (by decide)) M__law_draw F__law_draw.kp B__law_draw rfl (qla_cons (qle_var 1) (qla_cons (qle_bin od_add qle_int (qle_var 3)) qla_nil))) qle_int)))))) (fun cl C s2 H2 pins fp => (qle_var 0))) (qlss_cons (qls_ret (qle_callTy cd_tuple rfl m_tuple boot_tuple_ (qla_cons (qle_var 4) qla_nil))) qlss_nil)))) vc
theorem ok__law_due {a__law_due : Addr} {fd__law_due : FuncData} (F__law_due : Fun K "_law_due" "_law_due" s__law_due a__law_due fd__law_due) {a__law_lays : Addr} {fd__law_lays : FuncData} (F__law_lays : Fun K "_law_lays" "_law_lays" s__law_lays a__law_lays fd__law_lays) (B__law_lays : Binds K fd__law_lays p__law_lays []) (M__law_lays : mg "_law_lays" = some (.ref a__law_lays)) (C__law_lays : FnOk P w K mg base CX0 2 a__law_lays fd__law_lays p__law_lays (LSp K 1 sp__law_lays)) (m_tuple : mg "tuple" = none) (m_sorted : mg "sorted" = none) (m_set : mg "set" = none)
    (vc : ∀ ds m R, ds.length = p__law_due.length → sp__law_due ds m R → b__law_due { nx := fun _ m => R (.dat .none) m, rt := R } (start2 N__law_due ds) m) : FnOk P w K mg base CX0 3 a__law_due fd__law_due p__law_due (LSp K 4 sp__law_due) :=
  qfn_body (k := 2) F__law_due sc__law_due (body := b__law_due) (fun cdv A outer s H E hr => have nd := (sc__law_due).nd; (qlss_cons (qls_set 4 nd (qle_frzD (qle_call C__law_lays (hr.mono (by decide)) M__law_lays F__law_lays.kp B__law_lays rfl (qla_cons (qle_var 0) qla_nil)))) (qlss_cons (qls_ret (qle_callTy cd_tuple rfl m_tuple boot_tuple_ (qla_cons (qle_sortSetI rfl rfl m_sorted rfl m_set (qle_lcB ["_law_word", "_law_x", "_law_y", "_law_lays_here"] [none, some 2, some 3, some 4] rfl (qli_seq (qle_var 1)) (fun cl C s2 H2 pins fp => (qlg_name 0 nd__law_due_1)) (fun cl C s2 H2 pins fp => qpf_nil) (fun cl C s2 H2 pins fp => (qle_fget hr.u100 (qle_fget hr.u100 (qle_var 3) (qle_var 0)) (qle_tup (qla_cons (qle_var 1) (qla_cons (qle_var 2) qla_nil))))))) qla_nil))) qlss_nil))) vc
theorem ok__law_drawn {a__law_drawn : Addr} {fd__law_drawn : FuncData} (F__law_drawn : Fun K "_law_drawn" "_law_drawn" s__law_drawn a__law_drawn fd__law_drawn) {a__law_draw : Addr} {fd__law_draw : FuncData} (F__law_draw : Fun K "_law_draw" "_law_draw" s__law_draw a__law_draw fd__law_draw) (B__law_draw : Binds K fd__law_draw p__law_draw []) (M__law_draw : mg "_law_draw" = some (.ref a__law_draw)) (C__law_draw : FnOk P w K mg base CX0 1 a__law_draw fd__law_draw p__law_draw (LSp K 2 sp__law_draw)) {a__law_words : Addr} {fd__law_words : FuncData} (F__law_words : Fun K "_law_words" "_law_words" s__law_words a__law_words fd__law_words) (B__law_words : Binds K fd__law_words p__law_words []) (M__law_words : mg "_law_words" = some (.ref a__law_words)) (C__law_words : FnOk P w K mg base CX0 2 a__law_words fd__law_words p__law_words (LSp K 1 sp__law_words)) {a__law_some : Addr} {fd__law_some : FuncData} (F__law_some : Fun K "_law_some" "_law_some" s__law_some a__law_some fd__law_some) (B__law_some : Binds K fd__law_some p__law_some []) (M__law_some : mg "_law_some" = some (.ref a__law_some)) (C__law_some : FnOk P w K mg base CX0 3 a__law_some fd__law_some p__law_some (LSp K 3 sp__law_some)) {a__law_around : Addr} {fd__law_around : FuncData} (F__law_around : Fun K "_law_around" "_law_around" s__law_around a__law_around fd__law_around) (B__law_around : Binds K fd__law_around p__law_around []) (M__law_around : mg "_law_around" = some (.ref a__law_around)) (C__law_around : FnOk P w K mg base CX0 3 a__law_around fd__law_around p__law_around (LSp K 2 sp__law_around)) (m_tuple : mg "tuple" = none) (m_len : mg "len" = none)
    (vc : ∀ ds m R, ds.length = p__law_drawn.length → sp__law_drawn ds m R → b__law_drawn { nx := fun _ m => R (.dat .none) m, rt := R } (start2 N__law_drawn ds) m) : FnOk P w K mg base CX0 4 a__law_drawn fd__law_drawn p__law_drawn (LSp K 2 sp__law_drawn) :=
  qfn_body (k := 3) F__law_drawn sc__law_drawn (body := b__law_drawn) (fun cdv A outer s H E hr => have nd := (sc__law_drawn).nd; (qlss_cons (qls_set 2 nd (qle_call C__law_draw (hr.mono (by decide)) M__law_draw F__law_draw.kp B__law_draw rfl (qla_cons (qle_var 0) (qla_cons qle_int qla_nil)))) (qlss_cons (qls_set 3 nd (qle_call C__law_words (hr.mono (by decide)) M__law_words F__law_words.kp B__law_words rfl (qla_cons (qle_var 1) qla_nil))) (qlss_cons (qls_if (qlt_cmp (od_eq hr.u100) (qle_var 2) qle_int) (qlss_cons (qls_ret (qle_ix (qle_lst (qla_cons (qle_tup qla_nil) (qla_cons (qle_callTy cd_tuple rfl m_tuple boot_tuple_ (qla_cons (qle_var 3) qla_nil)) qla_nil))) (qle_call C__law_draw (hr.mono (by decide)) M__law_draw F__law_draw.kp B__law_draw rfl (qla_cons (qle_var 0) (qla_cons qle_int qla_nil))))) qlss_nil) qlss_nil) (qlss_cons (qls_if (qlt_cmp (od_eq hr.u100) (qle_var 2) qle_int) (qlss_cons (qls_ret (qle_tup (qla_cons (qle_ix (qle_var 3) (qle_call C__law_draw (hr.mono (by decide)) M__law_draw F__law_draw.kp B__law_draw rfl (qla_cons (qle_var 0) (qla_cons (qle_callB cd_len rfl m_len boot_len_ (qla_cons (qle_var 3) qla_nil)) qla_nil)))) qla_nil))) qlss_nil) qlss_nil) (qlss_cons (qls_set 4 nd (qle_call C__law_some (hr.mono (by decide)) M__law_some F__law_some.kp B__law_some rfl (qla_cons (qle_var 0) (qla_cons (qle_var 1) (qla_cons (qle_ix (qle_var 3) (qle_call C__law_draw (hr.mono (by decide)) M__law_draw F__law_draw.kp B__law_draw rfl (qla_cons (qle_var 0) (qla_cons (qle_callB cd_len rfl m_len boot_len_ (qla_cons (qle_var 3) qla_nil)) qla_nil)))) qla_nil))))) (qlss_cons (qls_ret (qle_ite (qlt_cmp (od_eq hr.u100) (qle_var 2) qle_int) (qle_call C__law_around (hr.mono (by decide)) M__law_around F__law_around.kp B__law_around rfl (qla_cons (qle_var 1) (qla_cons (qle_var 4) qla_nil))) (qle_var 4))) qlss_nil))))))) vc
theorem ok_law {a_law : Addr} {fd_law : FuncData} (F_law : Fun K "law" "law" s_law a_law fd_law) {a__law_feed : Addr} {fd__law_feed : FuncData} (F__law_feed : Fun K "_law_feed" "_law_feed" s__law_feed a__law_feed fd__law_feed) (B__law_feed : Binds K fd__law_feed p__law_feed []) (M__law_feed : mg "_law_feed" = some (.ref a__law_feed)) (C__law_feed : FnOk P w K mg base CX0 1 a__law_feed fd__law_feed p__law_feed (LSp K 1 sp__law_feed)) {a__law_draw : Addr} {fd__law_draw : FuncData} (F__law_draw : Fun K "_law_draw" "_law_draw" s__law_draw a__law_draw fd__law_draw) (B__law_draw : Binds K fd__law_draw p__law_draw []) (M__law_draw : mg "_law_draw" = some (.ref a__law_draw)) (C__law_draw : FnOk P w K mg base CX0 1 a__law_draw fd__law_draw p__law_draw (LSp K 2 sp__law_draw)) {a__law_drawn : Addr} {fd__law_drawn : FuncData} (F__law_drawn : Fun K "_law_drawn" "_law_drawn" s__law_drawn a__law_drawn fd__law_drawn) (B__law_drawn : Binds K fd__law_drawn p__law_drawn []) (M__law_drawn : mg "_law_drawn" = some (.ref a__law_drawn)) (C__law_drawn : FnOk P w K mg base CX0 4 a__law_drawn fd__law_drawn p__law_drawn (LSp K 2 sp__law_drawn)) {a__law_due : Addr} {fd__law_due : FuncData} (F__law_due : Fun K "_law_due" "_law_due" s__law_due a__law_due fd__law_due) (B__law_due : Binds K fd__law_due p__law_due []) (M__law_due : mg "_law_due" = some (.ref a__law_due)) (C__law_due : FnOk P w K mg base CX0 3 a__law_due fd__law_due p__law_due (LSp K 4 sp__law_due)) {a_signs_in : Addr} {fd_signs_in : FuncData} (F_signs_in : Fun K "signs_in" "signs_in" s_signs_in a_signs_in fd_signs_in) (B_signs_in : Binds K fd_signs_in p_signs_in []) (M_signs_in : mg "signs_in" = some (.ref a_signs_in)) (C_signs_in : FnOk P w K mg base CX0 3 a_signs_in fd_signs_in p_signs_in (LSp K 4 sp_signs_in)) (m_int : mg "int" = none) (m_repr : mg "repr" = none) (m_range : mg "range" = none)
    (vc : ∀ ds m R, ds.length = p_law.length → sp_law ds m R → b_law { nx := fun _ m => R (.dat .none) m, rt := R } (start2 N_law ds) m) : FnOk P w K mg base CX0 5 a_law fd_law p_law (LSp K 1 sp_law) :=
  qfn_body (k := 4) F_law sc_law (body := b_law) (fun cdv A outer s H E hr => have nd := (sc_law).nd; (qlss_cons (qls_set 1 nd (qle_call C__law_feed (hr.mono (by decide)) M__law_feed F__law_feed.kp B__law_feed rfl (qla_cons (qle_var 0) qla_nil))) (qlss_cons (qls_set 2 nd (qle_lst (qla_cons qle_str (qla_cons qle_str qla_nil)))) (qlss_cons (qls_set 3 nd (qle_lstC qla_nil)) (qlss_cons (qls_for PassesOwn.never rfl (qli_range rfl m_range qle_int) (qlg_name 4 nd) (qlss_cons (qls_set 5 nd (qle_tup (qla_cons (qle_ix (qle_var 2) (qle_callTy cd_int rfl m_int boot_int_ (qla_cons (qle_cmp od_gt (qle_call C__law_draw (hr.mono (by decide)) M__law_draw F__law_draw.kp B__law_draw rfl (qla_cons (qle_var 1) (qla_cons qle_int qla_nil))) qle_int) qla_nil))) (qla_cons (qle_ix (qle_var 2) (qle_callTy cd_int rfl m_int boot_int_ (qla_cons (qle_cmp od_gt (qle_call C__law_draw (hr.mono (by decide)) M__law_draw F__law_draw.kp B__law_draw rfl (qla_cons (qle_var 1) (qla_cons qle_int qla_nil))) qle_int) qla_nil))) qla_nil)))) (qlss_cons (qls_set 6 nd (qle_call C__law_drawn (hr.mono (by decide)) M__law_drawn F__law_drawn.kp B__law_drawn rfl (qla_cons (qle_var 1) (qla_cons (qle_var 5) qla_nil)))) (qlss_cons (qls_for PassesOwn.never rfl (qli_range rfl m_range (qle_bin od_add qle_int (qle_idxV (qle_var 2) (qle_ix (qle_var 5) qle_int)))) (qlg_name 7 nd) (qlss_cons (qls_for PassesOwn.never rfl (qli_range rfl m_range (qle_bin od_add qle_int (qle_idxV (qle_var 2) (qle_ix (qle_var 5) qle_int)))) (qlg_name 8 nd) (qlss_cons (qls_set 9 nd (qle_call C__law_due (hr.mono (by decide)) M__law_due F__law_due.kp B__law_due rfl (qla_cons (qle_var 5) (qla_cons (qle_var 6) (qla_cons (qle_var 7) (qla_cons (qle_var 8) qla_nil)))))) (qlss_cons (qls_expr (qle_app (qle_var 3) (qle_tup (qla_cons (qle_var 5) (qla_cons (qle_var 6) (qla_cons (qle_var 7) (qla_cons (qle_var 8) (qla_cons (qle_callB (cd_repr hr.u200 hr.gd) rfl m_repr boot_repr_ (qla_cons (qle_var 9) qla_nil)) qla_nil)))))))) (qlss_cons (qls_if (qlt_cmp (od_ne hr.u100) (qle_callB (cd_repr hr.u200 hr.gd) rfl m_repr boot_repr_ (qla_cons (qle_call C_signs_in (hr.mono (by decide)) M_signs_in F_signs_in.kp B_signs_in rfl (qla_cons (qle_var 5) (qla_cons (qle_var 6) (qla_cons (qle_var 7) (qla_cons (qle_var 8) qla_nil))))) qla_nil)) (qle_callB (cd_repr hr.u200 hr.gd) rfl m_repr boot_repr_ (qla_cons (qle_var 9) qla_nil))) (qlss_cons (qls_ret qle_bl) qlss_nil) qlss_nil) qlss_nil)))) qlss_nil)) qlss_nil)))) (qlss_cons (qls_ret (qle_cmp (od_eq hr.u100) (qle_lcB ["_law_kinds", "_law_words_here", "_law_x", "_law_y", "_law_due_here"] [none, none, none, none, none] rfl (qli_seq (qle_stepL (qle_var 3) qle_int)) (fun cl C s2 H2 pins fp => (qlg_tup rfl (qlgs_cons (qlg_name 0 nd_law_1) (qlgs_cons (qlg_name 1 nd_law_1) (qlgs_cons (qlg_name 2 nd_law_1) (qlgs_cons (qlg_name 3 nd_law_1) (qlgs_cons (qlg_name 4 nd_law_1) qlgs_nil))))))) (fun cl C s2 H2 pins fp => (qpf_one (qlt_cmp (od_ne hr.u100) (qle_callB (cd_repr hr.u200 hr.gd) rfl m_repr boot_repr_ (qla_cons (qle_call C_signs_in (hr.mono (by decide)) M_signs_in F_signs_in.kp B_signs_in rfl (qla_cons (qle_var 0) (qla_cons (qle_var 1) (qla_cons (qle_var 2) (qla_cons (qle_var 3) qla_nil))))) qla_nil)) (qle_var 4)))) (fun cl C s2 H2 pins fp => qle_int)) (qle_lst qla_nil))) qlss_nil)))))) vc
end
end K37
set_option Elab.async false
set_option linter.all false
set_option maxRecDepth 100000
set_option maxHeartbeats 4000000
namespace K37
open PySem PySem.Spec PyProof.Rows L2 DL K01
@[simp] theorem ok_pt : PyData.strOk (Str.ofString "point") = true := by decide +kernel
@[simp] theorem ok_st : PyData.strOk (Str.ofString "stretch") = true := by decide +kernel
@[simp] theorem at0 (x : PyData) (xs : List PyData) : atI (x :: xs) 0 = some x := by simp [atI, ixN]
@[simp] theorem at1 (x y : PyData) (xs : List PyData) : atI (x :: y :: xs) 1 = some y := by
  have : (1 : Int) < xs.length + 1 + 1 := by omega
  simp [atI, ixN, this]
abbrev EN (R : DK) : Ends2 := { nx := fun _ m => R (.dat .none) m, rt := R }
theorem sz {n : Nat} (h : n ≤ 1000) : n ≤ sizeLine := Nat.le_trans h (by rw [sizeLine_eq]; decide)
theorem mulL {i j : Int} (h : Bd 64 i) : IntMulOk i j := IntMulOk.of_left (intBits_le_iff.mpr h)
theorem mulR {i j : Int} (h : Bd 64 j) : IntMulOk i j := IntMulOk.of_right (intBits_le_iff.mpr h)
set_option exponentiation.threshold 3000 in
theorem bd_lit {i : Int} {n : Nat} (h : i.natAbs < 2 ^ n := by decide) : Bd n i := h
theorem at_all {xs : List PyData} {P : PyData → Prop} {r : Int} (h : ∀ p ∈ xs, P p) (h0 : 0 ≤ r) (h1 : r < (xs.length : Int)) : ∃ p, atI xs r = some p ∧ P p := by
  obtain ⟨k, rfl⟩ : ∃ k : Nat, r = k := ⟨r.toNat, by omega⟩
  have hk : k < xs.length := by omega
  exact ⟨xs[k], atI_nat (List.getElem?_eq_getElem hk), h _ (List.getElem_mem hk)⟩
theorem w4_of : ∀ z ∈ ORD, valP tb_WAYS z = some (.tuple ((w4 z).map .int)) ∧ ∃ a b c d, w4 z = [a, b, c, d] := by
  intro z hz
  unfold ORD at hz
  simp only [List.mem_cons, List.not_mem_nil, or_false] at hz
  rcases hz with rfl | rfl | rfl | rfl | rfl | rfl | rfl | rfl | rfl | rfl | rfl | rfl | rfl <;> exact ⟨rfl, _, _, _, _, rfl⟩
theorem vc_ways_by : ∀ ds m R, ds.length = p_ways_by.length → sp_ways_by ds m R → b_ways_by (EN R) (start2 N_ways_by ds) m := by
  rintro ds m R hl ⟨k, l, z, rfl, hz, h⟩
  obtain ⟨v, a, b, c, d, e⟩ := w4_of z hz
  unfold b_ways_by
  simp only [dSeq, dSet, dDGetC, dVar, start2]
  refine ⟨_, rfl, z, _, rfl, v, ?_⟩
  unfold WB at h
  rw [e] at h ⊢
  cases k <;> cases l <;> simp (decide := true) [b_ways_by_1, b_ways_by_2, b_ways_by_3, kd, PyData.eqv, PyData.eqvAll, PyData.canLay0, PyData.canLayAll0, PyData.depth, PyData.depthAll, atI, ixN, and_assoc, sz] at h ⊢
  all_goals exact h
theorem ws_ord (k l : Bool) : ∀ z ∈ WS k l, z ∈ ORD := by cases k <;> cases l <;> decide +kernel
theorem lay_ints : ∀ ns : List Int, PyData.canLayAll0 (ns.map .int) = true ∧ PyData.depthAll (ns.map .int) ≤ 1
  | [] => by simp [PyData.canLayAll0, PyData.depthAll]
  | n :: ns => by
    obtain ⟨h1, h2⟩ := lay_ints ns
    simp only [List.map_cons, PyData.canLayAll0, PyData.depthAll, PyData.canLay0, PyData.depth, h1, Bool.and_self]
    exact ⟨trivial, by omega⟩
theorem bds {i : Int} (h0 : -100000000 ≤ i) (h1 : i ≤ 100000000) : Bd 64 i := by
  unfold Bd
  have e : (2 : Nat) ^ 64 = 18446744073709551616 := by decide
  omega
theorem ints_drop {n i : Nat} (h : i < n) : (intsD 0 n).drop i = I (i : Int) :: (intsD 0 n).drop (i + 1) := by
  have hl : i < (intsD 0 n).length := by unfold intsD; simpa using h
  rw [List.drop_eq_getElem_cons hl]
  congr 1
  unfold intsD
  simp
theorem ints_end {n : Nat} : (intsD 0 n).drop n = [] := by
  rw [List.drop_eq_nil_iff]
  unfold intsD
  simp
theorem loopL_rng {g : DG} {b : DS} {E : Ends2} {n : Nat} (J : Nat → St2 → Mu → Prop) (hd : ∀ d m, J n d m → E.nx d m)
    (step : ∀ i, i < n → ∀ (k : St2 → Mu → Prop), (∀ d m, J (i + 1) d m → k d m) → ∀ d m, J i d m → g (I (i : Int)) d m fun d' m' => b { E with nx := k, ct := k, bk := E.nx } d' m') : ∀ d m, J 0 d m → loopL g b E (intsD 0 n) d m := by
  have key : ∀ (r i : Nat), r + i = n → ∀ d m, J i d m → loopL g b E ((intsD 0 n).drop i) d m := by
    intro r
    induction r with
    | zero =>
      intro i hi d m hj
      have : i = n := by omega
      subst this
      rw [ints_end]
      exact hd d m hj
    | succ r ih =>
      intro i hi d m hj
      rw [ints_drop (by omega)]
      exact step i (by omega) _ (ih (i + 1) (by omega)) d m hj
  intro d m h
  have := key n 0 (by omega) d m h
  simpa using this
theorem Kn.refl {m : Mu} : Kn m m := fun _ _ => rfl
theorem Kn.trans {m m1 m2 : Mu} (h : Kn m m1) (g : Kn m1 m2) : Kn m m2 := fun c hc => by
  have e := h c hc
  rw [g c (by rw [e]; exact hc), e]
theorem Kn.new {m m1 : Mu} {c : Addr} {x : Cel} (h : Kn m m1) (hc : m c = none) : Kn m (updM m1 c x) := fun y hy => by
  have ne : y ≠ c := by rintro rfl; rw [hc] at hy; cases hy
  rw [updM_ne ne]
  exact h y hy
theorem ws_len (k l : Bool) : 1 ≤ (WS k l).length ∧ (WS k l).length ≤ 13 := by cases k <;> cases l <;> decide
theorem cnt_le (k : Bool) : 1 ≤ cnt k ∧ cnt k ≤ 2 := by cases k <;> decide
theorem cutP_map {α β : Type} (f : α → β) (xs : List α) (lo hi : Option Int) : cutP (xs.map f) lo hi = (cutP xs lo hi).map f := by
  unfold cutP
  rw [List.length_map, List.map_take, List.map_drop]
theorem cnt_of (l : Bool) : valP tb_END_COUNTS (kd l) = some (.int (cnt l)) := by cases l <;> rfl
theorem wb_len (k l : Bool) : ∀ z ∈ WS k l, (WB k l z).length = cnt k * cnt l := by cases k <;> cases l <;> decide +kernel
theorem kd_ok (k : Bool) : PyData.strOk (kd k) = true := by cases k <;> decide +kernel
theorem ite_t {c : Bool} {a b : Prop} (e : c = true) (h : a) : if c = true then a else b := by rw [if_pos e]; exact h
theorem ite_f {c : Bool} {a b : Prop} (e : c = false) (h : b) : if c = true then a else b := by rw [if_neg (by rw [e]; decide)]; exact h
theorem vc_how_ends : ∀ ds m R, ds.length = p_how_ends.length → sp_how_ends ds m R → b_how_ends (EN R) (start2 N_how_ends ds) m := by
  rintro ds m R hl ⟨k, l, z, x, y, rfl, hz, hx, hy, h⟩
  have ck := cnt_le k
  have cl := cnt_le l
  have lz := wb_len k l z hz
  have lt : x * cnt l + y < (WB k l z).length := by
    rw [lz]
    have : (x + 1) * cnt l ≤ cnt k * cnt l := Nat.mul_le_mul_right _ hx
    rw [Nat.add_mul] at this
    omega
  refine ⟨_, rfl, _, rfl, rfl, k, l, z, rfl, ws_ord k l z hz, ?_⟩
  refine ⟨_, rfl, _, rfl, _, at1 _ _ _, kd l, .int (cnt l), rfl, cnt_of l, mulL (bds (by omega) (by omega)), _, rfl, .int (way k l x y z), ?_, h⟩
  rw [show ((x : Int) * (cnt l : Int) + (y : Int)) = ((x * cnt l + y : Nat) : Int) by simp]
  refine atI_nat ?_
  rw [List.getElem?_map, List.getElem?_eq_getElem lt]
  simp [way, lt]
theorem way3 : ∀ k l : Bool, ∀ z ∈ WS k l, ∀ i ∈ WB k l z, i ∈ ([0, 1, -1] : List Int) := by intro k l; cases k <;> cases l <;> decide +kernel
theorem way_in {k l : Bool} {x y : Nat} {z : Str} (hz : z ∈ WS k l) (hx : x < cnt k) (hy : y < cnt l) : way k l x y z ∈ ([0, 1, -1] : List Int) := by
  have lt : x * cnt l + y < (WB k l z).length := by
    rw [wb_len k l z hz]
    have : (x + 1) * cnt l ≤ cnt k * cnt l := Nat.mul_le_mul_right _ hx
    rw [Nat.add_mul] at this
    omega
  refine way3 k l z hz _ ?_
  simp [way, lt]
theorem vc_signs_in : ∀ ds m R, ds.length = p_signs_in.length → sp_signs_in ds m R → b_signs_in (EN R) (start2 N_signs_in ds) m := by
  rintro ds m R hl ⟨k, l, zs, x, y, rfl, hz, hx, hy, h⟩
  refine ⟨_, rfl, .inr ⟨_, rfl, ?_⟩⟩
  have key : ∀ (todo : List Str) (acc : List Int) (o : Option D), (∀ z ∈ todo, z ∈ WS k l) → R (.dat (.tuple ((srt3 (todo.foldl (fun acc z => ins3 acc (way k l x y z)) acc)).map .int))) m →
      loopG (gN 0) dTrue (fun d m zs Q => dCall 4 sp_how_ends (dCons (dVar 1) (dCons (dVar 0) (dCons (dVar 2) (dCons (dVar 3) dNil)))) d m fun x m1 => ∃ z, signP x z ∧ Q (ins3 zs z) m1) ((todo.map .str).map .dat) acc [o, some (.dat (kds k l)), some (I x), some (I y)] m fun zs m2 => R (.dat (.tuple ((srt3 zs).map .int))) m2 := by
    intro todo
    induction todo with
    | nil => exact fun acc o _ h => h
    | cons z todo ih =>
      intro acc o ha h
      have hz := ha z List.mem_cons_self
      refine ⟨_, rfl, _, rfl, _, rfl, _, rfl, rfl, k, l, z, x, y, rfl, hz, hx, hy, way k l x y z, ⟨rfl, way_in hz hx hy⟩, ?_⟩
      exact ih _ _ (fun w hw => ha w (List.mem_cons_of_mem _ hw)) h
  have := key zs [] none hz h
  exact this
section
variable {ns : List PyData} {i j t : Int}
theorem vp_c : valP (FD ns i j t) (.inr "cells") = some (.list ns) := rfl
theorem vp_a : valP (FD ns i j t) (.inr "at") = some (.int i) := rfl
theorem vp_l : valP (FD ns i j t) (.inr "left") = some (.int j) := rfl
theorem vp_t : valP (FD ns i j t) (.inr "turn") = some (.int t) := rfl
theorem pp_l {x : Int} : putP (FD ns i j t) (.inr "left") (.int x) = FD ns i x t := rfl
end
theorem z4 : 4 < sizeLine := Nat.lt_of_lt_of_le (by decide : 4 < 100) (sz (by decide))
theorem vc__law_feed : ∀ ds m R, ds.length = p__law_feed.length → sp__law_feed ds m R → b__law_feed (EN R) (start2 N__law_feed ds) m := by
  rintro ds m R hl ⟨ns, rfl, hn, h⟩
  simp [b__law_feed]
  intro p hp
  refine ⟨updM_same, h p _ ⟨cutP ns none (some 63), 0, 0, 0, ?_, by decide, by decide⟩⟩
  rw [updM_same, cutP_map]
  rfl
theorem low {n : Int} (h0 : 0 < n) (h1 : n ≤ 1000) : n.natAbs.log2 < 9000 := by
  have : n.natAbs < 2 ^ 10 := by omega
  exact Nat.lt_of_le_of_lt (Nat.log2_le_self _) (by omega)
theorem vc__law_draw : ∀ ds m R, ds.length = p__law_draw.length → sp__law_draw ds m R → b__law_draw (EN R) (start2 N__law_draw ds) m := by
  rintro ds m R hl ⟨a, n, L, rfl, n0, n1, hL, ⟨ns, i, j, t, hm, t0, t1⟩, h⟩
  have fin : ∀ (r : Int) m' (ns' : List Int) i' j', 0 ≤ r → r < n → m' a = some (.d (FD (ns'.map .int) i' j' (t + 1))) → (∀ c, c ≠ a → m' c = m c) → R (I r) m' := fun r m' ns' i' j' r0 r1 e k =>
    h r m' r0 r1 ⟨⟨ns', i', j', t + 1, e, by omega, by omega⟩, fun c hc _ => k c hc⟩
  have nz : n ≠ 0 := by omega
  have m0 : ∀ x : Int, 0 ≤ x.fmod n ∧ x.fmod n < n := fun x => ⟨Int.fmod_nonneg_of_pos _ n0, Int.fmod_lt_of_pos _ n0⟩
  refine ⟨_, rfl, a, .inr "turn", _, _, rfl, rfl, hm, vp_t, _, rfl, a, .inr "turn", _, _, rfl, rfl, rfl, hm, z4, ?_⟩
  obtain ⟨m1, em1⟩ : ∃ m1, m1 = updM m a (.d (FD (ns.map .int) i j (t + 1))) := ⟨_, rfl⟩
  have hm1 : m1 a = some (.d (FD (ns.map .int) i j (t + 1))) := by rw [em1, updM_same]
  have k1 : ∀ c, c ≠ a → m1 c = m c := fun c hc => by rw [em1, updM_ne hc]
  show b__law_draw_1 (EN R) [some (.cel a), some (I n), none, none, none, none] (updM m a (.d (FD (ns.map .int) i j (t + 1))))
  rw [← em1]
  refine ⟨_, rfl, a, .inr "left", _, _, rfl, rfl, hm1, vp_l, _, rfl, nz, ?_⟩
  refine ⟨_, rfl, a, .inr "left", _, _, rfl, rfl, hm1, vp_l, _, rfl, ?_⟩
  by_cases hj : 0 < j
  · refine ite_t (decide_eq_true hj) ?_
    refine ⟨_, rfl, a, .inr "left", _, _, rfl, rfl, hm1, vp_l, _, rfl, nz, low n0 n1, _, rfl, a, .inr "left", _, _, rfl, rfl, rfl, hm1, z4, _, rfl, ?_⟩
    exact fin _ _ ns i _ (m0 _).1 (m0 _).2 (by rw [updM_same, pp_l]) fun c hc => by rw [updM_ne hc]; exact k1 c hc
  · refine ite_f (decide_eq_false hj) ?_
    refine ⟨_, rfl, a, .inr "at", _, _, rfl, rfl, hm1, vp_a, ?_⟩
    refine ⟨_, rfl, _, rfl, a, .inr "at", _, _, rfl, rfl, rfl, hm1, z4, ?_⟩
    obtain ⟨m2, em2⟩ : ∃ m2, m2 = updM m1 a (.d (FD (ns.map .int) (i + 1) j (t + 1))) := ⟨_, rfl⟩
    have hm2 : m2 a = some (.d (FD (ns.map .int) (i + 1) j (t + 1))) := by rw [em2, updM_same]
    have k2 : ∀ c, c ≠ a → m2 c = m c := fun c hc => by rw [em2, updM_ne hc]; exact k1 c hc
    have rest : ∀ v : Int, b__law_draw_7 (EN R) [some (.cel a), some (I n), some (I (j.fmod n)), some (I i), some (I v), none] m2 := fun v => by
      have last : b__law_draw_8 (EN R) [some (.cel a), some (I n), some (I (j.fmod n)), some (I i), some (I v), none] m2 := by
        refine ⟨_, rfl, by decide, _, rfl, a, .inr "turn", _, _, rfl, rfl, hm2, vp_t, ?_⟩
        refine ⟨mulL bd_lit, mulR bd_lit, by decide, ?_⟩
        refine ⟨_, rfl, by decide, by decide, _, rfl, a, .inr "turn", _, _, rfl, rfl, hm2, vp_t, mulL bd_lit, mulR bd_lit, by decide, ?_⟩
        refine ⟨_, rfl, by decide, by decide, _, rfl, nz, ?_⟩
        exact fin _ m2 ns _ _ (m0 _).1 (m0 _).2 hm2 k2
      refine ⟨_, rfl, ⟨by decide, by decide, by decide⟩, _, rfl, ?_⟩
      by_cases c : (10 : Int) ^ (18 : Int).toNat ≤ v
      · refine ite_t (decide_eq_true c) ⟨_, rfl, _, rfl, a, .inr "cells", _, _, rfl, rfl, hm2, vp_c, _, rfl, ?_⟩
        by_cases d : i < (((ns.map PyData.int).length : Nat) : Int)
        · refine ite_t (decide_eq_true d) ⟨_, rfl, _, rfl, nz, low n0 n1, _, rfl, a, .inr "left", _, _, rfl, rfl, rfl, hm2, z4, _, rfl, _, rfl, nz, ?_⟩
          exact fin _ _ ns _ _ (m0 _).1 (m0 _).2 (by rw [updM_same, pp_l]) fun c hc => by rw [updM_ne hc]; exact k2 c hc
        · exact ite_f (decide_eq_false d) last
      · exact ite_f (decide_eq_false c) (ite_f rfl last)
    show b__law_draw_5 (EN R) [some (.cel a), some (I n), some (I (j.fmod n)), some (I i), none, none] (updM m1 a (.d (FD (ns.map .int) (i + 1) j (t + 1))))
    rw [← em2]
    have cl : (PyData.list (ns.map .int)).canLay0 = true := (lay_ints ns).1
    have cd : (PyData.list (ns.map .int)).depth ≤ 100 := by
      have := (lay_ints ns).2
      simp only [PyData.depth]
      omega
    refine ⟨_, rfl, a, .inr "cells", _, _, rfl, rfl, hm2, vp_c, _, rfl, Nat.zero_le _, cl, rfl, cd, _, rfl, ?_⟩
    by_cases en : ns = []
    · subst en
      exact ite_f rfl (rest 0)
    · have ne : PyData.eqv (.list (ns.map .int)) (.list []) = false := by
        cases ns with
        | nil => exact absurd rfl en
        | cons x xs => simp [PyData.eqv, PyData.eqvAll]
      have lp : 0 < (((ns.map PyData.int).length : Nat) : Int) := by
        rw [List.length_map]
        have := List.length_pos_iff.mpr en
        omega
      refine ite_t (by rw [ne]; rfl) ?_
      obtain ⟨p, ep, v, rfl⟩ := at_all (xs := ns.map PyData.int) (P := fun p => ∃ v : Int, p = .int v) (r := i.fmod ((ns.map PyData.int).length : Int)) (fun p hp => by obtain ⟨v, _, e⟩ := List.mem_map.mp hp; exact ⟨v, e.symm⟩) (Int.fmod_nonneg_of_pos _ lp) (Int.fmod_lt_of_pos _ lp)
      exact ⟨_, rfl, a, .inr "cells", _, _, rfl, rfl, hm2, vp_c, _, rfl, _, rfl, a, .inr "cells", _, _, rfl, rfl, hm2, vp_c, (by omega), _, ep, rest v⟩
theorem Fed.next {b n : Int} {m m1 m2 : Mu} {a : Addr} (h : Fed b n m m1 a) (q : Fed 1 (n + b) m1 m2 a) : Fed (b + 1) n m m2 a := by
  refine ⟨by have := q.1; rwa [Int.add_assoc] at this, fun c hc hs => ?_⟩
  have e := h.2 c hc hs
  rw [q.2 c hc (by rw [e]; exact hs), e]
theorem Fed.refl {n : Int} {m : Mu} {a : Addr} (h : Tp n m a) : Fed 0 n m m a := ⟨by simpa using h, fun _ _ _ => rfl⟩
theorem Fed.mono {b c n : Int} {m m1 : Mu} {a : Addr} (h : Fed b n m m1 a) (hb : b ≤ c) : Fed c n m m1 a := by
  obtain ⟨⟨ns, i, j, t, e, t0, t1⟩, k⟩ := h
  exact ⟨⟨ns, i, j, t, e, t0, by omega⟩, k⟩
theorem draw_use {a : Addr} {n b L : Int} {m0 m : Mu} {R : DK} (h0 : 0 < n) (hb : n ≤ 1000) (hL : L ≤ 9000000) (hbb : b ≤ 100000) (hf : Fed b L m0 m a) (h : ∀ r m', 0 ≤ r → r < n → Fed (b + 1) L m0 m' a → R (I r) m') : sp__law_draw [.cel a, I n] m R :=
  ⟨a, n, L + b, rfl, h0, hb, by omega, hf.1, fun r m' r0 r1 q => h r m' r0 r1 (hf.next q)⟩
end K37
set_option Elab.async false
set_option linter.all false
set_option maxRecDepth 100000
set_option maxHeartbeats 4000000
namespace K37
open PySem PySem.Spec PyProof.Rows L2 DL K01
theorem vc__law_order : ∀ ds m R, ds.length = p__law_order.length → sp__law_order ds m R → b__law_order (EN R) (start2 N__law_order ds) m := by
  rintro ds m R hl ⟨rfl, h⟩
  exact ⟨_, rfl, sz (n := 7) (by decide), _, rfl, _, rfl, sz (n := 6) (by decide), sz (n := 13) (by decide), h⟩
theorem kN2 (a b : Str) (ha : PyData.strOk a = true) (hb : PyData.strOk b = true) : keyN (.dat (.tuple [.str a, .str b])) = some [.str a, .str b] := by
  simp [L2.isKs, L2.isK, ha, hb, PyData.depthAll, PyData.depth]
theorem wv (k l : Bool) (x y z : D) : valG (putG (putG [([PyData.str "point", .str "point"], x)] [.str "point", .str "stretch"] y) [.str "stretch", .str "point"] z) [.str (kd k), .str (kd l)] = match k, l with
    | false, false => some x
    | false, true => some y
    | true, false => some z
    | true, true => none := by
  have n1 : ("point" : Str) ≠ "stretch" := by decide
  have n2 : ("stretch" : Str) ≠ "point" := by decide
  rw [valG_put, valG_put]
  cases k <;> cases l <;> simp [kd, n1, n2, valG]
theorem vc__law_words : ∀ ds m R, ds.length = p__law_words.length → sp__law_words ds m R → b__law_words (EN R) (start2 N__law_words ds) m := by
  rintro ds m R hl ⟨k, l, rfl, h⟩
  intro c hc
  refine ⟨_, rfl, sz (n := 2) (by decide), [.str "point", .str "point"], kN2 _ _ ok_pt ok_pt, _, rfl, sz (n := 3) (by decide), updM_same, ?_⟩
  refine ⟨_, rfl, sz (n := 5) (by decide), _, rfl, _, rfl, sz (n := 2) (by decide), c, [.str "point", .str "stretch"], _, rfl, kN2 _ _ ok_pt ok_st, updM_same, Nat.lt_of_lt_of_le (show 1 < 100 by decide) (sz (by decide)), ?_⟩
  refine ⟨_, rfl, sz (n := 5) (by decide), _, rfl, _, rfl, sz (n := 2) (by decide), c, [.str "stretch", .str "point"], _, rfl, kN2 _ _ ok_st ok_pt, updM_same, ?_, ?_⟩
  · exact Nat.lt_of_lt_of_le (Nat.lt_of_le_of_lt (length_putG _ _ _) (show 1 + 1 < 100 by decide)) (sz (by decide))
  refine ⟨_, rfl, c, rfl, ⟨_, updM_same⟩, _, rfl, [.str (kd k), .str (kd l)], kN2 _ _ (kd_ok k) (kd_ok l), rfl, rfl, _, updM_same, ?_⟩
  rw [wv]
  cases k <;> cases l <;> first | exact ⟨(fun b e => nomatch e), h _ ((((Kn.refl.new hc).new hc).new hc).new hc)⟩ | exact h _ ((((Kn.refl.new hc).new hc).new hc).new hc)
theorem at2 {a b : Int} {x : Nat} (hx : x < 2) : atI [PyData.int a, .int b] (x : Int) = some (.int (pk (a, b) x)) := by
  obtain rfl | rfl : x = 0 ∨ x = 1 := by omega
  · rfl
  · rfl
theorem st1 {E : Ends2} {a b c d : Int} {p : Addr} {x y : Nat} {m : Mu} {kvs : List (List Key × PyData)} (hx : x < 2) (hy : y < 2) (hm : m p = some (.t kvs)) (hl : kvs.length ≤ 10)
    (h : E.nx [some (.dat (.tuple [.int a, .int b])), some (.dat (.tuple [.int c, .int d])), some (.cel p), some (I x), some (I y)] (updM m p (.t (putP kvs [.inl (x : Int), .inl (y : Int)] (.int (sg (pk (a, b) x) (pk (c, d) y))))))) :
    b__law_signs_L1 E [some (.dat (.tuple [.int a, .int b])), some (.dat (.tuple [.int c, .int d])), some (.cel p), some (I x), some (I y)] m := by
  refine ⟨_, rfl, _, rfl, _, at2 hx, _, rfl, _, rfl, _, at2 hy, _, rfl, _, rfl, _, at2 hx, _, rfl, _, rfl, _, at2 hy, _, rfl, _, rfl, _, rfl, p, [.inl x, .inl y], kvs, _, rfl, rfl, rfl, hm, ?_, sz (n := 2) (by decide), ?_⟩
  · exact Nat.lt_of_lt_of_le (Nat.lt_of_le_of_lt hl (by decide)) (sz (n := 11) (by decide))
  · unfold sg at h
    simpa using h
end K37
set_option Elab.async false
set_option linter.all false
set_option maxRecDepth 100000
set_option maxHeartbeats 4000000
namespace K37
open PySem PySem.Spec PyProof.Rows L2 DL K01
theorem kn_none {m m' : Mu} {a : Addr} (k : Kn m m') (h : m' a = none) : m a = none := by
  cases e : m a with
  | none => rfl
  | some x => have := k a (by rw [e]; rfl); rw [h, e] at this; cases this
theorem vc__law_signs : ∀ ds m R, ds.length = p__law_signs.length → sp__law_signs ds m R → b__law_signs (EN R) (start2 N__law_signs ds) m := by
  rintro ds m R hl ⟨a, b, c, d, rfl, h⟩
  intro p hp
  refine ⟨2, rfl, by decide, by decide, ?_⟩
  refine ⟨2, rfl, by decide, by decide, ?_⟩
  refine st1 (x := 0) (y := 0) (kvs := []) (by decide) (by decide) updM_same (by decide) ?_
  refine st1 (x := 0) (y := 1) (by decide) (by decide) updM_same ?_ ?_
  · exact Nat.le_trans (Nat.le_of_eq rfl) (show 1 ≤ 10 by decide)
  refine ⟨2, rfl, by decide, by decide, ?_⟩
  refine st1 (x := 1) (y := 0) (by decide) (by decide) updM_same ?_ ?_
  · exact Nat.le_trans (Nat.le_of_eq rfl) (show 2 ≤ 10 by decide)
  refine st1 (x := 1) (y := 1) (by decide) (by decide) updM_same ?_ ?_
  · exact Nat.le_trans (Nat.le_of_eq rfl) (show 3 ≤ 10 by decide)
  exact ⟨_, rfl, h p _ hp (((((Kn.refl.new hp).new hp).new hp).new hp).new hp) updM_same⟩
theorem disp_c {d : St2} : ∀ (xs : List (Str × Int × Int)) {m : Mu} {Q : List (Key × PyData) → Mu → Prop}, Q (xs.map fun x => (.inr x.1, .tuple [.int x.2.1, .int x.2.2])) m → dPs (xs.map fun x => (dCon (.str x.1), dTup (dCons (dCon (.int x.2.1)) (dCons (dCon (.int x.2.2)) dNil)))) d m Q
  | [], _, _, h => h
  | x :: xs, m, Q, h => ⟨_, rfl, _, rfl, sz (n := 2) (by decide), _, rfl, disp_c xs h⟩
theorem tst_k {d : St2} {m : Mu} {Q : Bool → Mu → Prop} {k l : Bool} (k' l' : Bool) (h0 : d[0]? = some (some (.dat (kds k l)))) (h : Q (decide (k = k' ∧ l = l')) m) : dTst (dBin aEq (dVar 0) (dTup (dCons (dCon (.str (kd k'))) (dCons (dCon (.str (kd l'))) dNil)))) d m Q := by
  have e : PyData.eqv (kds k l) (kds k' l') = decide (k = k' ∧ l = l') := by
    have n1 : ("point" : Str) ≠ "stretch" := by decide
    have n2 : ("stretch" : Str) ≠ "point" := by decide
    cases k <;> cases l <;> cases k' <;> cases l' <;> simp [kd, PyData.eqv, PyData.eqvAll, n1, n2]
  refine ⟨_, h0, _, rfl, sz (n := 2) (by decide), ?_, ?_, ?_, _, rfl, ?_⟩
  · simp [PyData.canLay0, PyData.canLayAll0, kd_ok]
  · simp [PyData.canLay0, PyData.canLayAll0, kd_ok]
  · simp [PyData.depth, PyData.depthAll]
  · rw [e]; exact h
abbrev LP (k l : Bool) : List (Key × PyData) := (LAYS k l).map fun x => (.inr x.1, .tuple [.int x.2.1, .int x.2.2])
abbrev LT (k l : Bool) (x : Str × Int × Int) : PyData := .tuple [.str x.1, fdk (SF x.2.1 x.2.2 (oth l).1 (oth l).2)]
theorem lays_val (k l : Bool) : ∀ x ∈ LAYS k l, valP (LP k l) (.inr x.1) = some (.tuple [.int x.2.1, .int x.2.2]) := by
  intro x hx
  cases k <;> cases l <;> simp only [LAYS, List.mem_cons, List.not_mem_nil, or_false] at hx <;> rcases hx with rfl | rfl | rfl | rfl | rfl | rfl | rfl | rfl | rfl | rfl | rfl | rfl | rfl <;> rfl
theorem lays_len (k l : Bool) : (LAYS k l).length ≤ 13 := by cases k <;> cases l <;> decide
theorem offM_ne {m : Mu} {a b : Addr} (h : b ≠ a) : offM m a b = m b := by unfold offM; rw [if_neg h]
theorem Kn.off {m m' : Mu} {a : Addr} (k : Kn m m') (h : m a = none) : Kn m (offM m' a) := fun c hc => by
  rw [offM_ne (by rintro rfl; rw [h] at hc; cases hc)]
  exact k c hc
theorem lays_loop {k l : Bool} {q : Addr} {m0 : Mu} {Q : List PyData → Mu → Prop} (fin : ∀ m', Kn m0 m' → Q ((LAYS k l).map (LT k l)) m') : ∀ (todo done : List (Str × Int × Int)) (o : Option D) (m : Mu), done ++ todo = LAYS k l → m0 q = some (.fd (LP k l)) → Kn m0 m →
    loopC (gN 0) dTrue (dTup (dCons (dVar 0) (dCons (dFrzD (dCall 2 sp__law_signs (dCons (dDGetF (dVar 2) (dVar 0)) (dCons (dVar 1) dNil)))) dNil))) (todo.map fun x => .dat (.str x.1)) (done.map (LT k l)) [o, some (.dat (.tuple [.int (oth l).1, .int (oth l).2])), some (.cel q)] m Q
  | [], done, o, m, e, hq, kn => by
    rw [List.append_nil] at e
    subst e
    exact fin m kn
  | x :: todo, done, o, m, e, hq, kn => by
    have hx : x ∈ LAYS k l := by rw [← e]; simp
    have ld : done.length ≤ 13 := by
      have := lays_len k l
      rw [← e, List.length_append] at this
      omega
    refine ⟨_, rfl, _, rfl, _, rfl, q, .inr x.1, _, _, rfl, rfl, (by rw [kn q (by rw [hq]; rfl), hq]), lays_val k l x hx, _, rfl, rfl, _, _, _, _, rfl, fun p m' hp k2 hm => ?_⟩
    refine ⟨p, _, _, rfl, hp, hm, rfl, _, rfl, sz (n := 2) (by decide), _, rfl, ?_, ?_⟩
    · rw [List.length_map]
      exact Nat.lt_of_lt_of_le (by omega : done.length < 100) (sz (by decide))
    · have := lays_loop fin todo (done ++ [x]) (some (.dat (.str x.1))) (offM m' p) (by rw [← e]; simp) hq ((kn.trans k2).off (kn_none kn hp))
      rw [List.map_append] at this
      exact this
theorem ly_puts (k l : Bool) : putsP [] (LY k l) = LY k l := by cases k <;> cases l <;> rfl
theorem lays7 {k l : Bool} {q : Addr} {m0 m : Mu} {R : DK} (kn : Kn m0 m) (hq : m0 q = none) (hm : m q = some (.d (LP k l))) (h : ∀ (p : Addr) m', m0 p = none → Kn m0 m' → m' p = some (.d (LY k l)) → R (.cel p) m') :
    b__law_lays_7 (EN R) [some (.dat (kds k l)), some (.dat (.tuple [.int (oth l).1, .int (oth l).2])), some (.cel q)] m := by
  refine ⟨_, rfl, q, LP k l, rfl, .inl ⟨hm, ?_⟩⟩
  have e : ((LP k l).map fun kv => D.dat (keyPy kv.1)) = (LAYS k l).map fun x => .dat (.str x.1) := by rw [List.map_map]; rfl
  rw [e]
  refine lays_loop (k := k) (l := l) (q := q) (m0 := updM m q (.fd (LP k l))) (fun m' k2 => ?_) (LAYS k l) [] none _ rfl updM_same Kn.refl
  refine ⟨LY k l, ?_, ?_, fun p hp => ?_⟩
  · unfold LY
    rw [List.map_map]
    rfl
  · unfold LY
    rw [List.length_map]
    exact sz (Nat.le_trans (lays_len k l) (by decide))
  · have k3 : Kn m0 m' := fun c hc => by
      have ne : c ≠ q := by rintro rfl; rw [hq] at hc; cases hc
      have e1 := kn c hc
      have e2 := k2 c (by rw [updM_ne ne, e1]; exact hc)
      rw [e2, updM_ne ne, e1]
    have p0 := kn_none k3 hp
    rw [ly_puts]
    exact h p _ p0 (k3.new p0) updM_same
end K37
set_option Elab.async false
set_option linter.all false
set_option maxRecDepth 100000
set_option maxHeartbeats 4000000
namespace K37
open PySem PySem.Spec PyProof.Rows L2 DL K01
abbrev LO (l : Bool) : PyData := .tuple [.int (oth l).1, .int (oth l).2]
theorem upd2 {m : Mu} {p b : Addr} {x y z : Cel} (h : p ≠ b) : updM (updM (updM m p x) b y) b z p = some x := by rw [updM_ne h, updM_ne h, updM_same]
theorem lays4 {k l : Bool} {q : Addr} {m0 m : Mu} {R : DK} (kn : Kn m0 m) (hq : m0 q = none) (hm : m q = some (.d (LP true true))) (h : ∀ (p : Addr) m', m0 p = none → Kn m0 m' → m' p = some (.d (LY k l)) → R (.cel p) m') :
    b__law_lays_4 (EN R) [some (.dat (kds k l)), some (.dat (LO l)), some (.cel q)] m := by
  refine tst_k false true rfl ?_
  have go6 : ∀ (q : Addr) (m : Mu), Kn m0 m → m0 q = none → m q = some (.d (LP k l)) → ¬ (k = false ∧ l = false) → b__law_lays_6 (EN R) [some (.dat (kds k l)), some (.dat (LO l)), some (.cel q)] m := fun q m kn hq hm c => by
    refine tst_k false false rfl ?_
    exact ite_f (decide_eq_false c) (lays7 kn hq hm h)
  by_cases c1 : k = false ∧ l = true
  · obtain ⟨rfl, rfl⟩ := c1
    refine ite_t rfl fun p hp => disp_c (LAYS false true) ⟨updM_same, by decide, ?_⟩
    refine tst_k true false rfl (ite_f rfl (go6 p _ ?_ (kn_none kn hp) updM_same (by simp)))
    exact (kn.new (kn_none kn hp)).new (kn_none kn hp)
  · refine ite_f (decide_eq_false c1) ?_
    refine tst_k true false rfl ?_
    by_cases c2 : k = true ∧ l = false
    · obtain ⟨rfl, rfl⟩ := c2
      refine ite_t rfl fun p hp => disp_c (LAYS true false) ⟨updM_same, by decide, ?_⟩
      exact go6 p _ ((kn.new (kn_none kn hp)).new (kn_none kn hp)) (kn_none kn hp) updM_same (by simp)
    · refine ite_f (decide_eq_false c2) ?_
      refine tst_k false false rfl ?_
      by_cases c3 : k = false ∧ l = false
      · obtain ⟨rfl, rfl⟩ := c3
        refine ite_t rfl fun p hp => disp_c (LAYS false false) ⟨updM_same, by decide, ?_⟩
        exact lays7 ((kn.new (kn_none kn hp)).new (kn_none kn hp)) (kn_none kn hp) updM_same h
      · have : k = true ∧ l = true := by cases k <;> cases l <;> simp_all
        obtain ⟨rfl, rfl⟩ := this
        exact ite_f (decide_eq_false c3) (lays7 kn hq hm h)
theorem vc__law_lays : ∀ ds m R, ds.length = p__law_lays.length → sp__law_lays ds m R → b__law_lays (EN R) (start2 N__law_lays ds) m := by
  rintro ds m R hl ⟨k, l, rfl, h⟩
  have rest : b__law_lays_1 (EN R) [some (.dat (kds k l)), some (.dat (LO l)), none] m := by
    intro p hp
    refine disp_c ((LAYS true true).take 6) ⟨updM_same, by decide, ?_⟩
    refine ⟨_, rfl, p, rfl, ⟨_, updM_same⟩, fun b hb => disp_c (((LAYS true true).drop 6).take 5) ⟨updM_same, by decide, ?_⟩⟩
    have pb : p ≠ b := by rintro rfl; rw [updM_same] at hb; cases hb
    refine ⟨_, _, b, rfl, pb, upd2 pb, updM_same, sz (n := 11) (by decide), ?_⟩
    refine ⟨_, rfl, p, rfl, ⟨_, updM_same⟩, fun e he => disp_c ((LAYS true true).drop 11) ⟨updM_same, by decide, ?_⟩⟩
    have pe : p ≠ e := by rintro rfl; rw [updM_same] at he; cases he
    refine ⟨_, _, e, rfl, pe, upd2 pe, updM_same, sz (n := 13) (by decide), ?_⟩
    have b0 : m b = none := by
      rw [updM_ne pb.symm, updM_ne pb.symm] at hb
      exact hb
    have e0 : m e = none := by
      rw [updM_ne pe.symm] at he
      by_cases eb : e = b
      · rw [eb]; exact b0
      · rw [updM_ne eb, updM_ne eb, updM_ne pe.symm, updM_ne pe.symm] at he
        exact he
    refine lays4 (m0 := m) (q := p) ?_ hp updM_same h
    exact (((((((Kn.refl.new hp).new hp).new b0).new b0).new hp).new e0).new e0).new hp
  refine ⟨_, rfl, _, at1 _ _ _, _, rfl, ?_⟩
  cases l with
  | false => exact ite_f rfl ⟨_, rfl, sz (n := 2) (by decide), rest⟩
  | true => exact ite_t rfl ⟨_, rfl, sz (n := 2) (by decide), rest⟩
end K37
set_option Elab.async false
set_option linter.all false
set_option maxRecDepth 100000
set_option maxHeartbeats 4000000
namespace K37
open PySem PySem.Spec PyProof.Rows L2 DL K01
theorem ly_f (k l : Bool) : (LY k l).map (fun kv => (keyPy kv.1, kv.2)) = LF k l := by
  unfold LY LF
  rw [List.map_map]
  rfl
theorem cel_ly (k l : Bool) : celK (.d (LY k l)) = some (LF k l) := by simp only [celK]; rw [ly_f]
abbrev SZ (k l : Bool) (z : Str) : List (PyData × PyData) := SF (layZ k l z).1 (layZ k l z).2 (oth l).1 (oth l).2
theorem lf_val (k l : Bool) : ∀ z ∈ WS k l, valF (LF k l) (.str z) = some (fdk (SZ k l z)) := by
  intro z hz
  cases k <;> cases l <;> simp only [WS, ORD, List.mem_cons, List.not_mem_nil, or_false] at hz <;> rcases hz with rfl | rfl | rfl | rfl | rfl | rfl | rfl | rfl | rfl | rfl | rfl | rfl | rfl <;> rfl
theorem sf_val {a b c d : Int} {x y : Nat} (hx : x < 2) (hy : y < 2) : valF (SF a b c d) (.tuple [.int x, .int y]) = some (.int (sg (pk (a, b) x) (pk (c, d) y))) := by
  obtain rfl | rfl : x = 0 ∨ x = 1 := by omega
  · obtain rfl | rfl : y = 0 ∨ y = 1 := by omega
    · rfl
    · rfl
  · obtain rfl | rfl : y = 0 ∨ y = 1 := by omega
    · rfl
    · rfl
theorem sz_val {k l : Bool} {z : Str} {x y : Nat} (hx : x < 2) (hy : y < 2) : valF (SZ k l z) (.tuple [.int x, .int y]) = some (.int (LW k l x y z)) := sf_val hx hy
abbrev PP (x y : Nat) : PyData := .tuple [.int x, .int y]
theorem row_loop {k l : Bool} {x y : Nat} (hx : x < 2) (hy : y < 2) {m : Mu} {Q : List PyData → Mu → Prop} : ∀ (todo done : List Str) (o : Option D), (∀ z ∈ todo, z ∈ WS k l) → done.length + todo.length ≤ 13 → Q (((done ++ todo).map (LW k l x y)).map .int) m →
    loopC (gN 0) dTrue (dFGet (dFGet (dVar 1) (dVar 0)) (dVar 2)) ((todo.map .str).map .dat) ((done.map (LW k l x y)).map .int) [o, some (.dat (fdk (LF k l))), some (.dat (PP x y))] m Q
  | [], done, o, _, _, h => by rw [List.append_nil] at h; exact h
  | z :: todo, done, o, hz, hl, h => by
    have hl : done.length + (todo.length + 1) ≤ 13 := hl
    refine ⟨_, rfl, _, rfl, _, _, _, rfl, rfl, lf_val k l z (hz z List.mem_cons_self), _, rfl, _, _, _, rfl, rfl, sz_val hx hy, _, rfl, ?_, ?_⟩
    · rw [List.length_map, List.length_map]
      exact Nat.lt_of_lt_of_le (by omega : done.length < 100) (sz (by decide))
    · have := row_loop hx hy (m := m) (Q := Q) todo (done ++ [z]) (some (.dat (.str z))) (fun w hw => hz w (List.mem_cons_of_mem _ hw)) (by simp; omega) (by simpa using h)
      rw [List.map_append, List.map_append] at this
      exact this
theorem May.mem {k l : Bool} {zs : List Str} (h : May k l zs) : ∀ z ∈ zs, z ∈ WS k l := fun z hz => h.subset hz
theorem May.len {k l : Bool} {zs : List Str} (h : May k l zs) : zs.length ≤ 13 := Nat.le_trans h.length_le (ws_len k l).2
abbrev AS (k l : Bool) (zs : List Str) (c : Addr) (z : Str) (g : Bool) (o6 o7 : Option D) : St2 := [some (.dat (kds k l)), some (.dat (TS zs)), some (.dat (fdk (LF k l))), some (.cel c), some (.dat (.str z)), some (.dat (.bool g)), o6, o7]
theorem min_ok {zs : List Str} {f : Str → Int} {v M : Int} (h1 : M ∈ zs.map f) (h2 : ∀ a ∈ zs.map f, M ≤ a) : decide (M ≤ v) = zs.any fun u => decide (f u ≤ v) := by
  obtain ⟨u, hu, rfl⟩ := List.mem_map.mp h1
  rw [Bool.eq_iff_iff, List.any_eq_true]
  constructor
  · intro q; exact ⟨u, hu, by simpa using q⟩
  · rintro ⟨w, hw, q⟩
    have := h2 (f w) (List.mem_map_of_mem hw)
    simp at q ⊢
    omega
theorem max_ok {zs : List Str} {f : Str → Int} {v M : Int} (h1 : M ∈ zs.map f) (h2 : ∀ a ∈ zs.map f, a ≤ M) : decide (v ≤ M) = zs.any fun u => decide (v ≤ f u) := by
  obtain ⟨u, hu, rfl⟩ := List.mem_map.mp h1
  rw [Bool.eq_iff_iff, List.any_eq_true]
  constructor
  · intro q; exact ⟨u, hu, by simpa using q⟩
  · rintro ⟨w, hw, q⟩
    have := h2 (f w) (List.mem_map_of_mem hw)
    simp at q ⊢
    omega
theorem ar1 {k l : Bool} {zs : List Str} {c : Addr} {z : Str} {g : Bool} {x y : Nat} {o7 : Option D} {m : Mu} {E : Ends2} (hx : x < 2) (hy : y < 2) (hz : May k l zs) (hzw : z ∈ WS k l) (hg : g = true → zs ≠ [])
    (h : ∀ o7, E.nx (AS k l zs c z (g && okw k l zs z x y) (some (.dat (PP x y))) o7) m) : b__law_around_L1 E (AS k l zs c z g (some (.dat (PP x y))) o7) m := by
  refine ⟨_, rfl, .inr ⟨_, rfl, ?_⟩⟩
  refine row_loop hx hy zs [] none hz.mem (by have := hz.len; simp; omega) ?_
  rw [List.nil_append]
  refine ⟨_, rfl, _, rfl, ?_⟩
  cases g with
  | false => exact ite_f rfl (h _)
  | true =>
    refine ite_t rfl ⟨_, rfl, _, rfl, by simpa using hg rfl, fun M M1 M2 => ?_⟩
    refine ⟨_, rfl, _, rfl, _, _, _, rfl, rfl, lf_val k l z hzw, _, rfl, _, _, _, rfl, rfl, sz_val hx hy, _, rfl, ?_⟩
    have e1 := min_ok (v := LW k l x y z) M1 M2
    unfold okw at h
    rw [e1]
    by_cases c1 : (zs.any fun u => decide (LW k l x y u ≤ LW k l x y z)) = true
    · rw [c1] at h ⊢
      refine ite_t rfl ⟨_, rfl, _, rfl, by simpa using hg rfl, fun M' M3 M4 => ?_⟩
      have e2 := max_ok (v := LW k l x y z) M3 M4
      show E.nx _ _
      have h' := h (some (.dat (.list ((zs.map (LW k l x y)).map .int))))
      rw [Bool.true_and, Bool.true_and, ← e2] at h'
      exact h'
    · rw [Bool.not_eq_true] at c1
      rw [c1] at h ⊢
      refine ite_f rfl ?_
      exact h _
theorem ar0 {k l : Bool} {zs : List Str} {c : Addr} {z : Str} {o5 o6 o7 : Option D} {m : Mu} {E : Ends2} {P : List Str} (hz : May k l zs) (hzw : z ∈ WS k l) (hm : m c = some (.l (P.map .str))) (hP : P.length ≤ 13)
    (h : ∀ m' g o6 o7, m' c = some (.l ((if (!zs.isEmpty && okw k l zs z 0 0 && okw k l zs z 0 1 && okw k l zs z 1 0 && okw k l zs z 1 1) = true then P ++ [z] else P).map .str)) → (∀ b, b ≠ c → m' b = m b) → E.nx (AS k l zs c z g o6 o7) m') :
    b__law_around_L0 E [some (.dat (kds k l)), some (.dat (TS zs)), some (.dat (fdk (LF k l))), some (.cel c), some (.dat (.str z)), o5, o6, o7] m := by
  refine ⟨_, rfl, ?_⟩
  have g0 : decide ((((zs.map PyData.str).length : Nat) : Int) > 0) = !zs.isEmpty := by cases zs <;> simp
  show b__law_around_L0_1 E [some (.dat (kds k l)), some (.dat (TS zs)), some (.dat (fdk (LF k l))), some (.cel c), some (.dat (.str z)), some (.dat (.bool (decide ((((zs.map PyData.str).length : Nat) : Int) > 0)))), o6, o7] m
  rw [g0]
  have hne : ∀ g : Bool, (!zs.isEmpty && g) = true → zs ≠ [] := fun g q => by cases zs <;> simp_all
  refine ⟨_, rfl, _, rfl, _, _, _, rfl, rfl, lf_val k l z hzw, _, rfl, ?_⟩
  refine ar1 (x := 0) (y := 0) (by decide) (by decide) hz hzw (fun q => hne true (by simpa using q)) fun o => ?_
  refine ar1 (x := 0) (y := 1) (by decide) (by decide) hz hzw (fun q => hne _ q) fun o => ?_
  refine ar1 (x := 1) (y := 0) (by decide) (by decide) hz hzw (fun q => hne _ (by rw [Bool.and_assoc] at q; exact q)) fun o => ?_
  refine ar1 (x := 1) (y := 1) (by decide) (by decide) hz hzw (fun q => hne _ (by rw [Bool.and_assoc, Bool.and_assoc] at q; exact q)) fun o => ?_
  refine ⟨_, rfl, _, rfl, ?_⟩
  by_cases t : (!zs.isEmpty && okw k l zs z 0 0 && okw k l zs z 0 1 && okw k l zs z 1 0 && okw k l zs z 1 1) = true
  · refine ite_t t ⟨_, rfl, c, rfl, ⟨_, hm⟩, _, rfl, _, _, rfl, hm, ?_, ?_⟩
    · rw [List.length_map]
      exact Nat.lt_of_lt_of_le (by omega : P.length < 100) (sz (by decide))
    · refine h _ _ _ _ ?_ fun b hb => updM_ne hb
      rw [updM_same, if_pos t]
      simp
  · rw [Bool.not_eq_true] at t
    refine ite_f t (h m _ _ _ ?_ fun b hb => rfl)
    rw [t]
    exact hm
theorem ar_loop {k l : Bool} {zs : List Str} {c : Addr} {m0 : Mu} {E : Ends2} (hz : May k l zs) (c0 : m0 c = none) (fin : ∀ o4 o5 o6 o7 m, Kn m0 m → m c = some (.l ((AR k l zs).map .str)) → E.nx [some (.dat (kds k l)), some (.dat (TS zs)), some (.dat (fdk (LF k l))), some (.cel c), o4, o5, o6, o7] m) :
    ∀ (todo done : List Str) (o4 o5 o6 o7 : Option D) (m : Mu), done ++ todo = WS k l → Kn m0 m → m c = some (.l ((done.filter fun z => !zs.isEmpty && okw k l zs z 0 0 && okw k l zs z 0 1 && okw k l zs z 1 0 && okw k l zs z 1 1).map .str)) →
      loopL (gN 4) b__law_around_L0 E ((todo.map .str).map .dat) [some (.dat (kds k l)), some (.dat (TS zs)), some (.dat (fdk (LF k l))), some (.cel c), o4, o5, o6, o7] m
  | [], done, o4, o5, o6, o7, m, e, kn, hm => by
    rw [List.append_nil] at e
    subst e
    exact fin _ _ _ _ m kn hm
  | z :: todo, done, o4, o5, o6, o7, m, e, kn, hm => by
    have hzw : z ∈ WS k l := by rw [← e]; simp
    have dl : done.length ≤ 13 := by
      have := (ws_len k l).2
      rw [← e, List.length_append] at this
      omega
    refine ar0 hz hzw hm (Nat.le_trans (List.length_filter_le _ _) dl) fun m' g o6 o7 hm' k' => ?_
    refine ar_loop hz c0 fin todo (done ++ [z]) _ _ _ _ m' (by rw [← e]; simp) ?_ ?_
    · intro b hb
      rw [k' b (by rintro rfl; rw [c0] at hb; cases hb)]
      exact kn b hb
    · rw [hm', List.filter_append, List.filter_cons, List.filter_nil]
      by_cases t : (!zs.isEmpty && okw k l zs z 0 0 && okw k l zs z 0 1 && okw k l zs z 1 0 && okw k l zs z 1 1) = true
      · rw [if_pos t, if_pos t]
      · rw [if_neg t, if_neg t, List.append_nil]
theorem vc__law_around : ∀ ds m R, ds.length = p__law_around.length → sp__law_around ds m R → b__law_around (EN R) (start2 N__law_around ds) m := by
  rintro ds m R hl ⟨k, l, zs, rfl, hz, h⟩
  refine ⟨_, rfl, rfl, k, l, rfl, fun p m1 hp k1 hm1 => ⟨p, _, LF k l, rfl, hp, hm1, cel_ly k l, ?_⟩⟩
  refine ⟨[], rfl, Nat.zero_le _, fun c hc => ?_⟩
  have kq : Kn m (offM m1 p) := k1.off hp
  have c0 := kn_none kq hc
  refine ⟨_, rfl, rfl, k, l, rfl, fun m2 k2 => .inl ⟨_, rfl, ?_⟩⟩
  refine ar_loop hz c0 ?_ (WS k l) [] none none none none m2 rfl ((kq.new c0).trans k2) ?_
  · intro o4 o5 o6 o7 m3 k3 hm3
    exact ⟨_, rfl, _, hm3, h m3 k3⟩
  · rw [k2 c (by rw [updM_same]; rfl), updM_same]
    rfl
end K37
set_option Elab.async false
set_option linter.all false
set_option maxRecDepth 100000
set_option maxHeartbeats 4000000
namespace K37
open PySem PySem.Spec PyProof.Rows L2 DL K01
theorem Tp.kn {n : Int} {m m' : Mu} {a : Addr} (h : Tp n m a) (k : Kn m m') : Tp n m' a := by
  obtain ⟨ns, i, j, t, e, r⟩ := h
  exact ⟨ns, i, j, t, by rw [k a (by rw [e]; rfl), e], r⟩
theorem Fed.kn {b n : Int} {m0 m m' : Mu} {a : Addr} (h : Fed b n m0 m a) (k : Kn m m') : Fed b n m0 m' a := ⟨h.1.kn k, fun c hc hs => by
  have e := h.2 c hc hs
  rw [k c (by rw [e]; exact hs), e]⟩
theorem Fed.next2 {b c n : Int} {m m1 m2 : Mu} {a : Addr} (h : Fed b n m m1 a) (q : Fed c (n + b) m1 m2 a) : Fed (b + c) n m m2 a := by
  refine ⟨by have := q.1; rwa [Int.add_assoc] at this, fun x hx hs => ?_⟩
  have e := h.2 x hx hs
  rw [q.2 x hx (by rw [e]; exact hs), e]
theorem dep_i {i : Int} : (PyData.int i).depth ≤ 100 := by simp [PyData.depth]
theorem eqv_i {i j : Int} : PyData.eqv (.int i) (.int j) = decide (i = j) := by simp [PyData.eqv]; rfl
theorem some_loop {a : Addr} {k l : Bool} {w : Str} {r L : Int} {m0 : Mu} {Q : List PyData → Mu → Prop} (r0 : 0 ≤ r) (r1 : r < 3) (hL : L ≤ 9000000) (fin : ∀ (sel : List Str) m, sel.Sublist (WS k l) → w ∈ sel → Fed 14 L m0 m a → Q (sel.map .str) m) (hw : w ∈ WS k l) :
    ∀ (todo done sel : List Str) (o : Option D) (m : Mu), done ++ todo = WS k l → sel.Sublist done → (w ∈ done → w ∈ sel) → Fed (1 + done.length) L m0 m a →
      loopC (gN 0) (dOrT (dTst (dBin aEq (dVar 0) (dVar 2))) (dTst (dBin aEq (dCall 2 sp__law_draw (dCons (dVar 1) (dCons (dBin aAdd (dCon (.int 1)) (dVar 3)) dNil))) (dCon (.int 0))))) (dVar 0) ((todo.map .str).map .dat) (sel.map .str) [o, some (.cel a), some (.dat (.str w)), some (I (1 + r))] m Q
  | [], done, sel, o, m, e, hs, hws, hf => by
    rw [List.append_nil] at e
    subst e
    have := (ws_len k l).2
    exact fin sel m hs (hws hw) (hf.mono (by omega))
  | z :: todo, done, sel, o, m, e, hs, hws, hf => by
    have dl : done.length < 13 := by
      have := (ws_len k l).2
      rw [← e, List.length_append, List.length_cons] at this
      omega
    have sl : sel.length < 100 := Nat.lt_of_le_of_lt hs.length_le (by omega)
    have e2 : (done ++ [z]) ++ todo = WS k l := by rw [← e]; simp
    have add : ∀ m, Fed (1 + (done ++ [z]).length) L m0 m a → ∃ p, D.dat (.str z) = .dat p ∧ (sel.map PyData.str).length < sizeLine ∧ loopC (gN 0) (dOrT (dTst (dBin aEq (dVar 0) (dVar 2))) (dTst (dBin aEq (dCall 2 sp__law_draw (dCons (dVar 1) (dCons (dBin aAdd (dCon (.int 1)) (dVar 3)) dNil))) (dCon (.int 0))))) (dVar 0) ((todo.map .str).map .dat) (sel.map .str ++ [p]) [some (.dat (.str z)), some (.cel a), some (.dat (.str w)), some (I (1 + r))] m Q := fun m hf2 => by
      refine ⟨_, rfl, by rw [List.length_map]; exact Nat.lt_of_lt_of_le sl (sz (by decide)), ?_⟩
      have := some_loop r0 r1 hL fin hw todo (done ++ [z]) (sel ++ [z]) (some (.dat (.str z))) m e2 (hs.append (List.Sublist.refl _)) (fun q => by
        rcases List.mem_append.mp q with q | q
        · exact List.mem_append_left _ (hws q)
        · exact List.mem_append_right _ q) hf2
      rw [List.map_append] at this
      exact this
    refine ⟨_, rfl, _, rfl, _, rfl, ?_⟩
    by_cases c : z = w
    · refine ite_t (decide_eq_true c) (ite_t rfl ⟨_, rfl, add m (hf.mono (by simp; omega))⟩)
    · refine ite_f (decide_eq_false c) ⟨_, rfl, _, rfl, rfl, draw_use (n := 1 + (1 + r)) (by omega) (by omega) hL (by omega) hf fun s m2 s0 s1 f2 => ?_⟩
      have f3 : Fed (1 + (done ++ [z]).length) L m0 m2 a := f2.mono (by simp; omega)
      refine ⟨rfl, rfl, dep_i, _, rfl, ?_⟩
      rw [eqv_i]
      by_cases cs : s = 0
      · exact ite_t (decide_eq_true cs) ⟨_, rfl, add m2 f3⟩
      · refine ite_f (decide_eq_false cs) ?_
        refine some_loop r0 r1 hL fin hw todo (done ++ [z]) sel _ m2 e2 (hs.trans (List.sublist_append_left _ _)) (fun q => ?_) f3
        rcases List.mem_append.mp q with q | q
        · exact hws q
        · exact absurd (List.mem_singleton.mp q).symm c
theorem vc__law_some : ∀ ds m R, ds.length = p__law_some.length → sp__law_some ds m R → b__law_some (EN R) (start2 N__law_some ds) m := by
  rintro ds m R hl ⟨a, k, l, w, L, rfl, hw, hL, ht, h⟩
  refine ⟨_, rfl, rfl, draw_use (n := 3) (by decide) (by decide) hL (by decide) (Fed.refl ht) fun r m1 r0 r1 f1 => ?_⟩
  refine ⟨_, rfl, rfl, k, l, rfl, fun m2 k2 => .inl ⟨_, rfl, ?_⟩⟩
  refine some_loop (w := w) r0 r1 hL (fun sel m3 hs hws f3 => ?_) hw (WS k l) [] [] none m2 rfl (List.Sublist.refl _) (fun q => nomatch q) ((f1.kn k2).mono (by decide))
  exact ⟨_, rfl, h sel m3 hs hws f3⟩
theorem lw3 {k l : Bool} {x y : Nat} {z : Str} : LW k l x y z ∈ ([0, 1, -1] : List Int) := by
  unfold LW sg
  split <;> split <;> simp <;> omega
theorem lw_way : ∀ k l : Bool, ∀ z ∈ WS k l, ∀ x ∈ List.range (cnt k), ∀ y ∈ List.range (cnt l), LW k l x y z = way k l x y z := by
  intro k l; cases k <;> cases l <;> decide +kernel
theorem fold_cong {f g : Str → Int} : ∀ (zs : List Str) (acc : List Int), (∀ z ∈ zs, f z = g z) → (zs.map f).foldl ins3 acc = zs.foldl (fun acc z => ins3 acc (g z)) acc
  | [], _, _ => rfl
  | z :: zs, acc, h => by
    rw [List.map_cons, List.foldl_cons, List.foldl_cons, h z List.mem_cons_self]
    exact fold_cong zs _ fun w hw => h w (List.mem_cons_of_mem _ hw)
theorem due_eq {k l : Bool} {zs : List Str} {x y : Nat} (hz : May k l zs) (hx : x < cnt k) (hy : y < cnt l) : srt3 (setI (zs.map (LW k l x y))) = sgs k l zs x y := by
  unfold setI sgs
  rw [fold_cong zs [] fun z q => lw_way k l z (hz.mem z q) x (List.mem_range.mpr hx) y (List.mem_range.mpr hy)]
theorem due_loop {k l : Bool} {x y : Nat} (hx : x < 2) (hy : y < 2) {m : Mu} {Q : List PyData → Mu → Prop} : ∀ (todo done : List Str) (o : Option D), (∀ z ∈ todo, z ∈ WS k l) → done.length + todo.length ≤ 13 → Q (((done ++ todo).map (LW k l x y)).map .int) m →
    loopC (gN 0) dTrue (dFGet (dFGet (dVar 3) (dVar 0)) (dTup (dCons (dVar 1) (dCons (dVar 2) dNil)))) ((todo.map .str).map .dat) ((done.map (LW k l x y)).map .int) [o, some (I x), some (I y), some (.dat (fdk (LF k l)))] m Q
  | [], done, o, _, _, h => by rw [List.append_nil] at h; exact h
  | z :: todo, done, o, hz, hl, h => by
    have hl : done.length + (todo.length + 1) ≤ 13 := hl
    refine ⟨_, rfl, _, rfl, _, _, _, rfl, rfl, lf_val k l z (hz z List.mem_cons_self), _, rfl, _, rfl, _, rfl, sz (n := 2) (by decide), _, _, _, rfl, rfl, sz_val hx hy, _, rfl, ?_, ?_⟩
    · rw [List.length_map, List.length_map]
      exact Nat.lt_of_lt_of_le (by omega : done.length < 100) (sz (by decide))
    · have := due_loop hx hy (m := m) (Q := Q) todo (done ++ [z]) (some (.dat (.str z))) (fun w hw => hz w (List.mem_cons_of_mem _ hw)) (by simp; omega) (by simpa using h)
      rw [List.map_append, List.map_append] at this
      exact this
theorem vc__law_due : ∀ ds m R, ds.length = p__law_due.length → sp__law_due ds m R → b__law_due (EN R) (start2 N__law_due ds) m := by
  rintro ds m R hl ⟨k, l, zs, x, y, rfl, hz, hx, hy, h⟩
  have hx2 : x < 2 := Nat.lt_of_lt_of_le hx (cnt_le k).2
  have hy2 : y < 2 := Nat.lt_of_lt_of_le hy (cnt_le l).2
  refine ⟨_, rfl, rfl, k, l, rfl, fun p m1 hp k1 hm1 => ⟨p, _, LF k l, rfl, hp, hm1, cel_ly k l, ?_⟩⟩
  refine ⟨_, rfl, .inr ⟨_, rfl, ?_⟩⟩
  refine due_loop hx2 hy2 zs [] none hz.mem (by have := hz.len; simp; omega) ?_
  rw [List.nil_append]
  refine ⟨_, rfl, fun z q => ?_, ?_⟩
  · obtain ⟨u, _, rfl⟩ := List.mem_map.mp q
    exact lw3
  · rw [due_eq hz hx hy]
    exact h _ (k1.off hp)
theorem word_at {k l : Bool} {r : Int} (h0 : 0 ≤ r) (h1 : r < (((WS k l).map PyData.str).length : Int)) : ∃ w ∈ WS k l, atI ((WS k l).map PyData.str) r = some (.str w) := by
  obtain ⟨p, e, w, hw, rfl⟩ := at_all (xs := (WS k l).map PyData.str) (P := fun p => ∃ w ∈ WS k l, p = .str w) (fun p hp => by obtain ⟨w, hw, q⟩ := List.mem_map.mp hp; exact ⟨w, hw, q.symm⟩) h0 h1
  exact ⟨w, hw, e⟩
theorem ar_may {k l : Bool} {zs : List Str} : May k l (AR k l zs) := List.filter_sublist
theorem vc__law_drawn : ∀ ds m R, ds.length = p__law_drawn.length → sp__law_drawn ds m R → b__law_drawn (EN R) (start2 N__law_drawn ds) m := by
  rintro ds m R hl ⟨a, k, l, L, rfl, hL, ht, h⟩
  obtain ⟨w1, w2⟩ := ws_len k l
  have lw : (((WS k l).map PyData.str).length : Int) = ((WS k l).length : Int) := by rw [List.length_map]
  refine ⟨_, rfl, rfl, draw_use (n := 5) (by decide) (by decide) (by omega) (by decide) (Fed.refl ht) fun way m1 v0 v1 f1 => ?_⟩
  refine ⟨_, rfl, rfl, k, l, rfl, fun m2 k2 => ?_⟩
  have f2 : Fed 1 L m m2 a := (f1.kn k2).mono (by decide)
  refine ⟨_, rfl, ?_⟩
  refine ⟨rfl, rfl, dep_i, _, rfl, ?_⟩
  rw [eqv_i]
  by_cases c0 : way = 0
  · refine ite_t (decide_eq_true c0) ⟨_, rfl, Nat.zero_le _, _, rfl, _, rfl, sz (n := 2) (by decide), _, rfl, rfl, draw_use (n := 2) (by decide) (by decide) (by omega) (by decide) f2 fun r m3 r0 r1 f3 => ?_⟩
    obtain rfl | rfl : r = 0 ∨ r = 1 := by omega
    · exact ⟨_, rfl, h [] m3 (List.nil_sublist _) (f3.mono (by decide))⟩
    · exact ⟨_, rfl, h (WS k l) m3 (List.Sublist.refl _) (f3.mono (by decide))⟩
  · refine ite_f (decide_eq_false c0) ?_
    refine ⟨_, rfl, ?_⟩
    refine ⟨rfl, rfl, dep_i, _, rfl, ?_⟩
    rw [eqv_i]
    by_cases c1 : way = 1
    · refine ite_t (decide_eq_true c1) ⟨_, rfl, _, rfl, _, rfl, rfl, draw_use (n := (((WS k l).map PyData.str).length : Int)) (by omega) (by omega) (by omega) (by decide) f2 fun r m3 r0 r1 f3 => ?_⟩
      obtain ⟨w, hw, e⟩ := word_at r0 r1
      exact ⟨_, e, _, rfl, sz (n := 1) (by decide), h [w] m3 (List.singleton_sublist.mpr hw) (f3.mono (by decide))⟩
    · refine ite_f (decide_eq_false c1) ⟨_, rfl, _, rfl, _, rfl, _, rfl, _, rfl, rfl, draw_use (n := (((WS k l).map PyData.str).length : Int)) (by omega) (by omega) (by omega) (by decide) f2 fun r m3 r0 r1 f3 => ?_⟩
      obtain ⟨w, hw, e⟩ := word_at r0 r1
      refine ⟨_, e, rfl, a, k, l, w, L + (1 + 1), rfl, hw, by omega, f3.1, fun zs m4 hz _ f4 => ?_⟩
      have f5 := f3.next2 f4
      refine ⟨_, rfl, ?_⟩
      refine ⟨rfl, rfl, dep_i, _, rfl, ?_⟩
      rw [eqv_i]
      by_cases c2 : way = 2
      · refine ite_t (decide_eq_true c2) ⟨_, rfl, _, rfl, rfl, k, l, zs, rfl, hz, fun m5 k5 => h _ m5 ar_may ((f5.kn k5).mono (by decide))⟩
      · exact ite_f (decide_eq_false c2) ⟨_, rfl, h zs m4 hz (f5.mono (by decide))⟩
end K37
set_option Elab.async false
set_option linter.all false
set_option maxRecDepth 100000
set_option maxHeartbeats 4000000
namespace K37
open PySem PySem.Spec PyProof.Rows L2 DL K01
theorem srt8 (zs : List Int) : srt3 zs ∈ ([[], [1], [0], [0, 1], [-1], [-1, 1], [-1, 0], [-1, 0, 1]] : List (List Int)) := by
  unfold srt3
  by_cases a : -1 ∈ zs <;> by_cases b : 0 ∈ zs <;> by_cases c : 1 ∈ zs <;> simp [List.filter_cons, a, b, c]
theorem show8 : ∀ s ∈ ([[], [1], [0], [0, 1], [-1], [-1, 1], [-1, 0], [-1, 0, 1]] : List (List Int)), (PyData.tuple (s.map .int)).showable = true ∧ (PyData.tuple (s.map .int)).shown.length ≤ 1000 ∧ (PyData.tuple (s.map .int)).depth ≤ 100 := by decide +kernel
abbrev SGD (k l : Bool) (zs : List Str) (x y : Nat) : PyData := .tuple ((sgs k l zs x y).map .int)
theorem sgd_ok (k l : Bool) (zs : List Str) (x y : Nat) : (SGD k l zs x y).showable = true ∧ (SGD k l zs x y).shown.length ≤ sizeLine ∧ (SGD k l zs x y).depth ≤ 100 := by
  obtain ⟨a, b, c⟩ := show8 _ (srt8 (zs.foldl (fun acc z => ins3 acc (way k l x y z)) []))
  exact ⟨a, sz b, c⟩
def Row (p : PyData) : Prop := ∃ (k l : Bool) (zs : List Str) (x y : Nat), May k l zs ∧ x < cnt k ∧ y < cnt l ∧ p = .tuple [kds k l, TS zs, .int x, .int y, .str (SGD k l zs x y).shown]
theorem last_loop {m : Mu} {Q : List PyData → Mu → Prop} (h : Q [] m) : ∀ (ps : List PyData) (d : St2), (∀ p ∈ ps, Row p) → d.length = 5 →
    loopC (gT 5 (gNs (gN 0) (gNs (gN 1) (gNs (gN 2) (gNs (gN 3) (gNs (gN 4) gN0)))))) (dTst (dBin aNe (dCallB bRepr (dCons (dCall 4 sp_signs_in (dCons (dVar 0) (dCons (dVar 1) (dCons (dVar 2) (dCons (dVar 3) dNil))))) dNil)) (dVar 4))) (dCon (.int 1)) (ps.map .dat) [] d m Q
  | [], d, _, _ => h
  | p :: ps, d, hp, hd => by
    obtain ⟨k, l, zs, x, y, hz, hx, hy, rfl⟩ := hp p List.mem_cons_self
    match d, hd with
    | [d0, d1, d2, d3, d4], _ =>
      obtain ⟨s1, s2, s3⟩ := sgd_ok k l zs x y
      refine ⟨_, rfl, rfl, ?_⟩
      refine ⟨rfl, ?_⟩
      refine ⟨_, rfl, _, rfl, _, rfl, _, rfl, rfl, k, l, zs, x, y, rfl, hz.mem, hx, hy, s1, s2, s3, _, rfl, _, rfl, ?_⟩
      refine ite_f (by simp) ?_
      exact last_loop h ps _ (fun q hq => hp q (List.mem_cons_of_mem _ hq)) rfl
theorem kd_at2 {i : Int} (h0 : 0 ≤ i) (h1 : i < 2) : ∃ b, atI [PyData.str "point", .str "stretch"] i = some (.str (kd b)) := by
  obtain rfl | rfl : i = 0 ∨ i = 1 := by omega
  · exact ⟨false, rfl⟩
  · exact ⟨true, rfl⟩
theorem kd_ix (k : Bool) : kd k ∈ (["point", "stretch"] : List Str) ∧ (1 : Int) + ((["point", "stretch"] : List Str).idxOf (kd k) : Nat) = (cnt k : Nat) := by cases k <;> exact ⟨by simp [kd], rfl⟩
abbrev LS2 (ns : List Int) (a c : Addr) (o4 : Option D) (k l : Bool) (zs : List Str) (o7 o8 o9 : Option D) : St2 := [some (.dat (.list (ns.map .int))), some (.cel a), some (.dat (.list [.str "point", .str "stretch"])), some (.cel c), o4, some (.dat (kds k l)), some (.dat (TS zs)), o7, o8, o9]
def Inv0 (a c : Addr) (L : Int) (q : Nat) (m : Mu) : Prop := Tp L m a ∧ ∃ rows : List PyData, m c = some (.l rows) ∧ rows.length ≤ q ∧ ∀ p ∈ rows, Row p
theorem Inv0.kn {a c : Addr} {L : Int} {q : Nat} {m m' : Mu} (h : Inv0 a c L q m) (k : Kn m m') : Inv0 a c L q m' := by
  obtain ⟨ht, rows, e, r⟩ := h
  exact ⟨ht.kn k, rows, by rw [k c (by rw [e]; rfl), e], r⟩
theorem l2_ok {ns : List Int} {a c : Addr} {o4 o9 : Option D} {k l : Bool} {zs : List Str} {x y q : Nat} {L : Int} {m : Mu} {E : Ends2} (ac : a ≠ c) (hz : May k l zs) (hx : x < cnt k) (hy : y < cnt l) (hq : q ≤ 500) (hi : Inv0 a c L q m)
    (h : ∀ m' o9, Inv0 a c L (q + 1) m' → E.nx (LS2 ns a c o4 k l zs (some (I x)) (some (I y)) o9) m') : b_law_L2 E (LS2 ns a c o4 k l zs (some (I x)) (some (I y)) o9) m := by
  obtain ⟨s1, s2, s3⟩ := sgd_ok k l zs x y
  refine ⟨_, rfl, _, rfl, _, rfl, _, rfl, rfl, k, l, zs, x, y, rfl, hz, hx, hy, fun m1 k1 => ?_⟩
  obtain ⟨ht, rows, e, rl, rr⟩ := hi.kn k1
  refine ⟨_, rfl, c, rfl, ⟨_, e⟩, _, rfl, _, rfl, _, rfl, _, rfl, _, rfl, s1, s2, s3, _, rfl, sz (n := 5) (by decide), rows, _, rfl, e, ?_, ?_⟩
  · exact Nat.lt_of_lt_of_le (Nat.lt_of_le_of_lt rl (by omega : q < 1000)) (sz (by decide))
  refine ⟨_, rfl, _, rfl, _, rfl, _, rfl, rfl, k, l, zs, x, y, rfl, hz.mem, hx, hy, s1, s2, s3, _, rfl, s1, s2, s3, _, rfl, ?_⟩
  refine ite_f (by simp) ?_
  refine h _ _ ⟨?_, rows ++ [_], updM_same, by simp; omega, fun p hp => ?_⟩
  · obtain ⟨ns', i', j', t', e', r'⟩ := ht
    exact ⟨ns', i', j', t', by rw [updM_ne ac]; exact e', r'⟩
  · rcases List.mem_append.mp hp with hp | hp
    · exact rr p hp
    · rw [List.mem_singleton.mp hp]
      exact ⟨k, l, zs, x, y, hz, hx, hy, rfl⟩
theorem l0_ok {ns : List Int} {a c : Addr} {o4 o7 o8 o9 : Option D} {k l : Bool} {zs : List Str} {q : Nat} {L : Int} {m : Mu} {E : Ends2} (ac : a ≠ c) (hz : May k l zs) (hq : q ≤ 400) (hi : Inv0 a c L q m)
    (h : ∀ m' o7 o8 o9, Inv0 a c L (q + 4) m' → E.nx (LS2 ns a c o4 k l zs o7 o8 o9) m') : b_law_L0_2 E (LS2 ns a c o4 k l zs o7 o8 o9) m := by
  obtain ⟨i1, i2⟩ := kd_ix k
  obtain ⟨j1, j2⟩ := kd_ix l
  have ck := cnt_le k
  have cl := cnt_le l
  refine ⟨_, rfl, ["point", "stretch"], .inr rfl, _, rfl, _, at0 _ _, kd k, rfl, i1, _, rfl, by omega, by omega, ?_⟩
  rw [i2]
  refine loopL_rng (n := cnt k) (fun x d m' => Inv0 a c L (q + x * cnt l) m' ∧ ∃ o7 o8 o9, d = LS2 ns a c o4 k l zs o7 o8 o9) ?_ ?_ _ _ ⟨by simpa using hi, _, _, _, rfl⟩
  · rintro d m' ⟨hi', o7, o8, o9, rfl⟩
    refine h m' _ _ _ ?_
    obtain ⟨ht, rows, e, rl, rr⟩ := hi'
    refine ⟨ht, rows, e, Nat.le_trans rl ?_, rr⟩
    have : cnt k * cnt l ≤ 2 * 2 := Nat.mul_le_mul ck.2 cl.2
    omega
  · rintro x hx K hK d m1 ⟨hi1, p7, p8, p9, rfl⟩
    refine ⟨_, rfl, ["point", "stretch"], .inr rfl, _, rfl, _, at1 _ _ _, kd l, rfl, j1, _, rfl, by omega, by omega, ?_⟩
    rw [j2]
    refine loopL_rng (n := cnt l) (fun y d m' => Inv0 a c L (q + x * cnt l + y) m' ∧ ∃ o8 o9, d = LS2 ns a c o4 k l zs (some (I x)) o8 o9) ?_ ?_ _ _ ⟨by simpa using hi1, _, _, rfl⟩
    · rintro d m' ⟨hi', o8, o9, rfl⟩
      refine hK _ _ ⟨?_, _, _, _, rfl⟩
      rw [Nat.add_mul, Nat.one_mul, ← Nat.add_assoc]
      exact hi'
    · rintro y hy K2 hK2 d m2 ⟨hi2, p8, p9, rfl⟩
      have xb : x * cnt l ≤ 2 * 2 := Nat.mul_le_mul (by omega) cl.2
      exact l2_ok ac hz hx hy (by omega) hi2 fun m' o9 hi' => hK2 _ _ ⟨hi', _, _, rfl⟩
theorem vc_law : ∀ ds m R, ds.length = p_law.length → sp_law ds m R → b_law (EN R) (start2 N_law ds) m := by
  rintro ds m R hl ⟨ns, rfl, hn, h⟩
  refine ⟨_, rfl, rfl, ns, rfl, hn, fun a m1 ht => ?_⟩
  refine ⟨_, rfl, sz (n := 2) (by decide), [], rfl, Nat.zero_le _, fun c hc => ?_⟩
  have ac : a ≠ c := by
    rintro rfl
    obtain ⟨_, _, _, _, e, _⟩ := ht
    rw [hc] at e
    cases e
  refine ⟨20, rfl, by decide, by decide, ?_⟩
  refine loopL_rng (n := 20) (fun i d m' => Inv0 a c (100 * i) (4 * i) m' ∧ ∃ o4 o5 o6 o7 o8 o9, d = [some (.dat (.list (ns.map .int))), some (.cel a), some (.dat (.list [.str "point", .str "stretch"])), some (.cel c), o4, o5, o6, o7, o8, o9]) ?_ ?_ _ _ ⟨⟨?_, [], updM_same, Nat.le_refl _, fun p hp => nomatch hp⟩, _, _, _, _, _, _, rfl⟩
  · rintro d m' ⟨⟨_, rows, e, rl, rr⟩, o4, o5, o6, o7, o8, o9, rfl⟩
    refine ⟨_, rfl, 3, rows, rfl, by decide, .inr ⟨c, rfl, e⟩, .inl ⟨_, rfl, ?_⟩⟩
    refine last_loop ?_ _ _ (fun p hp => rr p (pickL_mem hp)) rfl
    exact ⟨_, rfl, Nat.zero_le _, rfl, rfl, by simp [PyData.depth, PyData.depthAll], h m'⟩
  · rintro i hi K hK d m2 ⟨hi2, o4, o5, o6, o7, o8, o9, rfl⟩
    obtain ⟨ht2, rows, e2, rl, rr⟩ := hi2
    have hL : (100 : Int) * i ≤ 2000 := by omega
    generalize eL : (100 : Int) * i = L at ht2 hL
    refine ⟨_, rfl, _, rfl, rfl, draw_use (n := 4) (by decide) (by decide) (by omega) (by decide) (Fed.refl ht2) fun r m3 r0 r1 f3 => ?_⟩
    obtain ⟨k, ek⟩ := kd_at2 (i := if decide (0 < r) = true then 1 else 0) (by split <;> decide) (by split <;> decide)
    refine ⟨_, ek, _, rfl, _, rfl, rfl, draw_use (n := 4) (by decide) (by decide) (by omega) (by decide) f3 fun r' m4 r0' r1' f4 => ?_⟩
    obtain ⟨l, el⟩ := kd_at2 (i := if decide (0 < r') = true then 1 else 0) (by split <;> decide) (by split <;> decide)
    refine ⟨_, el, _, rfl, sz (n := 2) (by decide), ?_⟩
    refine ⟨_, rfl, _, rfl, rfl, a, k, l, L + (0 + 1 + 1), rfl, by omega, f4.1, fun zs m5 hz f5 => ?_⟩
    have f6 := f4.next2 f5
    have e5 : m5 c = some (.l rows) := by rw [f6.2 c ac.symm (by rw [e2]; rfl), e2]
    refine l0_ok (q := 4 * i) ac hz (by omega) ⟨f6.1, rows, e5, rl, rr⟩ fun m6 o7 o8 o9 hi6 => hK _ _ ⟨?_, _, _, _, _, _, _, rfl⟩
    obtain ⟨⟨ns', i', j', t', e', t0, t1⟩, rows', q1, q2, q3⟩ := hi6
    exact ⟨⟨ns', i', j', t', e', t0, by push_cast; omega⟩, rows', q1, by omega, q3⟩
  · obtain ⟨ns', i', j', t', e', t0, t1⟩ := ht
    exact ⟨ns', i', j', t', by rw [updM_ne ac]; exact e', t0, by simpa using t1⟩
end K37
namespace K37
open PySem PySem.Spec PyProof.Rows L2 DL
theorem us_n {P : List Value → Prop} (h : P []) : ∀ us : List Value, us.length = 0 → P us
  | [], _ => h
  | _ :: _, e => nomatch e
theorem us_c {P : List Value → Prop} {n : Nat} (h : ∀ a us, us.length = n → P (a :: us)) : ∀ us : List Value, us.length = n + 1 → P us
  | [], e => nomatch e
  | a :: us, e => h a us (Nat.succ.inj e)
theorem us_0 {fd : FuncData} {ps : List Str} (h : bindArgs fd { pos := [] } = pure (ps.zip [])) (us : List Value) (hl : us.length = 0) : bindArgs fd { pos := us } = pure (ps.zip us) :=
  (us_n (P := fun us => bindArgs fd { pos := us } = pure (ps.zip (us))) (h)) us hl
theorem us_1 {fd : FuncData} {ps : List Str} (h : ∀ a0, bindArgs fd { pos := [a0] } = pure (ps.zip [a0])) (us : List Value) (hl : us.length = 1) : bindArgs fd { pos := us } = pure (ps.zip us) :=
  (us_c (P := fun us => bindArgs fd { pos := us } = pure (ps.zip (us))) (fun a0 => us_n (P := fun us => bindArgs fd { pos := a0 :: us } = pure (ps.zip (a0 :: us))) (h a0))) us hl
theorem us_2 {fd : FuncData} {ps : List Str} (h : ∀ a0 a1, bindArgs fd { pos := [a0, a1] } = pure (ps.zip [a0, a1])) (us : List Value) (hl : us.length = 2) : bindArgs fd { pos := us } = pure (ps.zip us) :=
  (us_c (P := fun us => bindArgs fd { pos := us } = pure (ps.zip (us))) (fun a0 => us_c (P := fun us => bindArgs fd { pos := a0 :: us } = pure (ps.zip (a0 :: us))) (fun a1 => us_n (P := fun us => bindArgs fd { pos := a0 :: a1 :: us } = pure (ps.zip (a0 :: a1 :: us))) (h a0 a1)))) us hl
theorem us_3 {fd : FuncData} {ps : List Str} (h : ∀ a0 a1 a2, bindArgs fd { pos := [a0, a1, a2] } = pure (ps.zip [a0, a1, a2])) (us : List Value) (hl : us.length = 3) : bindArgs fd { pos := us } = pure (ps.zip us) :=
  (us_c (P := fun us => bindArgs fd { pos := us } = pure (ps.zip (us))) (fun a0 => us_c (P := fun us => bindArgs fd { pos := a0 :: us } = pure (ps.zip (a0 :: us))) (fun a1 => us_c (P := fun us => bindArgs fd { pos := a0 :: a1 :: us } = pure (ps.zip (a0 :: a1 :: us))) (fun a2 => us_n (P := fun us => bindArgs fd { pos := a0 :: a1 :: a2 :: us } = pure (ps.zip (a0 :: a1 :: a2 :: us))) (h a0 a1 a2))))) us hl
theorem us_4 {fd : FuncData} {ps : List Str} (h : ∀ a0 a1 a2 a3, bindArgs fd { pos := [a0, a1, a2, a3] } = pure (ps.zip [a0, a1, a2, a3])) (us : List Value) (hl : us.length = 4) : bindArgs fd { pos := us } = pure (ps.zip us) :=
  (us_c (P := fun us => bindArgs fd { pos := us } = pure (ps.zip (us))) (fun a0 => us_c (P := fun us => bindArgs fd { pos := a0 :: us } = pure (ps.zip (a0 :: us))) (fun a1 => us_c (P := fun us => bindArgs fd { pos := a0 :: a1 :: us } = pure (ps.zip (a0 :: a1 :: us))) (fun a2 => us_c (P := fun us => bindArgs fd { pos := a0 :: a1 :: a2 :: us } = pure (ps.zip (a0 :: a1 :: a2 :: us))) (fun a3 => us_n (P := fun us => bindArgs fd { pos := a0 :: a1 :: a2 :: a3 :: us } = pure (ps.zip (a0 :: a1 :: a2 :: a3 :: us))) (h a0 a1 a2 a3)))))) us hl
theorem all_mk {l : PySem.W.OpenLaw} {w : World} {K : PySem.W.Frag} {h : Heap} {mg : Str → Option Value} {fa : Addr} (X : K.In h) (G : h.Ns mainGlobals mg) (hfa : mg "law" = some (.ref fa))
    {f_ways_by : Addr} {od_0 an_0 : Option Addr} {sl_0 : Array (Option Value)} {oc_0 kV_0 dc_0 pm_0 cd_0 ct_0 : Value} (a0 : PySem.W.nsIn K mainGlobals "ways_by" = some (some (.ref f_ways_by))) (l0 : K.lookup f_ways_by = some ⟨oc_0, od_0, .func (PySem.W.fnOf "ways_by" "ways_by" (defArgs s_ways_by) (defBody s_ways_by) (defScope s_ways_by) .none kV_0 dc_0 pm_0 an_0 cd_0 ct_0), sl_0⟩) (c0 : PySem.W.codeIn K cd_0 "ways_by" = true) (k0 : PySem.W.keepIn K (.ref f_ways_by) = true)
    {f_how_ends : Addr} {od_1 an_1 : Option Addr} {sl_1 : Array (Option Value)} {oc_1 kV_1 dc_1 pm_1 cd_1 ct_1 : Value} (a1 : PySem.W.nsIn K mainGlobals "how_ends" = some (some (.ref f_how_ends))) (l1 : K.lookup f_how_ends = some ⟨oc_1, od_1, .func (PySem.W.fnOf "how_ends" "how_ends" (defArgs s_how_ends) (defBody s_how_ends) (defScope s_how_ends) .none kV_1 dc_1 pm_1 an_1 cd_1 ct_1), sl_1⟩) (c1 : PySem.W.codeIn K cd_1 "how_ends" = true) (k1 : PySem.W.keepIn K (.ref f_how_ends) = true)
    {f_signs_in : Addr} {od_2 an_2 : Option Addr} {sl_2 : Array (Option Value)} {oc_2 kV_2 dc_2 pm_2 cd_2 ct_2 : Value} (a2 : PySem.W.nsIn K mainGlobals "signs_in" = some (some (.ref f_signs_in))) (l2 : K.lookup f_signs_in = some ⟨oc_2, od_2, .func (PySem.W.fnOf "signs_in" "signs_in" (defArgs s_signs_in) (defBody s_signs_in) (defScope s_signs_in) .none kV_2 dc_2 pm_2 an_2 cd_2 ct_2), sl_2⟩) (c2 : PySem.W.codeIn K cd_2 "signs_in" = true) (k2 : PySem.W.keepIn K (.ref f_signs_in) = true)
    {f__law_feed : Addr} {od_3 an_3 : Option Addr} {sl_3 : Array (Option Value)} {oc_3 kV_3 dc_3 pm_3 cd_3 ct_3 : Value} (a3 : PySem.W.nsIn K mainGlobals "_law_feed" = some (some (.ref f__law_feed))) (l3 : K.lookup f__law_feed = some ⟨oc_3, od_3, .func (PySem.W.fnOf "_law_feed" "_law_feed" (defArgs s__law_feed) (defBody s__law_feed) (defScope s__law_feed) .none kV_3 dc_3 pm_3 an_3 cd_3 ct_3), sl_3⟩) (c3 : PySem.W.codeIn K cd_3 "_law_feed" = true) (k3 : PySem.W.keepIn K (.ref f__law_feed) = true)
    {f__law_draw : Addr} {od_4 an_4 : Option Addr} {sl_4 : Array (Option Value)} {oc_4 kV_4 dc_4 pm_4 cd_4 ct_4 : Value} (a4 : PySem.W.nsIn K mainGlobals "_law_draw" = some (some (.ref f__law_draw))) (l4 : K.lookup f__law_draw = some ⟨oc_4, od_4, .func (PySem.W.fnOf "_law_draw" "_law_draw" (defArgs s__law_draw) (defBody s__law_draw) (defScope s__law_draw) .none kV_4 dc_4 pm_4 an_4 cd_4 ct_4), sl_4⟩) (c4 : PySem.W.codeIn K cd_4 "_law_draw" = true) (k4 : PySem.W.keepIn K (.ref f__law_draw) = true)
    {f__law_order : Addr} {od_5 an_5 : Option Addr} {sl_5 : Array (Option Value)} {oc_5 kV_5 dc_5 pm_5 cd_5 ct_5 : Value} (a5 : PySem.W.nsIn K mainGlobals "_law_order" = some (some (.ref f__law_order))) (l5 : K.lookup f__law_order = some ⟨oc_5, od_5, .func (PySem.W.fnOf "_law_order" "_law_order" (defArgs s__law_order) (defBody s__law_order) (defScope s__law_order) .none kV_5 dc_5 pm_5 an_5 cd_5 ct_5), sl_5⟩) (c5 : PySem.W.codeIn K cd_5 "_law_order" = true) (k5 : PySem.W.keepIn K (.ref f__law_order) = true)
    {f__law_words : Addr} {od_6 an_6 : Option Addr} {sl_6 : Array (Option Value)} {oc_6 kV_6 dc_6 pm_6 cd_6 ct_6 : Value} (a6 : PySem.W.nsIn K mainGlobals "_law_words" = some (some (.ref f__law_words))) (l6 : K.lookup f__law_words = some ⟨oc_6, od_6, .func (PySem.W.fnOf "_law_words" "_law_words" (defArgs s__law_words) (defBody s__law_words) (defScope s__law_words) .none kV_6 dc_6 pm_6 an_6 cd_6 ct_6), sl_6⟩) (c6 : PySem.W.codeIn K cd_6 "_law_words" = true) (k6 : PySem.W.keepIn K (.ref f__law_words) = true)
    {f__law_signs : Addr} {od_7 an_7 : Option Addr} {sl_7 : Array (Option Value)} {oc_7 kV_7 dc_7 pm_7 cd_7 ct_7 : Value} (a7 : PySem.W.nsIn K mainGlobals "_law_signs" = some (some (.ref f__law_signs))) (l7 : K.lookup f__law_signs = some ⟨oc_7, od_7, .func (PySem.W.fnOf "_law_signs" "_law_signs" (defArgs s__law_signs) (defBody s__law_signs) (defScope s__law_signs) .none kV_7 dc_7 pm_7 an_7 cd_7 ct_7), sl_7⟩) (c7 : PySem.W.codeIn K cd_7 "_law_signs" = true) (k7 : PySem.W.keepIn K (.ref f__law_signs) = true)
    {f__law_lays : Addr} {od_8 an_8 : Option Addr} {sl_8 : Array (Option Value)} {oc_8 kV_8 dc_8 pm_8 cd_8 ct_8 : Value} (a8 : PySem.W.nsIn K mainGlobals "_law_lays" = some (some (.ref f__law_lays))) (l8 : K.lookup f__law_lays = some ⟨oc_8, od_8, .func (PySem.W.fnOf "_law_lays" "_law_lays" (defArgs s__law_lays) (defBody s__law_lays) (defScope s__law_lays) .none kV_8 dc_8 pm_8 an_8 cd_8 ct_8), sl_8⟩) (c8 : PySem.W.codeIn K cd_8 "_law_lays" = true) (k8 : PySem.W.keepIn K (.ref f__law_lays) = true)
    {f__law_around : Addr} {od_9 an_9 : Option Addr} {sl_9 : Array (Option Value)} {oc_9 kV_9 dc_9 pm_9 cd_9 ct_9 : Value} (a9 : PySem.W.nsIn K mainGlobals "_law_around" = some (some (.ref f__law_around))) (l9 : K.lookup f__law_around = some ⟨oc_9, od_9, .func (PySem.W.fnOf "_law_around" "_law_around" (defArgs s__law_around) (defBody s__law_around) (defScope s__law_around) .none kV_9 dc_9 pm_9 an_9 cd_9 ct_9), sl_9⟩) (c9 : PySem.W.codeIn K cd_9 "_law_around" = true) (k9 : PySem.W.keepIn K (.ref f__law_around) = true)
    {f__law_some : Addr} {od_10 an_10 : Option Addr} {sl_10 : Array (Option Value)} {oc_10 kV_10 dc_10 pm_10 cd_10 ct_10 : Value} (a10 : PySem.W.nsIn K mainGlobals "_law_some" = some (some (.ref f__law_some))) (l10 : K.lookup f__law_some = some ⟨oc_10, od_10, .func (PySem.W.fnOf "_law_some" "_law_some" (defArgs s__law_some) (defBody s__law_some) (defScope s__law_some) .none kV_10 dc_10 pm_10 an_10 cd_10 ct_10), sl_10⟩) (c10 : PySem.W.codeIn K cd_10 "_law_some" = true) (k10 : PySem.W.keepIn K (.ref f__law_some) = true)
    {f__law_due : Addr} {od_11 an_11 : Option Addr} {sl_11 : Array (Option Value)} {oc_11 kV_11 dc_11 pm_11 cd_11 ct_11 : Value} (a11 : PySem.W.nsIn K mainGlobals "_law_due" = some (some (.ref f__law_due))) (l11 : K.lookup f__law_due = some ⟨oc_11, od_11, .func (PySem.W.fnOf "_law_due" "_law_due" (defArgs s__law_due) (defBody s__law_due) (defScope s__law_due) .none kV_11 dc_11 pm_11 an_11 cd_11 ct_11), sl_11⟩) (c11 : PySem.W.codeIn K cd_11 "_law_due" = true) (k11 : PySem.W.keepIn K (.ref f__law_due) = true)
    {f__law_drawn : Addr} {od_12 an_12 : Option Addr} {sl_12 : Array (Option Value)} {oc_12 kV_12 dc_12 pm_12 cd_12 ct_12 : Value} (a12 : PySem.W.nsIn K mainGlobals "_law_drawn" = some (some (.ref f__law_drawn))) (l12 : K.lookup f__law_drawn = some ⟨oc_12, od_12, .func (PySem.W.fnOf "_law_drawn" "_law_drawn" (defArgs s__law_drawn) (defBody s__law_drawn) (defScope s__law_drawn) .none kV_12 dc_12 pm_12 an_12 cd_12 ct_12), sl_12⟩) (c12 : PySem.W.codeIn K cd_12 "_law_drawn" = true) (k12 : PySem.W.keepIn K (.ref f__law_drawn) = true)
    {f_law : Addr} {od_13 an_13 : Option Addr} {sl_13 : Array (Option Value)} {oc_13 kV_13 dc_13 pm_13 cd_13 ct_13 : Value} (a13 : PySem.W.nsIn K mainGlobals "law" = some (some (.ref f_law))) (l13 : K.lookup f_law = some ⟨oc_13, od_13, .func (PySem.W.fnOf "law" "law" (defArgs s_law) (defBody s_law) (defScope s_law) .none kV_13 dc_13 pm_13 an_13 cd_13 ct_13), sl_13⟩) (c13 : PySem.W.codeIn K cd_13 "law" = true) (k13 : PySem.W.keepIn K (.ref f_law) = true)
    {c_WAYS r_WAYS_0 r_WAYS_1 r_WAYS_2 r_WAYS_3 r_WAYS_4 r_WAYS_5 r_WAYS_6 r_WAYS_7 r_WAYS_8 r_WAYS_9 r_WAYS_10 r_WAYS_11 r_WAYS_12 : Addr} {n_WAYS : Nat} {t_WAYS_0 u_WAYS_0_0 u_WAYS_0_1 u_WAYS_0_2 u_WAYS_0_3 t_WAYS_1 u_WAYS_1_0 u_WAYS_1_1 u_WAYS_1_2 u_WAYS_1_3 t_WAYS_2 u_WAYS_2_0 u_WAYS_2_1 u_WAYS_2_2 u_WAYS_2_3 t_WAYS_3 u_WAYS_3_0 u_WAYS_3_1 u_WAYS_3_2 u_WAYS_3_3 t_WAYS_4 u_WAYS_4_0 u_WAYS_4_1 u_WAYS_4_2 u_WAYS_4_3 t_WAYS_5 u_WAYS_5_0 u_WAYS_5_1 u_WAYS_5_2 u_WAYS_5_3 t_WAYS_6 u_WAYS_6_0 u_WAYS_6_1 u_WAYS_6_2 u_WAYS_6_3 t_WAYS_7 u_WAYS_7_0 u_WAYS_7_1 u_WAYS_7_2 u_WAYS_7_3 t_WAYS_8 u_WAYS_8_0 u_WAYS_8_1 u_WAYS_8_2 u_WAYS_8_3 t_WAYS_9 u_WAYS_9_0 u_WAYS_9_1 u_WAYS_9_2 u_WAYS_9_3 t_WAYS_10 u_WAYS_10_0 u_WAYS_10_1 u_WAYS_10_2 u_WAYS_10_3 t_WAYS_11 u_WAYS_11_0 u_WAYS_11_1 u_WAYS_11_2 u_WAYS_11_3 t_WAYS_12 u_WAYS_12_0 u_WAYS_12_1 u_WAYS_12_2 u_WAYS_12_3 : Tok} (a_WAYS : PySem.W.nsIn K mainGlobals "WAYS" = some (some (.ref c_WAYS))) (l_WAYS : K.lookup c_WAYS = some ⟨.type "dict", none, .dict #[⟨PyData.keyHash w.params "ahead", .str "ahead" t_WAYS_0, .ref r_WAYS_0⟩, ⟨PyData.keyHash w.params "meets", .str "meets" t_WAYS_1, .ref r_WAYS_1⟩, ⟨PyData.keyHash w.params "overlaps", .str "overlaps" t_WAYS_2, .ref r_WAYS_2⟩, ⟨PyData.keyHash w.params "begins", .str "begins" t_WAYS_3, .ref r_WAYS_3⟩, ⟨PyData.keyHash w.params "within", .str "within" t_WAYS_4, .ref r_WAYS_4⟩, ⟨PyData.keyHash w.params "ends", .str "ends" t_WAYS_5, .ref r_WAYS_5⟩, ⟨PyData.keyHash w.params "same", .str "same" t_WAYS_6, .ref r_WAYS_6⟩, ⟨PyData.keyHash w.params "ended", .str "ended" t_WAYS_7, .ref r_WAYS_7⟩, ⟨PyData.keyHash w.params "holds", .str "holds" t_WAYS_8, .ref r_WAYS_8⟩, ⟨PyData.keyHash w.params "begun", .str "begun" t_WAYS_9, .ref r_WAYS_9⟩, ⟨PyData.keyHash w.params "lapped", .str "lapped" t_WAYS_10, .ref r_WAYS_10⟩, ⟨PyData.keyHash w.params "met", .str "met" t_WAYS_11, .ref r_WAYS_11⟩, ⟨PyData.keyHash w.params "behind", .str "behind" t_WAYS_12, .ref r_WAYS_12⟩] n_WAYS, #[]⟩) {n_WAYS_0 : Nat} {sl_WAYS_0 : Array (Option Value)} (l_WAYS_0 : K.lookup r_WAYS_0 = some ⟨.type "tuple", none, .seq #[.int (-1) u_WAYS_0_0, .int (-1) u_WAYS_0_1, .int (-1) u_WAYS_0_2, .int (-1) u_WAYS_0_3] n_WAYS_0, sl_WAYS_0⟩) {n_WAYS_1 : Nat} {sl_WAYS_1 : Array (Option Value)} (l_WAYS_1 : K.lookup r_WAYS_1 = some ⟨.type "tuple", none, .seq #[.int (-1) u_WAYS_1_0, .int (-1) u_WAYS_1_1, .int (0) u_WAYS_1_2, .int (-1) u_WAYS_1_3] n_WAYS_1, sl_WAYS_1⟩) {n_WAYS_2 : Nat} {sl_WAYS_2 : Array (Option Value)} (l_WAYS_2 : K.lookup r_WAYS_2 = some ⟨.type "tuple", none, .seq #[.int (-1) u_WAYS_2_0, .int (-1) u_WAYS_2_1, .int (1) u_WAYS_2_2, .int (-1) u_WAYS_2_3] n_WAYS_2, sl_WAYS_2⟩) {n_WAYS_3 : Nat} {sl_WAYS_3 : Array (Option Value)} (l_WAYS_3 : K.lookup r_WAYS_3 = some ⟨.type "tuple", none, .seq #[.int (0) u_WAYS_3_0, .int (-1) u_WAYS_3_1, .int (1) u_WAYS_3_2, .int (-1) u_WAYS_3_3] n_WAYS_3, sl_WAYS_3⟩) {n_WAYS_4 : Nat} {sl_WAYS_4 : Array (Option Value)} (l_WAYS_4 : K.lookup r_WAYS_4 = some ⟨.type "tuple", none, .seq #[.int (1) u_WAYS_4_0, .int (-1) u_WAYS_4_1, .int (1) u_WAYS_4_2, .int (-1) u_WAYS_4_3] n_WAYS_4, sl_WAYS_4⟩) {n_WAYS_5 : Nat} {sl_WAYS_5 : Array (Option Value)} (l_WAYS_5 : K.lookup r_WAYS_5 = some ⟨.type "tuple", none, .seq #[.int (1) u_WAYS_5_0, .int (-1) u_WAYS_5_1, .int (1) u_WAYS_5_2, .int (0) u_WAYS_5_3] n_WAYS_5, sl_WAYS_5⟩) {n_WAYS_6 : Nat} {sl_WAYS_6 : Array (Option Value)} (l_WAYS_6 : K.lookup r_WAYS_6 = some ⟨.type "tuple", none, .seq #[.int (0) u_WAYS_6_0, .int (-1) u_WAYS_6_1, .int (1) u_WAYS_6_2, .int (0) u_WAYS_6_3] n_WAYS_6, sl_WAYS_6⟩) {n_WAYS_7 : Nat} {sl_WAYS_7 : Array (Option Value)} (l_WAYS_7 : K.lookup r_WAYS_7 = some ⟨.type "tuple", none, .seq #[.int (-1) u_WAYS_7_0, .int (-1) u_WAYS_7_1, .int (1) u_WAYS_7_2, .int (0) u_WAYS_7_3] n_WAYS_7, sl_WAYS_7⟩) {n_WAYS_8 : Nat} {sl_WAYS_8 : Array (Option Value)} (l_WAYS_8 : K.lookup r_WAYS_8 = some ⟨.type "tuple", none, .seq #[.int (-1) u_WAYS_8_0, .int (-1) u_WAYS_8_1, .int (1) u_WAYS_8_2, .int (1) u_WAYS_8_3] n_WAYS_8, sl_WAYS_8⟩) {n_WAYS_9 : Nat} {sl_WAYS_9 : Array (Option Value)} (l_WAYS_9 : K.lookup r_WAYS_9 = some ⟨.type "tuple", none, .seq #[.int (0) u_WAYS_9_0, .int (-1) u_WAYS_9_1, .int (1) u_WAYS_9_2, .int (1) u_WAYS_9_3] n_WAYS_9, sl_WAYS_9⟩) {n_WAYS_10 : Nat} {sl_WAYS_10 : Array (Option Value)} (l_WAYS_10 : K.lookup r_WAYS_10 = some ⟨.type "tuple", none, .seq #[.int (1) u_WAYS_10_0, .int (-1) u_WAYS_10_1, .int (1) u_WAYS_10_2, .int (1) u_WAYS_10_3] n_WAYS_10, sl_WAYS_10⟩) {n_WAYS_11 : Nat} {sl_WAYS_11 : Array (Option Value)} (l_WAYS_11 : K.lookup r_WAYS_11 = some ⟨.type "tuple", none, .seq #[.int (1) u_WAYS_11_0, .int (0) u_WAYS_11_1, .int (1) u_WAYS_11_2, .int (1) u_WAYS_11_3] n_WAYS_11, sl_WAYS_11⟩) {n_WAYS_12 : Nat} {sl_WAYS_12 : Array (Option Value)} (l_WAYS_12 : K.lookup r_WAYS_12 = some ⟨.type "tuple", none, .seq #[.int (1) u_WAYS_12_0, .int (1) u_WAYS_12_1, .int (1) u_WAYS_12_2, .int (1) u_WAYS_12_3] n_WAYS_12, sl_WAYS_12⟩) (y_WAYS : (c_WAYS == sysModules) = false)
    {c_END_COUNTS : Addr} {n_END_COUNTS : Nat} {t_END_COUNTS_0 u_END_COUNTS_0 t_END_COUNTS_1 u_END_COUNTS_1 : Tok} (a_END_COUNTS : PySem.W.nsIn K mainGlobals "END_COUNTS" = some (some (.ref c_END_COUNTS))) (l_END_COUNTS : K.lookup c_END_COUNTS = some ⟨.type "dict", none, .dict #[⟨PyData.keyHash w.params "point", .str "point" t_END_COUNTS_0, .int (1) u_END_COUNTS_0⟩, ⟨PyData.keyHash w.params "stretch", .str "stretch" t_END_COUNTS_1, .int (2) u_END_COUNTS_1⟩] n_END_COUNTS, #[]⟩)  (y_END_COUNTS : (c_END_COUNTS == sysModules) = false)
    (z_tuple : PySem.W.nsIn K mainGlobals "tuple" = some none)
    (z_sorted : PySem.W.nsIn K mainGlobals "sorted" = some none)
    (z_list : PySem.W.nsIn K mainGlobals "list" = some none)
    (z_len : PySem.W.nsIn K mainGlobals "len" = some none)
    (z_int : PySem.W.nsIn K mainGlobals "int" = some none)
    (z_range : PySem.W.nsIn K mainGlobals "range" = some none)
    (z_dict : PySem.W.nsIn K mainGlobals "dict" = some none)
    (z_min : PySem.W.nsIn K mainGlobals "min" = some none)
    (z_max : PySem.W.nsIn K mainGlobals "max" = some none)
    (z_set : PySem.W.nsIn K mainGlobals "set" = some none)
    (z_repr : PySem.W.nsIn K mainGlobals "repr" = some none)
    : ∃ fd : FuncData, (∀ (s : Shared) (v : Value), BindsTo s fd ⟨[v], []⟩ [("_law_script", v)]) ∧ ∀ base : Heap, K.In base → base.Ns mainGlobals mg → FnOk l.prog w K mg base CX0 5 fa fd ["_law_script"] (LSp K 1 sp_law) := by
  have e := hfa.symm.trans (PySem.W.mg_of X G a13)
  cases e
  have F_ways_by := fun_mk (st := s_ways_by) l0 c0 k0
  have B_ways_by := (F_ways_by).binds (ps := p_ways_by) fun _ _ _ _ _ _ us hl => us_2 (by intros; rfl) us hl
  have M_ways_by := PySem.W.mg_of X G a0
  have F_how_ends := fun_mk (st := s_how_ends) l1 c1 k1
  have B_how_ends := (F_how_ends).binds (ps := p_how_ends) fun _ _ _ _ _ _ us hl => us_4 (by intros; rfl) us hl
  have M_how_ends := PySem.W.mg_of X G a1
  have F_signs_in := fun_mk (st := s_signs_in) l2 c2 k2
  have B_signs_in := (F_signs_in).binds (ps := p_signs_in) fun _ _ _ _ _ _ us hl => us_4 (by intros; rfl) us hl
  have M_signs_in := PySem.W.mg_of X G a2
  have F__law_feed := fun_mk (st := s__law_feed) l3 c3 k3
  have B__law_feed := (F__law_feed).binds (ps := p__law_feed) fun _ _ _ _ _ _ us hl => us_1 (by intros; rfl) us hl
  have M__law_feed := PySem.W.mg_of X G a3
  have F__law_draw := fun_mk (st := s__law_draw) l4 c4 k4
  have B__law_draw := (F__law_draw).binds (ps := p__law_draw) fun _ _ _ _ _ _ us hl => us_2 (by intros; rfl) us hl
  have M__law_draw := PySem.W.mg_of X G a4
  have F__law_order := fun_mk (st := s__law_order) l5 c5 k5
  have B__law_order := (F__law_order).binds (ps := p__law_order) fun _ _ _ _ _ _ us hl => us_0 (by intros; rfl) us hl
  have M__law_order := PySem.W.mg_of X G a5
  have F__law_words := fun_mk (st := s__law_words) l6 c6 k6
  have B__law_words := (F__law_words).binds (ps := p__law_words) fun _ _ _ _ _ _ us hl => us_1 (by intros; rfl) us hl
  have M__law_words := PySem.W.mg_of X G a6
  have F__law_signs := fun_mk (st := s__law_signs) l7 c7 k7
  have B__law_signs := (F__law_signs).binds (ps := p__law_signs) fun _ _ _ _ _ _ us hl => us_2 (by intros; rfl) us hl
  have M__law_signs := PySem.W.mg_of X G a7
  have F__law_lays := fun_mk (st := s__law_lays) l8 c8 k8
  have B__law_lays := (F__law_lays).binds (ps := p__law_lays) fun _ _ _ _ _ _ us hl => us_1 (by intros; rfl) us hl
  have M__law_lays := PySem.W.mg_of X G a8
  have F__law_around := fun_mk (st := s__law_around) l9 c9 k9
  have B__law_around := (F__law_around).binds (ps := p__law_around) fun _ _ _ _ _ _ us hl => us_2 (by intros; rfl) us hl
  have M__law_around := PySem.W.mg_of X G a9
  have F__law_some := fun_mk (st := s__law_some) l10 c10 k10
  have B__law_some := (F__law_some).binds (ps := p__law_some) fun _ _ _ _ _ _ us hl => us_3 (by intros; rfl) us hl
  have M__law_some := PySem.W.mg_of X G a10
  have F__law_due := fun_mk (st := s__law_due) l11 c11 k11
  have B__law_due := (F__law_due).binds (ps := p__law_due) fun _ _ _ _ _ _ us hl => us_4 (by intros; rfl) us hl
  have M__law_due := PySem.W.mg_of X G a11
  have F__law_drawn := fun_mk (st := s__law_drawn) l12 c12 k12
  have B__law_drawn := (F__law_drawn).binds (ps := p__law_drawn) fun _ _ _ _ _ _ us hl => us_2 (by intros; rfl) us hl
  have M__law_drawn := PySem.W.mg_of X G a12
  have F_law := fun_mk (st := s_law) l13 c13 k13
  have M_WAYS := PySem.W.mg_of X G a_WAYS
  have K_WAYS : KD K w c_WAYS tb_WAYS := ⟨[("ahead", .ref r_WAYS_0), ("meets", .ref r_WAYS_1), ("overlaps", .ref r_WAYS_2), ("begins", .ref r_WAYS_3), ("within", .ref r_WAYS_4), ("ends", .ref r_WAYS_5), ("same", .ref r_WAYS_6), ("ended", .ref r_WAYS_7), ("holds", .ref r_WAYS_8), ("begun", .ref r_WAYS_9), ("lapped", .ref r_WAYS_10), ("met", .ref r_WAYS_11), ("behind", .ref r_WAYS_12)], ⟨_, _, _, l_WAYS, rfl, rfl, rfl, rfl, ⟨rfl, ⟨_, rfl⟩, rfl, ⟨rfl, ⟨_, rfl⟩, rfl, ⟨rfl, ⟨_, rfl⟩, rfl, ⟨rfl, ⟨_, rfl⟩, rfl, ⟨rfl, ⟨_, rfl⟩, rfl, ⟨rfl, ⟨_, rfl⟩, rfl, ⟨rfl, ⟨_, rfl⟩, rfl, ⟨rfl, ⟨_, rfl⟩, rfl, ⟨rfl, ⟨_, rfl⟩, rfl, ⟨rfl, ⟨_, rfl⟩, rfl, ⟨rfl, ⟨_, rfl⟩, rfl, ⟨rfl, ⟨_, rfl⟩, rfl, ⟨rfl, ⟨_, rfl⟩, rfl, True.intro⟩⟩⟩⟩⟩⟩⟩⟩⟩⟩⟩⟩⟩, by show List.Nodup (["ahead", "meets", "overlaps", "begins", "within", "ends", "same", "ended", "holds", "begun", "lapped", "met", "behind"] : List Str); decide +kernel, y_WAYS⟩, fun Z m H => ⟨_, _, rfl, rp_ints (is := [-1, -1, -1, -1]) (.inr ⟨_, _, _, l_WAYS_0, ⟨rfl, rfl⟩, rfl, by show 4 ≤ sizeLine; rw [sizeLine_eq]; decide, .cons ⟨_, rfl⟩ (.cons ⟨_, rfl⟩ (.cons ⟨_, rfl⟩ (.cons ⟨_, rfl⟩ (.nil))))⟩), ⟨_, _, rfl, rp_ints (is := [-1, -1, 0, -1]) (.inr ⟨_, _, _, l_WAYS_1, ⟨rfl, rfl⟩, rfl, by show 4 ≤ sizeLine; rw [sizeLine_eq]; decide, .cons ⟨_, rfl⟩ (.cons ⟨_, rfl⟩ (.cons ⟨_, rfl⟩ (.cons ⟨_, rfl⟩ (.nil))))⟩), ⟨_, _, rfl, rp_ints (is := [-1, -1, 1, -1]) (.inr ⟨_, _, _, l_WAYS_2, ⟨rfl, rfl⟩, rfl, by show 4 ≤ sizeLine; rw [sizeLine_eq]; decide, .cons ⟨_, rfl⟩ (.cons ⟨_, rfl⟩ (.cons ⟨_, rfl⟩ (.cons ⟨_, rfl⟩ (.nil))))⟩), ⟨_, _, rfl, rp_ints (is := [0, -1, 1, -1]) (.inr ⟨_, _, _, l_WAYS_3, ⟨rfl, rfl⟩, rfl, by show 4 ≤ sizeLine; rw [sizeLine_eq]; decide, .cons ⟨_, rfl⟩ (.cons ⟨_, rfl⟩ (.cons ⟨_, rfl⟩ (.cons ⟨_, rfl⟩ (.nil))))⟩), ⟨_, _, rfl, rp_ints (is := [1, -1, 1, -1]) (.inr ⟨_, _, _, l_WAYS_4, ⟨rfl, rfl⟩, rfl, by show 4 ≤ sizeLine; rw [sizeLine_eq]; decide, .cons ⟨_, rfl⟩ (.cons ⟨_, rfl⟩ (.cons ⟨_, rfl⟩ (.cons ⟨_, rfl⟩ (.nil))))⟩), ⟨_, _, rfl, rp_ints (is := [1, -1, 1, 0]) (.inr ⟨_, _, _, l_WAYS_5, ⟨rfl, rfl⟩, rfl, by show 4 ≤ sizeLine; rw [sizeLine_eq]; decide, .cons ⟨_, rfl⟩ (.cons ⟨_, rfl⟩ (.cons ⟨_, rfl⟩ (.cons ⟨_, rfl⟩ (.nil))))⟩), ⟨_, _, rfl, rp_ints (is := [0, -1, 1, 0]) (.inr ⟨_, _, _, l_WAYS_6, ⟨rfl, rfl⟩, rfl, by show 4 ≤ sizeLine; rw [sizeLine_eq]; decide, .cons ⟨_, rfl⟩ (.cons ⟨_, rfl⟩ (.cons ⟨_, rfl⟩ (.cons ⟨_, rfl⟩ (.nil))))⟩), ⟨_, _, rfl, rp_ints (is := [-1, -1, 1, 0]) (.inr ⟨_, _, _, l_WAYS_7, ⟨rfl, rfl⟩, rfl, by show 4 ≤ sizeLine; rw [sizeLine_eq]; decide, .cons ⟨_, rfl⟩ (.cons ⟨_, rfl⟩ (.cons ⟨_, rfl⟩ (.cons ⟨_, rfl⟩ (.nil))))⟩), ⟨_, _, rfl, rp_ints (is := [-1, -1, 1, 1]) (.inr ⟨_, _, _, l_WAYS_8, ⟨rfl, rfl⟩, rfl, by show 4 ≤ sizeLine; rw [sizeLine_eq]; decide, .cons ⟨_, rfl⟩ (.cons ⟨_, rfl⟩ (.cons ⟨_, rfl⟩ (.cons ⟨_, rfl⟩ (.nil))))⟩), ⟨_, _, rfl, rp_ints (is := [0, -1, 1, 1]) (.inr ⟨_, _, _, l_WAYS_9, ⟨rfl, rfl⟩, rfl, by show 4 ≤ sizeLine; rw [sizeLine_eq]; decide, .cons ⟨_, rfl⟩ (.cons ⟨_, rfl⟩ (.cons ⟨_, rfl⟩ (.cons ⟨_, rfl⟩ (.nil))))⟩), ⟨_, _, rfl, rp_ints (is := [1, -1, 1, 1]) (.inr ⟨_, _, _, l_WAYS_10, ⟨rfl, rfl⟩, rfl, by show 4 ≤ sizeLine; rw [sizeLine_eq]; decide, .cons ⟨_, rfl⟩ (.cons ⟨_, rfl⟩ (.cons ⟨_, rfl⟩ (.cons ⟨_, rfl⟩ (.nil))))⟩), ⟨_, _, rfl, rp_ints (is := [1, 0, 1, 1]) (.inr ⟨_, _, _, l_WAYS_11, ⟨rfl, rfl⟩, rfl, by show 4 ≤ sizeLine; rw [sizeLine_eq]; decide, .cons ⟨_, rfl⟩ (.cons ⟨_, rfl⟩ (.cons ⟨_, rfl⟩ (.cons ⟨_, rfl⟩ (.nil))))⟩), ⟨_, _, rfl, rp_ints (is := [1, 1, 1, 1]) (.inr ⟨_, _, _, l_WAYS_12, ⟨rfl, rfl⟩, rfl, by show 4 ≤ sizeLine; rw [sizeLine_eq]; decide, .cons ⟨_, rfl⟩ (.cons ⟨_, rfl⟩ (.cons ⟨_, rfl⟩ (.cons ⟨_, rfl⟩ (.nil))))⟩), rfl⟩⟩⟩⟩⟩⟩⟩⟩⟩⟩⟩⟩⟩⟩
  have M_END_COUNTS := PySem.W.mg_of X G a_END_COUNTS
  have K_END_COUNTS : KD K w c_END_COUNTS tb_END_COUNTS := ⟨[("point", .int (1)), ("stretch", .int (2))], ⟨_, _, _, l_END_COUNTS, rfl, rfl, rfl, rfl, ⟨rfl, ⟨_, rfl⟩, ⟨_, rfl⟩, ⟨rfl, ⟨_, rfl⟩, ⟨_, rfl⟩, True.intro⟩⟩, by show List.Nodup (["point", "stretch"] : List Str); decide +kernel, y_END_COUNTS⟩, fun Z m H => ⟨_, _, rfl, by simp only [RP], ⟨_, _, rfl, by simp only [RP], rfl⟩⟩⟩
  have m_tuple := PySem.W.mg_none_of X G z_tuple
  have m_sorted := PySem.W.mg_none_of X G z_sorted
  have m_list := PySem.W.mg_none_of X G z_list
  have m_len := PySem.W.mg_none_of X G z_len
  have m_int := PySem.W.mg_none_of X G z_int
  have m_range := PySem.W.mg_none_of X G z_range
  have m_dict := PySem.W.mg_none_of X G z_dict
  have m_min := PySem.W.mg_none_of X G z_min
  have m_max := PySem.W.mg_none_of X G z_max
  have m_set := PySem.W.mg_none_of X G z_set
  have m_repr := PySem.W.mg_none_of X G z_repr
  refine ⟨PySem.W.fnOf "law" "law" (defArgs s_law) (defBody s_law) (defScope s_law) .none kV_13 dc_13 pm_13 an_13 cd_13 ct_13, fun s v => .of_eq rfl, fun base _ _ => ?_⟩
  have C__law_feed := ok__law_feed (P := l.prog) (w := w) (mg := mg) (base := base) F__law_feed m_list vc__law_feed
  have C__law_draw := ok__law_draw (P := l.prog) (w := w) (mg := mg) (base := base) F__law_draw m_len vc__law_draw
  have C__law_order := ok__law_order (P := l.prog) (w := w) (mg := mg) (base := base) F__law_order vc__law_order
  have C__law_words := ok__law_words (P := l.prog) (w := w) (mg := mg) (base := base) F__law_words F__law_order B__law_order M__law_order C__law_order vc__law_words
  have C__law_some := ok__law_some (P := l.prog) (w := w) (mg := mg) (base := base) F__law_some F__law_draw B__law_draw M__law_draw C__law_draw F__law_words B__law_words M__law_words C__law_words m_tuple vc__law_some
  have C__law_signs := ok__law_signs (P := l.prog) (w := w) (mg := mg) (base := base) F__law_signs m_int m_range vc__law_signs
  have C__law_lays := ok__law_lays (P := l.prog) (w := w) (mg := mg) (base := base) F__law_lays F__law_signs B__law_signs M__law_signs C__law_signs m_dict vc__law_lays
  have C__law_around := ok__law_around (P := l.prog) (w := w) (mg := mg) (base := base) F__law_around F__law_lays B__law_lays M__law_lays C__law_lays F__law_words B__law_words M__law_words C__law_words m_len m_min m_max m_tuple vc__law_around
  have C__law_drawn := ok__law_drawn (P := l.prog) (w := w) (mg := mg) (base := base) F__law_drawn F__law_draw B__law_draw M__law_draw C__law_draw F__law_words B__law_words M__law_words C__law_words F__law_some B__law_some M__law_some C__law_some F__law_around B__law_around M__law_around C__law_around m_tuple m_len vc__law_drawn
  have C__law_due := ok__law_due (P := l.prog) (w := w) (mg := mg) (base := base) F__law_due F__law_lays B__law_lays M__law_lays C__law_lays m_tuple m_sorted m_set vc__law_due
  have C_ways_by := ok_ways_by (P := l.prog) (w := w) (mg := mg) (base := base) F_ways_by M_WAYS K_WAYS vc_ways_by
  have C_how_ends := ok_how_ends (P := l.prog) (w := w) (mg := mg) (base := base) F_how_ends F_ways_by B_ways_by M_ways_by C_ways_by M_END_COUNTS K_END_COUNTS vc_how_ends
  have C_signs_in := ok_signs_in (P := l.prog) (w := w) (mg := mg) (base := base) F_signs_in F_how_ends B_how_ends M_how_ends C_how_ends m_tuple m_sorted vc_signs_in
  exact ok_law F_law F__law_feed B__law_feed M__law_feed C__law_feed F__law_draw B__law_draw M__law_draw C__law_draw F__law_drawn B__law_drawn M__law_drawn C__law_drawn F__law_due B__law_due M__law_due C__law_due F_signs_in B_signs_in M_signs_in C_signs_in m_int m_repr m_range vc_law
theorem walk {l : PySem.W.OpenLaw} {q : Program} {loose : List Str} {XP : (Str → Option Value) → Heap → Prop} {YP : World → Heap → Prop} {d : DefRec} {K : Params → PySem.W.Frag} (hn : l.most = some 63) (hdf : d.params.defaults = [])
    (hY : ∀ (w : World) (h : Heap), YP w h → (K w.params).In h)
    (F : ∀ (w : World) (mg : Str → Option Value) (fa : Addr) (h : Heap), (K w.params).In h → h.Ns mainGlobals mg → mg d.name = some (.ref fa) →
      ∃ fd : FuncData, (∀ (s : Shared) (u : Value), BindsTo s fd ⟨[u], []⟩ [("_law_script", u)]) ∧ ∀ base : Heap, (K w.params).In base → base.Ns mainGlobals mg → FnOk l.prog w (K w.params) mg base CX0 5 fa fd ["_law_script"] (LSp (K w.params) 1 sp_law)) :
    PySem.W.WalkO q loose XP YP l.row.toRowW d [] (fun f vs => PySem.call f vs) :=
  L2.walk_of (n := 63) (k := 5) (x := "_law_script") (CX := fun _ => CX0) (sp := fun w => LSp (K w.params) 1 sp_law) hn (by decide) hdf ⟨rfl, rfl, by decide, by decide⟩ hY F (fun _ _ a ns hl _ hS => lsp_law hS ⟨ns, rfl, hl, fun _ => rfl⟩) fun _ _ _ _ _ z => z
end K37
open PySem PySem.W PyProof.Rows
set_option maxRecDepth 100000 in
set_option maxHeartbeats 0 in
theorem PySem.Challenge.cw_whens_k37_signs_of_mays_holds : PySem.Challenge.rw_whens_k37_signs_of_mays.Holds := by
  w_on; o_law; k_head; (case hw => w_witness2)
  k_fill
  refine K37.walk (l := PySem.Challenge.rw_whens_k37_signs_of_mays) rfl rfl (fun w h Y => PySem.W.kIn_of Y) ?F
  case F =>
    intro w mg fa h KX G hmg
    refine' K37.all_mk KX G hmg ?a0 ?l0 ?c0 ?k0 ?a1 ?l1 ?c1 ?k1 ?a2 ?l2 ?c2 ?k2 ?a3 ?l3 ?c3 ?k3 ?a4 ?l4 ?c4 ?k4 ?a5 ?l5 ?c5 ?k5 ?a6 ?l6 ?c6 ?k6 ?a7 ?l7 ?c7 ?k7 ?a8 ?l8 ?c8 ?k8 ?a9 ?l9 ?c9 ?k9 ?a10 ?l10 ?c10 ?k10 ?a11 ?l11 ?c11 ?k11 ?a12 ?l12 ?c12 ?k12 ?a13 ?l13 ?c13 ?k13 ?a_WAYS ?l_WAYS ?l_WAYS_0 ?l_WAYS_1 ?l_WAYS_2 ?l_WAYS_3 ?l_WAYS_4 ?l_WAYS_5 ?l_WAYS_6 ?l_WAYS_7 ?l_WAYS_8 ?l_WAYS_9 ?l_WAYS_10 ?l_WAYS_11 ?l_WAYS_12 ?y_WAYS ?a_END_COUNTS ?l_END_COUNTS ?y_END_COUNTS ?z_tuple ?z_sorted ?z_list ?z_len ?z_int ?z_range ?z_dict ?z_min ?z_max ?z_set ?z_repr
    (case a0 => k_is)
    (case l0 => k_is)
    (case c0 => k_is)
    (case k0 => k_is)
    (case a1 => k_is)
    (case l1 => k_is)
    (case c1 => k_is)
    (case k1 => k_is)
    (case a2 => k_is)
    (case l2 => k_is)
    (case c2 => k_is)
    (case k2 => k_is)
    (case a3 => k_is)
    (case l3 => k_is)
    (case c3 => k_is)
    (case k3 => k_is)
    (case a4 => k_is)
    (case l4 => k_is)
    (case c4 => k_is)
    (case k4 => k_is)
    (case a5 => k_is)
    (case l5 => k_is)
    (case c5 => k_is)
    (case k5 => k_is)
    (case a6 => k_is)
    (case l6 => k_is)
    (case c6 => k_is)
    (case k6 => k_is)
    (case a7 => k_is)
    (case l7 => k_is)
    (case c7 => k_is)
    (case k7 => k_is)
    (case a8 => k_is)
    (case l8 => k_is)
    (case c8 => k_is)
    (case k8 => k_is)
    (case a9 => k_is)
    (case l9 => k_is)
    (case c9 => k_is)
    (case k9 => k_is)
    (case a10 => k_is)
    (case l10 => k_is)
    (case c10 => k_is)
    (case k10 => k_is)
    (case a11 => k_is)
    (case l11 => k_is)
    (case c11 => k_is)
    (case k11 => k_is)
    (case a12 => k_is)
    (case l12 => k_is)
    (case c12 => k_is)
    (case k12 => k_is)
    (case a13 => k_is)
    (case l13 => k_is)
    (case c13 => k_is)
    (case k13 => k_is)
    (case a_WAYS => k_is)
    (case l_WAYS => k_is)
    (case l_WAYS_0 => k_is)
    (case l_WAYS_1 => k_is)
    (case l_WAYS_2 => k_is)
    (case l_WAYS_3 => k_is)
    (case l_WAYS_4 => k_is)
    (case l_WAYS_5 => k_is)
    (case l_WAYS_6 => k_is)
    (case l_WAYS_7 => k_is)
    (case l_WAYS_8 => k_is)
    (case l_WAYS_9 => k_is)
    (case l_WAYS_10 => k_is)
    (case l_WAYS_11 => k_is)
    (case l_WAYS_12 => k_is)
    (case y_WAYS => rfl)
    (case a_END_COUNTS => k_is)
    (case l_END_COUNTS => k_is)
    (case y_END_COUNTS => rfl)
    (case z_tuple => k_is)
    (case z_sorted => k_is)
    (case z_list => k_is)
    (case z_len => k_is)
    (case z_int => k_is)
    (case z_range => k_is)
    (case z_dict => k_is)
    (case z_min => k_is)
    (case z_max => k_is)
    (case z_set => k_is)
    (case z_repr => k_is)
#print axioms PySem.Challenge.cw_whens_k37_signs_of_mays_holds
