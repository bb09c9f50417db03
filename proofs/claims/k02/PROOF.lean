import PyProof.Rows.All
import Wide.All
import OpenK.AllK
import Wide.FinOn
import Lean
import PyProof.EqAt
import PyProof.EqKinds
import PyProof.TupleCall
import PyProof.ZipIter
import KE.KDictSum
import PyProof.Rows.SortStr
import PyProof.Rows.TupAdd
import PyProof.TupleOfGen
import PySem.Challenge.RW_quirehand_k02_rules_refused

set_option Elab.async false
set_option linter.all false
set_option bootstrap.genMatcherCode false
set_option genSizeOfSpec false
set_option maxRecDepth 100000
namespace L2
open PySem PySem.Spec PyProof.Rows
theorem au0 (h : True := by first | exact .inl rfl | exact .inr rfl | assumption) : True := trivial
theorem au1 (h : True := by decide) : True := trivial
theorem au2 (h : True := by intro _; rfl) : True := trivial
theorem au3 (h : True := by rfl) : True := trivial
theorem au4 (h : True := by with_unfolding_all rfl) : True := trivial
theorem au5 (h : True := by first | exact Or.inl rfl | exact Or.inr (Or.inl rfl) | exact Or.inr (Or.inr rfl)) : True := trivial
theorem au6 (h : True := by exact fun _ _ => rfl) : True := trivial
theorem au7 (h : True := by first | exact Or.inl rfl | exact Or.inr rfl) : True := trivial
theorem au8 (h : True := by size_fits) : True := trivial
theorem au9 (h : True := by exact rfl) : True := trivial
inductive Key where
  | inl (i : Int) | inr (x : Str) | non
  deriving DecidableEq
noncomputable def isNoneV : Value -> Bool
  | .none => true
  | _ => false
noncomputable def keyIs : Key -> Value -> Bool
  | .inl k, v => Value.isInt k v
  | .inr x, v => Value.isStrOf x v
  | .non, v => isNoneV v
noncomputable def keyH (w : World) : Key -> Int
  | .inl k => hashInt k
  | .inr x => hashStr w x
  | .non => 0xFCA86420
theorem isNoneV_shape {v : Value} (h : isNoneV v = true) : v = .none := by cases v <;> first | rfl | cases h
theorem keyIs_shape : ∀ {k : Key} {v : Value}, keyIs k v = true -> (∃ i t, k = Key.inl i /\ v = Value.int i t) \/ (∃ x t, k = Key.inr x /\ v = Value.str x t) \/ (k = Key.non /\ v = Value.none)
  | .inl i, v, h => by
    obtain ⟨t, e⟩ := Value.isInt_shape (k := i) (v := v) h
    exact .inl ⟨i, t, rfl, e⟩
  | .inr x, v, h => by
    obtain ⟨t, e⟩ := Value.isStrOf_shape (x := x) (v := v) h
    exact .inr (.inl ⟨x, t, rfl, e⟩)
  | .non, v, h => .inr (.inr ⟨rfl, isNoneV_shape h⟩)
theorem keyIs_int (i : Int) (t : Tok) : keyIs (.inl i) (.int i t) = true := by simp [keyIs, Value.isInt]
theorem keyIs_str (x : Str) (t : Tok) : keyIs (.inr x) (.str x t) = true := by simp [keyIs, Value.isStrOf]
theorem key_ll (a b : Int) : decide (Key.inl a = Key.inl b) = (a == b) := by
  by_cases e : a = b
  · subst e; simp
  · have h : ¬ Key.inl a = Key.inl b := fun q => e (Key.inl.inj q)
    rw [decide_eq_false h]
    exact (beq_eq_false_iff_ne.mpr e).symm
theorem key_rr (a b : Str) : decide (Key.inr a = Key.inr b) = decide (a = b) := by
  by_cases e : a = b
  · subst e; simp
  · have h : ¬ Key.inr a = Key.inr b := fun q => e (Key.inr.inj q)
    rw [decide_eq_false h, decide_eq_false e]
theorem slot_none_hash : Slot "NoneType" "__hash__" "NoneType.__hash__" :=
  .of (owner := "NoneType") (n := "__hash__") (by rw [typeLookup_type]; rw [builtinLookup_eq_fast]; kernel_rfl) (by decide +kernel) (by decide +kernel) (by decide +kernel)
    (by first | exact .inl (by decide +kernel) | exact .inr (by decide +kernel)) (by rw [isSubtype_type] ; kernel_rfl)
theorem entry_none_hash : entryFor table "NoneType.__hash__" = some Builtin.«NoneType.__hash__» := entryFor_of_fast (by kernel_rfl)
theorem args_none_hash (a : Value) : argsOk "NoneType.__hash__" ⟨[a], []⟩ := by unfold argsOk; kernel_rfl
theorem hash_none {prog : Program} {w : World} {A : Around} {E : Value -> Shared -> Prop} {s : Shared} {Q : Int -> Shared -> Prop} (h : Q 0xFCA86420 { s with toks := s.toks + 1 }) : wpAny (model prog w) A (pyHash .none) Q E s := by
  have hT : s.TypeIs .none "NoneType" := rfl
  show wpAny _ _ (pyHashByItsType .none) Q E s
  unfold pyHashByItsType
  refine wpAny_bind ?_
  rw [cRoomFor, if_neg (by decide)]
  refine wpAny_pure (wpAny_bind (wpAny_specialOf hT slot_none_hash.lookup ?_))
  rw [if_neg (by decide)]
  refine wpAny_bind (wpAny_specialOf hT slot_none_hash.lookup ?_)
  rw [if_neg (by decide)]
  refine wpAny_bind (wpAny_callSpecialIfBoundUnlessNone?_slot hT slot_none_hash (wpAny_call_entry slot_none_hash hT entry_none_hash ?_ (args_none_hash _)))
  show wpAny _ _ (do ret (<- mkInt 0xFCA86420)) _ _ s
  refine wpAny_ret_mkInt ?_
  show wpAny _ _ (pyHashByItsType.reduced 0xFCA86420) Q E _
  unfold pyHashByItsType.reduced
  rw [if_pos (by decide)]
  exact wpAny_pure h
noncomputable def mixKind (prog : Program) (w : World) : PySem.KeyKind prog w Key where
  is := keyIs
  hash := keyH w
  inj := fun v a b ha hb => by
    rcases keyIs_shape ha with ⟨i, t, rfl, rfl⟩ | ⟨x, t, rfl, rfl⟩ | ⟨rfl, rfl⟩
    · rcases keyIs_shape hb with ⟨j, u, rfl, e⟩ | ⟨y, u, rfl, e⟩ | ⟨rfl, e⟩
      · injection e with e1 _; rw [e1]
      · exact nomatch e
      · exact nomatch e
    · rcases keyIs_shape hb with ⟨j, u, rfl, e⟩ | ⟨y, u, rfl, e⟩ | ⟨rfl, e⟩
      · exact nomatch e
      · injection e with e1 _; rw [e1]
      · exact nomatch e
    · rcases keyIs_shape hb with ⟨j, u, rfl, e⟩ | ⟨y, u, rfl, e⟩ | ⟨rfl, e⟩
      · exact nomatch e
      · exact nomatch e
      · rfl
  byValue := fun k v h => by
    rcases keyIs_shape h with ⟨i, t, rfl, rfl⟩ | ⟨x, t, rfl, rfl⟩ | ⟨rfl, rfl⟩ <;> rfl
  pyHash := fun hv h => by
    rcases keyIs_shape hv with ⟨i, t, rfl, rfl⟩ | ⟨x, t, rfl, rfl⟩ | ⟨rfl, rfl⟩
    · exact wpAny_pyHash_int h
    · exact wpAny_pyHash_str h
    · exact hash_none h
  eqBool := fun hu hv h => by
    rcases keyIs_shape hu with ⟨i, t, rfl, rfl⟩ | ⟨x, t, rfl, rfl⟩ | ⟨rfl, rfl⟩
    · rcases keyIs_shape hv with ⟨j, u, rfl, rfl⟩ | ⟨y, u, rfl, rfl⟩ | ⟨rfl, rfl⟩
      · rw [key_ll] at h; exact wpAny_eqBool_int h
      · rw [decide_eq_false (by intro q; cases q)] at h; exact SeqAt.EqAt.int_str i t y u _ _ _ _ h
      · rw [decide_eq_false (by intro q; cases q)] at h; exact SeqAt.EqAt.int_none i t _ _ _ _ h
    · rcases keyIs_shape hv with ⟨j, u, rfl, rfl⟩ | ⟨y, u, rfl, rfl⟩ | ⟨rfl, rfl⟩
      · rw [decide_eq_false (by intro q; cases q)] at h; exact SeqAt.EqAt.str_int x t j u _ _ _ _ h
      · rw [key_rr] at h; exact wpAny_eqBool_str h
      · rw [decide_eq_false (by intro q; cases q)] at h; exact SeqAt.EqAt.str_none x t _ _ _ _ h
    · rcases keyIs_shape hv with ⟨j, u, rfl, rfl⟩ | ⟨y, u, rfl, rfl⟩ | ⟨rfl, rfl⟩
      · rw [decide_eq_false (by intro q; cases q)] at h; exact SeqAt.EqAt.none_int j u _ _ _ _ h
      · rw [decide_eq_false (by intro q; cases q)] at h; exact SeqAt.EqAt.none_str y u _ _ _ _ h
      · rw [decide_eq_true rfl] at h; exact SeqAt.EqAt.same .none _ _ _ _ h
  «strs» := fun k x t v h => by
    rcases keyIs_shape h with ⟨i, u, rfl, e⟩ | ⟨y, u, rfl, e⟩ | ⟨rfl, e⟩
    · exact nomatch e
    · injection e with e1 _
      subst e1
      cases v <;> rfl
    · exact nomatch e
theorem mixKind_int (prog : Program) (w : World) (i : Int) (t : Tok) : (mixKind prog w).is (.inl i) (.int i t) = true := keyIs_int i t
theorem mixKind_str (prog : Program) (w : World) (x : Str) (t : Tok) : (mixKind prog w).is (.inr x) (.str x t) = true := keyIs_str x t
theorem mixKind_non (prog : Program) (w : World) : (mixKind prog w).is .non .none = true := rfl
end L2
namespace L2
open PySem PySem.Spec PyProof.Rows
inductive V where
  | non | bl (b : Bool) | int (i : Int) | str (x : Str) | byt (b : Array UInt8) | flt (b : UInt64) | ref (a : Addr) | ty (n : String)
  deriving DecidableEq
noncomputable def RelV : V -> Value -> Prop
  | .non, u => u = Value.none
  | .bl b, u => u = Value.bool b
  | .int i, u => ∃ t, u = Value.int i t
  | .str x, u => ∃ t, u = Value.str x t
  | .byt b, u => ∃ t, u = Value.bytes b t
  | .flt b, u => ∃ t, u = Value.float b t
  | .ref a, u => u = Value.ref a
  | .ty n, u => u = Value.type n
noncomputable abbrev Vals : List V -> List Value -> Prop := Paired RelV
theorem Vals.length {xs : List V} {us : List Value} (r : Vals xs us) : xs.length = us.length := Paired.length r
theorem Vals.get : ∀ {xs : List V} {us : List Value} {i : Nat} {x : V}, Vals xs us -> xs[i]? = some x -> ∃ u, us[i]? = some u /\ RelV x u
  | _, _, _, _, .nil, e => by simp at e
  | _, _, 0, _, .cons r _, e => by simp at e; subst e; exact ⟨_, rfl, r⟩
  | _, _, i + 1, x, .cons _ t, e => by
    obtain ⟨u, h1, h2⟩ := Vals.get (i := i) (x := x) t (by simpa using e)
    exact ⟨u, by simpa using h1, h2⟩
theorem Vals.set {x : V} {u : Value} (r : RelV x u) : ∀ {xs : List V} {us : List Value} (i : Nat), Vals xs us -> Vals (xs.set i x) (us.set i u)
  | _, _, _, .nil => .nil
  | _, _, 0, .cons _ t => .cons r t
  | _, _, i + 1, .cons q t => .cons q (Vals.set r i t)
theorem Vals.append : ∀ {xs ys : List V} {us ws : List Value}, Vals xs us -> Vals ys ws -> Vals (xs ++ ys) (us ++ ws)
  | _, _, _, _, .nil, s => s
  | _, _, _, _, .cons r t, s => .cons r (Vals.append t s)
theorem Vals.take : ∀ {xs : List V} {us : List Value} (n : Nat), Vals xs us -> Vals (xs.take n) (us.take n)
  | _, _, 0, _ => .nil
  | _, _, _ + 1, .nil => .nil
  | _, _, n + 1, .cons r t => .cons r (Vals.take n t)
theorem Vals.drop : ∀ {xs : List V} {us : List Value} (n : Nat), Vals xs us -> Vals (xs.drop n) (us.drop n)
  | _, _, 0, r => r
  | _, _, _ + 1, .nil => .nil
  | _, _, n + 1, .cons _ t => Vals.drop n t
noncomputable def RelO : Option V -> Option Value -> Prop
  | some v, some u => RelV v u
  | none, none => True
  | _, _ => False
noncomputable def KV {κ : Type} : List (κ × V) -> List (κ × Value) -> Prop := Paired fun (p : κ × V) (q : κ × Value) => p.1 = q.1 /\ RelV p.2 q.2
noncomputable def kV : Key -> V
  | .inl i => .int i
  | .inr x => .str x
  | .non => .non
noncomputable def TupN (h : Heap) (a : Addr) (items : Array Value) : Prop := ∃ o, h.get? a = some o /\ o.cls = .type "tuple" /\ (o.dict = none /\ o.slots = #[]) /\ ∃ n, o.data = .seq items n
theorem TupN.tup {h : Heap} {a : Addr} {items : Array Value} (x : TupN h a items) : IsTup h a items := let ⟨o, ho, hc, _, n, hd⟩ := x; ⟨o, ho, hc, n, hd⟩
theorem TupN.lt {h : Heap} {a : Addr} {items : Array Value} (x : TupN h a items) : a < h.objs.size := x.tup.lt
theorem TupN.new (h : Heap) (items : Array Value) : TupN (h.push { cls := .type "tuple", data := .seq items }) h.objs.size items := ⟨_, Heap.get?_push_size _ rfl, rfl, ⟨rfl, rfl⟩, _, rfl⟩
inductive HO where
    | lst (xs : List V)
    | tup (xs : List V)
    | dK (kvs : List (Key × V)) | dT (kvs : List (List Key × V))
    | set (S : Int -> Bool) (n : Nat)
    | ins (C dx : Addr) (fs : List (Str × V))
    | own (x : Addr)
    | xd (fs : List (Str × V))
    | met (f x : Addr)
    | rng (lo hi : Int)
    | frz (o : Obj) (u : HO)
    | tbl (ps : Array Value)
    | ext (φ : Heap -> Prop)
noncomputable abbrev Hp := Addr -> Option HO
noncomputable def upd (H : Hp) (a : Addr) (o : HO) : Hp := fun b => if b = a then some o else H b
theorem upd_same {H : Hp} {a : Addr} {o : HO} : upd H a o a = some o := by unfold upd; rw [if_pos rfl]
theorem upd_ne {H : Hp} {a b : Addr} {o : HO} (h : b ≠ a) : upd H a o b = H b := by unfold upd; rw [if_neg h]
theorem ne_of {H : Hp} {a b : Addr} {o u : HO} (h : H a = some o) (h' : H b = some u) (d : o ≠ u) : a ≠ b := by
  intro e; subst e; rw [h] at h'; exact d (Option.some.inj h')
theorem ne_of_none {H : Hp} {a b : Addr} {o : HO} (h : H a = some o) (h' : H b = none) : a ≠ b := by
  intro e; subst e; rw [h] at h'; cases h'
section
variable (P : Program) (w : World)
noncomputable def ObjOk (H : Hp) (h : Heap) (a : Addr) : HO -> Prop
  | .lst xs => xs.length <= sizeLine /\ ∃ (its : List Value) (n : Nat), Vals xs its /\ h.get? a = some { cls := .type "list", data := .seq its.toArray n }
  | .tup xs => xs.length <= sizeLine /\ ∃ its : List Value, Vals xs its /\ TupN h a its.toArray
  | .dK kvs => kvs.length <= sizeLine /\ (a == sysModules) = false /\ ∃ vs, KV kvs vs /\ h.DictOf (mixKind P w) a vs
  | .dT kvs => kvs.length <= sizeLine /\ (a == sysModules) = false /\ ∃ xs : List (List Key × Addr × Value),
      Paired (fun (p : List Key × V) (q : List Key × Addr × Value) => p.1 = q.1 /\ H q.2.1 = some (.tup (p.1.map kV)) /\ RelV p.2 q.2.2) kvs xs /\
      ∃ o es ep, h.get? a = some o /\ o.ExactDict /\ o.data = .dict es ep /\ es.toList = xs.map (entryOfKey (tupleKind (mixKind P w))) /\ (xs.map (·.1)).Nodup
  | .set S n => h.SetOf (intKind P w) a S n
  | .ins C dx fs => H dx = some (.own a) /\ fs.length <= 1000 /\ dx ≠ a /\ h.get? a = some (PySem.W.instObj C dx) /\
      ∃ mA, h.Ns1 dx mA /\ (∀ f, RelO (fs.lookup f) (mA f)) /\ PySem.Within mA (fs.map (·.1))
  | .own _ => ∃ o, h.get? a = some o
  | .xd fs => ∃ mA, h.Ns1 a mA /\ ∀ f, RelO (fs.lookup f) (mA f)
  | .rng lo hi => ∃ t u v, h.get? a = some { cls := .type "range", data := .fields #[.int lo t, .int hi u, .int 1 v] }
  | .frz o u => h.get? a = some o /\ ObjOk H h a u
  | .tbl ps => h.get? a = some { cls := .none, data := .fields ps }
  | .met f x => h.get? a = some (PySem.W.methodObj (.ref f) (.ref x))
  | .ext φ => φ h /\ (∃ o, h.get? a = some o) /\ ∀ h1 h2 : Heap, φ h1 -> (∀ o, h1.get? a = some o -> h2.get? a = some o) -> φ h2
noncomputable def HOk (H : Hp) (h : Heap) : Prop := ∀ a o, H a = some o -> ObjOk P w H h a o
end
section
variable {P : Program} {w : World} {H H' : Hp} {h h' : Heap} {a : Addr} {o : HO}
theorem ObjOk.lt (x : ObjOk P w H h a o) : a < h.objs.size := by
  cases o with
  | lst xs => obtain ⟨_, _, _, _, e⟩ := x; exact Heap.lt_size e
  | tup xs => obtain ⟨_, _, _, p⟩ := x; exact p.lt
  | dK kvs => obtain ⟨_, _, _, _, o, _, _, e, _⟩ := x; exact Heap.lt_size e
  | dT kvs => obtain ⟨_, _, _, _, o, _, _, e, _⟩ := x; exact Heap.lt_size e
  | set S n => obtain ⟨o, _, _, _, e, _⟩ := x; exact Heap.lt_size e
  | ins C dx fs => obtain ⟨_, _, _, e, _⟩ := x; exact Heap.lt_size e
  | own y => obtain ⟨_, e⟩ := x; exact Heap.lt_size e
  | xd fs => obtain ⟨_, ⟨_, _, _, e, _⟩, _⟩ := x; exact Heap.lt_size e
  | rng lo hi => obtain ⟨_, _, _, e⟩ := x; exact Heap.lt_size e
  | frz ob u => obtain ⟨e, _⟩ := x; exact Heap.lt_size e
  | tbl ps => exact Heap.lt_size (show h.get? a = some _ from x)
  | met f y => exact Heap.lt_size (show h.get? a = some _ from x)
  | ext φ => obtain ⟨_, ⟨_, e⟩, _⟩ := x; exact Heap.lt_size e
theorem Paired.mapP {α β : Type} {F G : α -> β -> Prop} : ∀ {l₁ : List α} {l₂ : List β}, Paired F l₁ l₂ -> (∀ a b, F a b -> G a b) -> Paired G l₁ l₂
  | _, _, .nil, _ => .nil
  | _, _, .cons r t, f => .cons (f _ _ r) (Paired.mapP t f)
theorem ObjOk.stay (x : ObjOk P w H h a o) (k : ∀ b u, (b = a \/ H b = some (.own a)) -> h.get? b = some u -> h'.get? b = some u)
    (ho : ∀ b, H b = some (.own a) -> H' b = some (.own a)) (ht : ∀ b xs, H b = some (.tup xs) -> H' b = some (.tup xs)) : ObjOk P w H' h' a o := by
  induction o with
  | lst xs => obtain ⟨z, its, n, r, e⟩ := x; exact ⟨z, its, n, r, k _ _ (.inl rfl) e⟩
  | tup xs => obtain ⟨z, its, r, ob, e, c⟩ := x; exact ⟨z, its, r, ob, k _ _ (.inl rfl) e, c⟩
  | dK kvs => obtain ⟨z, y, vs, r, ob, es, ep, e, c⟩ := x; exact ⟨z, y, vs, r, ob, es, ep, k _ _ (.inl rfl) e, c⟩
  | dT kvs =>
    obtain ⟨z, y, xs, r, ob, es, ep, e, c⟩ := x
    exact ⟨z, y, xs, Paired.mapP r fun p q z => ⟨z.1, ht _ _ z.2.1, z.2.2⟩, ob, es, ep, k _ _ (.inl rfl) e, c⟩
  | set S n => obtain ⟨ob, es, ep, t, e, c⟩ := x; exact ⟨ob, es, ep, t, k _ _ (.inl rfl) e, c⟩
  | ins C dx fs =>
    obtain ⟨d, z, ne, e, mA, ⟨od, es, ep, e2, c⟩, r⟩ := x
    exact ⟨ho _ d, z, ne, k _ _ (.inl rfl) e, mA, ⟨od, es, ep, k _ _ (.inr d) e2, c⟩, r⟩
  | own y => obtain ⟨ob, e⟩ := x; exact ⟨ob, k _ _ (.inl rfl) e⟩
  | xd fs => obtain ⟨mA, ⟨od, es, ep, e, c⟩, r⟩ := x; exact ⟨mA, ⟨od, es, ep, k _ _ (.inl rfl) e, c⟩, r⟩
  | rng lo hi => obtain ⟨t, u, v, e⟩ := x; exact ⟨t, u, v, k _ _ (.inl rfl) e⟩
  | frz ob u ih => obtain ⟨e, q⟩ := x; exact ⟨k _ _ (.inl rfl) e, ih q⟩
  | tbl ps =>
    have e : h.get? a = some { cls := .none, data := .fields ps } := x
    show h'.get? a = some { cls := .none, data := .fields ps }
    exact k a _ (.inl rfl) e
  | met f y =>
    have e : h.get? a = some (PySem.W.methodObj (.ref f) (.ref y)) := x
    show h'.get? a = some (PySem.W.methodObj (.ref f) (.ref y))
    exact k a _ (.inl rfl) e
  | ext φ => obtain ⟨p, ⟨o, e⟩, st⟩ := x; exact ⟨st _ _ p fun o q => k _ _ (.inl rfl) q, ⟨o, k _ _ (.inl rfl) e⟩, st⟩
theorem HOk.lt (x : HOk P w H h) (e : H a = some o) : a < h.objs.size := (x a o e).lt
theorem HOk.fresh (x : HOk P w H h) (e : h.objs.size <= a) : H a = none := by
  cases q : H a with
  | none => rfl
  | some u => exact absurd (Nat.lt_of_lt_of_le (x.lt q) e) (Nat.lt_irrefl _)
theorem HOk.kept (x : HOk P w H h) (k : ∀ b u, h.get? b = some u -> h'.get? b = some u) : HOk P w H h' := fun a o e =>
  (x a o e).stay (fun b u _ q => k b u q) (fun _ q => q) fun _ _ q => q
theorem HOk.laid (x : HOk P w H h) (k : ∀ b u, h.get? b = some u -> h'.get? b = some u) (hp : h.objs.size <= a) (new : ObjOk P w (upd H a o) h' a o) : HOk P w (upd H a o) h' := fun b u e => by
  have hn := x.fresh hp
  by_cases hb : b = a
  · subst hb; rw [upd_same] at e; cases e; exact new
  · rw [upd_ne hb] at e
    exact (x b u e).stay (fun c v _ q => k c v q) (fun c q => by rw [upd_ne (ne_of_none q hn)]; exact q) fun c xs q => by rw [upd_ne (ne_of_none q hn)]; exact q
end
noncomputable def Rd (H : Hp) (a : Addr) (u : HO) : Prop := H a = some u \/ ∃ o, H a = some (.frz o u)
theorem Rd.of {H : Hp} {a : Addr} {u : HO} (h : H a = some u) : Rd H a u := .inl h
theorem Rd.ok {P : Program} {w : World} {H : Hp} {h : Heap} {a : Addr} {u : HO} (r : Rd H a u) (x : HOk P w H h) : ObjOk P w H h a u := by
  rcases r with r | ⟨o, r⟩
  · exact x a u r
  · obtain ⟨_, q⟩ := x a _ r
    exact q
noncomputable def Mut : Option HO -> Prop
  | some (.lst _) => True
  | some (.dK _) => True
  | some (.dT _) => True
  | some (.set _ _) => True
  | some (.ins _ _ _) => True
  | some (.ext _) => True
  | _ => False
section
variable {P : Program} {w : World} {H : Hp} {h h' : Heap} {x e : Addr} {o' : HO}
theorem HOk.write (ok : HOk P w H h) (mu : Mut (H x)) (he : e = x \/ H e = some (.own x)) (k : ∀ b u, b ≠ e -> h.get? b = some u -> h'.get? b = some u) (heo : ∃ u, h'.get? e = some u)
    (new : ObjOk P w (upd H x o') h' x o') : HOk P w (upd H x o') h' := fun b u q => by
  have nown : ∀ c y, H c = some (.own y) -> c ≠ x := fun c y r z => by subst z; rw [r] at mu; exact mu
  have ntup : ∀ c xs, H c = some (.tup xs) -> c ≠ x := fun c xs r z => by subst z; rw [r] at mu; exact mu
  by_cases hb : b = x
  · subst hb; rw [upd_same] at q; cases q; exact new
  · rw [upd_ne hb] at q
    by_cases hbe : b = e
    · have q' : H b = some (.own x) := by
        rcases he with z | z
        · exact absurd (hbe.trans z) hb
        · rw [hbe]; exact z
      rw [q] at q'; cases q'
      obtain ⟨v, hv⟩ := heo
      exact ⟨v, by rw [hbe]; exact hv⟩
    · refine (ok b u q).stay (fun c v hc r => k c v ?_ r) (fun c r => by rw [upd_ne (nown c b r)]; exact r) fun c xs r => by rw [upd_ne (ntup c xs r)]; exact r
      rcases hc with rfl | hc
      · exact hbe
      · rintro rfl
        rcases he with z | z
        · exact nown c b hc z
        · rw [hc] at z; cases z; exact hb rfl
end
structure Un (fs ex : List Addr) (H H' : Hp) (h h' : Heap) : Prop where
  keep : ∀ b o, h.get? b = some o -> H b = none -> b ∉ fs -> b ∉ ex -> h'.get? b = some o
  slot : ∀ b o, h.get? b = some o -> H b = none -> b ∈ fs -> b ∉ ex -> ∃ sl, h'.get? b = some { o with slots := sl }
  free : ∀ b o, h.get? b = some o -> H b = none -> b ∉ ex -> H' b = none
  there : ∀ b o, h.get? b = some o -> b ∉ ex -> ∃ o', h'.get? b = some o'
  tups : ∀ b xs, H b = some (.tup xs) -> H' b = some (.tup xs)
  frzs : ∀ b o u, H b = some (.frz o u) -> H' b = some (.frz o u)
  tbls : ∀ b ps, H b = some (.tbl ps) -> ∃ more, H' b = some (.tbl (ps ++ more))
section
variable {fs fs' ex ex' : List Addr} {H H1 H2 : Hp} {h h1 h2 h' : Heap} {a x e : Addr} {o : HO}
theorem Un.any (u : Un fs ex H H1 h h1) {b : Addr} {ob : Obj} (q : h.get? b = some ob) (n : H b = none) (hx : b ∉ ex) : ∃ sl, h1.get? b = some { ob with slots := sl } := by
  by_cases hb : b ∈ fs
  · exact u.slot b ob q n hb hx
  · exact ⟨ob.slots, u.keep b ob q n hb hx⟩
theorem Un.trans (a : Un fs ex H H1 h h1) (b : Un fs ex H1 H2 h1 h2) : Un fs ex H H2 h h2 where
  keep := fun c ob q n hc hx => b.keep c ob (a.keep c ob q n hc hx) (a.free c ob q n hx) hc hx
  slot := fun c ob q n hc hx => by
    obtain ⟨sl, e1⟩ := a.slot c ob q n hc hx
    obtain ⟨sl', e2⟩ := b.slot c _ e1 (a.free c ob q n hx) hc hx
    exact ⟨sl', e2⟩
  free := fun c ob q n hx => by
    obtain ⟨o', e1⟩ := a.there c ob q hx
    exact b.free c o' e1 (a.free c ob q n hx) hx
  there := fun c ob q hx => by
    obtain ⟨o', e1⟩ := a.there c ob q hx
    exact b.there c o' e1 hx
  tups := fun c xs q => b.tups c xs (a.tups c xs q)
  frzs := fun c ob xs q => b.frzs c ob xs (a.frzs c ob xs q)
  tbls := fun c ps q => by
    obtain ⟨m1, e1⟩ := a.tbls c ps q
    obtain ⟨m2, e2⟩ := b.tbls c _ e1
    exact ⟨m1 ++ m2, by rw [e2, Array.append_assoc]⟩
theorem Un.kept (k : ∀ b u, h.get? b = some u -> h'.get? b = some u) : Un fs ex H H h h' :=
  ⟨fun b ob q _ _ _ => k b ob q, fun b ob q _ _ _ => ⟨ob.slots, k b ob q⟩, fun _ _ _ n _ => n, fun b ob q _ => ⟨ob, k b ob q⟩, fun _ _ q => q, fun _ _ _ q => q, fun _ ps q => ⟨#[], by rw [q]; simp⟩⟩
theorem Un.refl : Un fs ex H H h h := Un.kept fun _ _ q => q
theorem Un.laid (k : ∀ b u, h.get? b = some u -> h'.get? b = some u) (hp : h.objs.size <= a) (hn : H a = none) : Un fs ex H (upd H a o) h h' where
  keep := fun b u q _ _ _ => k b u q
  slot := fun b u q _ _ _ => ⟨u.slots, k b u q⟩
  free := fun b u q n _ => by rw [upd_ne (Nat.ne_of_lt (Nat.lt_of_lt_of_le (Heap.lt_size q) hp))]; exact n
  there := fun b u q _ => ⟨u, k b u q⟩
  tups := fun b xs q => by rw [upd_ne (ne_of_none q hn)]; exact q
  frzs := fun b u xs q => by rw [upd_ne (ne_of_none q hn)]; exact q
  tbls := fun b ps q => ⟨#[], by rw [upd_ne (ne_of_none q hn), q]; simp⟩
theorem Un.write (mu : Mut (H x)) (he : e = x \/ H e = some (.own x)) (k : ∀ b u, b ≠ e -> h.get? b = some u -> h'.get? b = some u) (heo : ∃ u, h'.get? e = some u) : Un fs ex H (upd H x o) h h' := by
  have hx : ∀ b, H b = none -> b ≠ x := fun b n z => by subst z; rw [n] at mu; exact mu
  have hb : ∀ b, H b = none -> b ≠ e := fun b n z => by
    subst z
    rcases he with r | r
    · exact hx b n r
    · rw [n] at r; cases r
  have hm : ∀ b u, H b = some u -> ¬ Mut (some u) -> b ≠ x := fun b u q nm z => by subst z; rw [q] at mu; exact nm mu
  refine ⟨fun b u q n _ _ => k b u (hb b n) q, fun b u q n _ _ => ⟨u.slots, k b u (hb b n) q⟩, fun b u q n _ => by rw [upd_ne (hx b n)]; exact n, fun b u q _ => ?_,
    fun b xs q => by rw [upd_ne (hm b _ q fun z => z)]; exact q, fun b u xs q => by rw [upd_ne (hm b _ q fun z => z)]; exact q, fun b ps q => ⟨#[], by rw [upd_ne (hm b _ q fun z => z), q]; simp⟩⟩
  by_cases hbe : b = e
  · subst hbe; exact heo
  · exact ⟨u, k b u hbe q⟩
theorem Un.mono (u : Un fs ex H H1 h h1) (hs : ∀ b ∈ fs, b ∈ fs') (hx : ∀ b ∈ ex, b ∈ ex') : Un fs' ex' H H1 h h1 :=
  ⟨fun b ob q n hb he => u.keep b ob q n (fun z => hb (hs b z)) fun z => he (hx b z), fun _ _ q n _ he => u.any q n fun z => he (hx _ z), fun b ob q n he => u.free b ob q n fun z => he (hx b z), fun b ob q he => u.there b ob q fun z => he (hx b z), u.tups, u.frzs, u.tbls⟩
end
noncomputable def trk (h : Heap) (H : Hp) : List Addr := (List.range h.objs.size).filter fun a => (H a).isSome
noncomputable def hidT (h : Heap) (H : Hp) : Heap := PySem.W.hideAll h (trk h H)
theorem hidT_size (h : Heap) (H : Hp) : (hidT h H).objs.size = h.objs.size := PySem.W.hideAll_size _ _
theorem hidT_get {h : Heap} {H : Hp} {b : Addr} {o : Obj} (e : h.get? b = some o) (n : H b = none) : (hidT h H).get? b = some o :=
  PySem.W.hideAll_get _ e fun hm => by
    have q : (H b).isSome = true := (List.mem_filter.mp hm).2
    rw [n] at q; simp at q
theorem of_hidT {h : Heap} {H : Hp} {b : Addr} {o : Obj} (e : (hidT h H).get? b = some o) : h.get? b = some o /\ H b = none := by
  have e' : h.get? b = some o := PySem.W.of_hideAll (trk h H) e
  refine ⟨e', ?_⟩
  cases q : H b with
  | none => rfl
  | some x =>
    have hm : b ∈ trk h H := List.mem_filter.mpr ⟨List.mem_range.mpr (Heap.lt_size e'), by simp [q]⟩
    have z : (hidT h H).get? b = none := PySem.W.hideAll_none (trk h H) hm
    rw [z] at e; cases e
noncomputable def allNews (g h : Heap) (L : Addr) : List (Addr × Obj) := (List.range h.objs.size).filterMap fun a => if a = L \/ (g.get? a).isSome = true then none else (h.get? a).map fun o => (a, o)
noncomputable def rest (g h : Heap) (L d : Addr) : List (Addr × Obj) := (allNews g h L).filter fun p => decide (p.1 ≠ d)
end L2
namespace L2
open PySem PySem.Spec PyProof.Rows
structure Mod (K : PySem.W.Frag) (mg : Str -> Option Value) (base : Heap) : Prop where
  kin : K.In base
  glob : base.Ns mainGlobals mg
  blt : ∃ mb, base.Ns builtinsNs mb /\ ∀ x : Str, x ≠ "__name__" -> mb x = bootBuiltins x
  nolimit : base.NoLimit
structure Cx where
  prog : Program
  w : World
  K : PySem.W.Frag
  mg : Str -> Option Value
  base : Heap
  A : Around
  N : List Str
  s₀ : Shared
  H₀ : Hp
  env : Env
  outer : List Env
  stack : List Env
  ex : List Addr
  fn : Str -> Bool
  calm : Bool
  pn : List (Addr × Obj)
  xe : Value -> Shared -> Prop
noncomputable def frs (l : List Env) : List Addr := l.filterMap (·.frame)
noncomputable abbrev Cx.fs (X : Cx) : List Addr := frs X.outer
noncomputable def Vis (sc : Scope) (x : Str) : Prop := sc.names.lookup x = some .local \/ sc.names.lookup x = some .cell \/ sc.names.lookup x = some .free
noncomputable def Loc (sc : Scope) (x : Str) : Prop := sc.names.lookup x = some .local \/ sc.names.lookup x = some .cell
noncomputable def Look (env : Env) (h : Heap) (m : Str -> Option Value) (x : Str) (u : Value) : Prop :=
  (env.kindOf x = some .local /\ m x = some u) \/ ((env.kindOf x = some .cell \/ env.kindOf x = some .free) /\ ∃ c, env.cells.lookup x = some c /\ h.IsCell c (some u))
structure Cx.Ok (X : Cx) : Prop where
  mod : Mod X.K X.mg X.base
  kind : X.env.scope.kind = .function
  glob : X.env.globals = mainGlobals
  blt : X.env.builtins = builtinsNs
  above : X.s₀.heap.objs.size <= X.env.locals
  inj : ∀ x y c, X.env.cells.lookup x = some c -> X.env.cells.lookup y = some c -> x = y
  has : ∀ x, (X.env.kindOf x = some .cell \/ X.env.kindOf x = some .free) -> ∃ c, X.env.cells.lookup x = some c
  cab : ∀ x c, X.fn x = true -> X.env.cells.lookup x = some c -> X.s₀.heap.objs.size <= c
  hd : X.calm = true -> X.A.handled = none
  frames : X.A.frames = some X.stack
  stk : X.stack = X.outer \/ (X.stack = X.env :: X.outer /\ X.env.frame = some X.env.locals)
  exf : ∀ b ∈ X.ex, b ≠ X.env.locals /\ ∀ x c, X.env.cells.lookup x = some c -> c ≠ b
  bs : ∀ b o, X.base.get? b = some o -> X.s₀.heap.get? b = some o /\ X.H₀ b = none
  bsz : X.base.objs.size <= X.s₀.heap.objs.size
  noex : ∀ b o, X.base.get? b = some o -> b ∉ X.ex
  exfs : ∀ b ∈ X.ex, b ∉ X.fs
  funs : X.s₀.heap.FunFrames X.base X.outer
  frf : ∀ b ∈ X.fs, X.H₀ b = none
structure Inv (X : Cx) (pins : List (Addr × Obj)) (σ : List (Option V)) (H : Hp) (s : Shared) : Prop where
  ok : X.Ok
  os : s.os = X.s₀.os
  bare : AllBare s.gens
  base : Un X.fs X.ex X.H₀ H X.s₀.heap s.heap
  loc : ∃ m, s.heap.Ns X.env.locals m /\ ∀ (i : Nat) (x : Str) (v : V), X.N[i]? = some x -> σ[i]? = some (some v) -> Vis X.env.scope x -> ∃ u, RelV v u /\ Look X.env s.heap m x u
  cell : ∀ x c, X.env.cells.lookup x = some c -> ∃ v, s.heap.IsCell c v
  free : H X.env.locals = none
  freeC : ∀ x c, X.env.cells.lookup x = some c -> H c = none
  pin : ∀ p ∈ X.pn ++ pins, s.heap.get? p.1 = some p.2 /\ H p.1 = none /\ p.1 ≠ X.env.locals /\ p.1 ∉ X.fs /\ ∀ v, p.2.data ≠ .cell v
  hok : HOk X.prog X.w H s.heap
  len : σ.length = X.N.length
section
variable {X : Cx} {pins : List (Addr × Obj)} {σ : List (Option V)} {H H' : Hp} {s : Shared} {h' : Heap}
theorem Cx.Ok.nofr (ok : X.Ok) {b : Addr} {o : Obj} (e : X.base.get? b = some o) : b ∉ X.fs := fun hb => by
  have := (ok.funs.mem hb).1
  rw [e] at this; cases this
theorem Inv.bs (I : Inv X pins σ H s) : ∀ b o, X.base.get? b = some o -> s.heap.get? b = some o /\ H b = none := fun b o e =>
  ⟨I.base.keep b o (I.ok.bs b o e).1 (I.ok.bs b o e).2 (I.ok.nofr e) (I.ok.noex b o e), I.base.free b o (I.ok.bs b o e).1 (I.ok.bs b o e).2 (I.ok.noex b o e)⟩
theorem Inv.bk (I : Inv X pins σ H s) : ∀ b o, X.base.get? b = some o -> s.heap.get? b = some o := fun b o e => (I.bs b o e).1
theorem Inv.mod (I : Inv X pins σ H s) : Mod X.K X.mg X.base := I.ok.mod
theorem Inv.kIn (I : Inv X pins σ H s) : X.K.In s.heap := I.ok.mod.kin.keeps I.bk
theorem Inv.nolimit (I : Inv X pins σ H s) : s.heap.NoLimit := I.ok.mod.nolimit.keeps I.bk
theorem Inv.fr (I : Inv X pins σ H s) : ∃ m, Fr X.base X.env.locals s.heap m :=
  let ⟨m, hn, _⟩ := I.loc
  ⟨m, hn, I.bk, Nat.le_trans I.ok.bsz I.ok.above⟩
theorem Inv.lt (I : Inv X pins σ H s) : X.env.locals < s.heap.objs.size := let ⟨_, hn, _⟩ := I.loc; hn.lt
theorem Inv.sz (I : Inv X pins σ H s) : X.s₀.heap.objs.size <= s.heap.objs.size := Nat.le_trans I.ok.above (Nat.le_of_lt I.lt)
theorem Inv.nofs (I : Inv X pins σ H s) {a : Addr} (h : s.heap.objs.size <= a) : a ∉ X.fs := fun hb => by
  obtain ⟨_, o, ho, _⟩ := I.ok.funs.mem hb
  exact absurd (Nat.lt_of_lt_of_le (Heap.lt_size ho) (Nat.le_trans I.sz h)) (Nat.lt_irrefl _)
theorem Inv.cne (I : Inv X pins σ H s) : ∀ x c, X.env.cells.lookup x = some c -> c ≠ X.env.locals := fun x c e z => by
  obtain ⟨v, o, ho, hd⟩ := I.cell x c e
  obtain ⟨m, ⟨o', es, ep, ho', hd', _⟩, _⟩ := I.loc
  rw [z, ho'] at ho; cases ho; rw [hd'] at hd; cases hd
theorem Inv.funs (I : Inv X pins σ H s) : s.heap.FunFrames X.base X.outer := by
  have all : ∀ (l : List Env), (∀ b ∈ frs l, b ∈ X.fs) -> X.s₀.heap.FunFrames X.base l -> s.heap.FunFrames X.base l := by
    intro l
    induction l with
    | nil => intro _ _; trivial
    | cons env r ih =>
      intro hs hl
      obtain ⟨hk, ⟨L, o, hf, hn, ho, hd⟩, hr⟩ := hl
      have hL : L ∈ X.fs := hs L (by unfold frs; rw [List.filterMap_cons, hf]; exact List.mem_cons_self)
      obtain ⟨sl, e⟩ := I.base.slot L o ho (I.ok.frf L hL) hL fun z => I.ok.exfs L z hL
      exact ⟨hk, ⟨L, _, hf, hn, e, hd⟩, ih (fun b hb => hs b (by unfold frs; rw [List.filterMap_cons, hf]; exact List.mem_cons_of_mem _ hb)) hr⟩
  exact all X.outer (fun _ hb => hb) I.ok.funs
theorem Inv.stack (I : Inv X pins σ H s) : s.heap.FunFrames X.base X.stack := by
  rcases I.ok.stk with e | ⟨e, hf⟩
  · rw [e]; exact I.funs
  · rw [e]
    obtain ⟨m, hn, _⟩ := I.loc
    refine .cons (by rw [I.ok.kind]; decide) hf hn ?_ I.funs
    exact Heap.get?_none_of_le (Nat.le_trans I.ok.bsz I.ok.above)
theorem Inv.stkSub (I : Inv X pins σ H s) : ∀ b ∈ frs X.stack, b ∈ X.env.locals :: X.fs := fun b hb => by
  rcases I.ok.stk with e | ⟨e, hf⟩
  · rw [e] at hb; exact List.mem_cons_of_mem _ hb
  · rw [e] at hb
    unfold frs at hb
    rw [List.filterMap_cons, hf] at hb
    exact hb
theorem Inv.stkFree (I : Inv X pins σ H s) : ∀ b ∈ frs X.stack, H b = none := fun b hb => by
  rcases List.mem_cons.mp (I.stkSub b hb) with e | hb
  · rw [e]; exact I.free
  · obtain ⟨_, o, ho, _⟩ := I.ok.funs.mem hb
    exact I.base.free b o ho (I.ok.frf b hb) fun z => I.ok.exfs b z hb
theorem Inv.step {g' : Array GenState} {t' : Nat} {d' : Drawn} {ch : List Addr} (I : Inv X pins σ H s)
    (hch : ∀ b ∈ ch, (b ∈ X.ex \/ X.s₀.heap.objs.size <= b) /\ b ≠ X.env.locals /\ (∀ x c, X.env.cells.lookup x = some c -> c ≠ b) /\ ∀ p ∈ X.pn ++ pins, p.1 ≠ b)
    (keep : ∀ b o, b ≠ X.env.locals -> b ∉ X.fs -> b ∉ ch -> s.heap.get? b = some o -> H b = none -> h'.get? b = some o)
    (slot : ∀ b o, b ≠ X.env.locals -> b ∈ X.fs -> b ∉ ch -> s.heap.get? b = some o -> H b = none -> ∃ sl, h'.get? b = some { o with slots := sl }) (free : ∀ b o, b ∉ ch -> s.heap.get? b = some o -> H b = none -> H' b = none)
    (there : ∀ b o, b ∉ ch -> s.heap.get? b = some o -> ∃ o', h'.get? b = some o')
    (tups : ∀ b xs, H b = some (.tup xs) -> H' b = some (.tup xs)) (frzs : ∀ b o u, H b = some (.frz o u) -> H' b = some (.frz o u)) (tbls : ∀ b ps, H b = some (.tbl ps) -> ∃ more, H' b = some (.tbl (ps ++ more)))
    (ns : ∀ m, s.heap.Ns X.env.locals m -> h'.Ns X.env.locals m) (hok : HOk X.prog X.w H' h') (hg : AllBare g') :
    Inv X pins σ H' { s with heap := h', gens := g', drawn := d', toks := t' } := by
  have neL : ∀ b o, X.s₀.heap.get? b = some o -> b ≠ X.env.locals := fun b o e => Nat.ne_of_lt (Nat.lt_of_lt_of_le (Heap.lt_size e) I.ok.above)
  have neC : ∀ b o, X.s₀.heap.get? b = some o -> b ∉ X.ex -> b ∉ ch := fun b o e hx hb => by
    rcases (hch b hb).1 with z | z
    · exact hx z
    · exact absurd (Nat.lt_of_lt_of_le (Heap.lt_size e) z) (Nat.lt_irrefl _)
  have cellK : ∀ x c, X.env.cells.lookup x = some c -> ∀ v, s.heap.IsCell c v -> h'.IsCell c v := fun x c e v ⟨o, ho, hd⟩ => by
    have nch : c ∉ ch := fun z => (hch c z).2.2.1 x c e rfl
    by_cases hc : c ∈ X.fs
    · obtain ⟨sl, q⟩ := slot c o (I.cne x c e) hc nch ho (I.freeC x c e)
      exact ⟨_, q, hd⟩
    · exact ⟨o, keep c o (I.cne x c e) hc nch ho (I.freeC x c e), hd⟩
  refine ⟨I.ok, I.os, hg, ⟨fun b o e n hb hx => ?_, fun b o e n hb hx => ?_, fun b o e n hx => ?_, fun b o e hx => ?_, fun b xs e => tups b xs (I.base.tups b xs e), fun b o xs e => frzs b o xs (I.base.frzs b o xs e), fun b ps e => ?_⟩, ?_, fun x c e => ?_, ?_, fun x c e => ?_, fun p hp => ?_, hok, I.len⟩
  · exact keep b o (neL b o e) hb (neC b o e hx) (I.base.keep b o e n hb hx) (I.base.free b o e n hx)
  · obtain ⟨sl, e1⟩ := I.base.slot b o e n hb hx
    obtain ⟨sl', e2⟩ := slot b _ (neL b o e) hb (neC b o e hx) e1 (I.base.free b o e n hx)
    exact ⟨sl', e2⟩
  · obtain ⟨o', e1⟩ := I.base.there b o e hx
    exact free b o' (neC b o e hx) e1 (I.base.free b o e n hx)
  · obtain ⟨o', e1⟩ := I.base.there b o e hx
    exact there b o' (neC b o e hx) e1
  · obtain ⟨m1, e1⟩ := I.base.tbls b ps e
    obtain ⟨m2, e2⟩ := tbls b _ e1
    exact ⟨m1 ++ m2, by rw [e2, Array.append_assoc]⟩
  · obtain ⟨m, hn, hl⟩ := I.loc
    refine ⟨m, ns m hn, fun i x v e1 e2 e3 => ?_⟩
    obtain ⟨u, r, l⟩ := hl i x v e1 e2 e3
    refine ⟨u, r, ?_⟩
    rcases l with l | ⟨k, c, e, z⟩
    · exact .inl l
    · exact .inr ⟨k, c, e, cellK x c e _ z⟩
  · obtain ⟨v, z⟩ := I.cell x c e
    exact ⟨v, cellK x c e v z⟩
  · obtain ⟨m, ⟨o, _, _, ho, _⟩, _⟩ := I.loc
    exact free _ o (fun z => (hch _ z).2.1 rfl) ho I.free
  · obtain ⟨v, o, ho, hd⟩ := I.cell x c e
    exact free c o (fun z => (hch c z).2.2.1 x c e rfl) ho (I.freeC x c e)
  · obtain ⟨e, n, ne, nf, d⟩ := I.pin p hp
    have nch : p.1 ∉ ch := fun z => (hch p.1 z).2.2.2 p hp rfl
    exact ⟨keep p.1 p.2 ne nf nch e n, free p.1 p.2 nch e n, ne, nf, d⟩
theorem Inv.un {t' : Nat} (I : Inv X pins σ H s) (u : Un X.fs [] H H' s.heap h') (hok : HOk X.prog X.w H' h') : Inv X pins σ H' { s with heap := h', toks := t' } := by
  obtain ⟨m, ⟨o, es, ep, ho, r⟩, _⟩ := id I.loc
  obtain ⟨sl, hL⟩ := u.any ho I.free (by simp)
  exact I.step (g' := s.gens) (d' := s.drawn) (ch := []) (fun _ z => nomatch z) (fun b o _ hb _ e n => u.keep b o e n hb (by simp)) (fun b o _ hb _ e n => u.slot b o e n hb (by simp)) (fun b o _ e n => u.free b o e n (by simp)) (fun b o _ e => u.there b o e (by simp)) u.tups u.frzs u.tbls (fun m' hm => by
    obtain ⟨o', es', ep', ho', r'⟩ := hm
    rw [ho] at ho'; cases ho'
    exact ⟨_, es', ep', hL, r'⟩) hok I.bare
theorem Inv.call {g' : Array GenState} {t' : Nat} {d' : Drawn} {ch : List Addr} (I : Inv X pins σ H s) (u : Un (frs X.stack) ch H H' s.heap h') (hok : HOk X.prog X.w H' h') (hg : AllBare g')
    (hch : ∀ b ∈ ch, (b ∈ X.ex \/ X.s₀.heap.objs.size <= b) /\ b ≠ X.env.locals /\ (∀ x c, X.env.cells.lookup x = some c -> c ≠ b) /\ ∀ p ∈ X.pn ++ pins, p.1 ≠ b) :
    Inv X pins σ H' { s with heap := h', gens := g', drawn := d', toks := t' } := by
  obtain ⟨m, ⟨o, es, ep, ho, r⟩, _⟩ := id I.loc
  obtain ⟨sl, hL⟩ := u.any ho I.free fun z => (hch _ z).2.1 rfl
  exact I.step (ch := ch) hch (fun b o hL hb hc e n => u.keep b o e n (fun z => (List.mem_cons.mp (I.stkSub b z)).elim hL hb) hc) (fun b o _ _ hc e n => u.any e n hc) (fun b o hc e n => u.free b o e n hc) (fun b o hc e => u.there b o e hc) u.tups u.frzs u.tbls (fun m' hm => by
    obtain ⟨o', es', ep', ho', r'⟩ := hm
    rw [ho] at ho'; cases ho'
    exact ⟨_, es', ep', hL, r'⟩) hok hg
theorem Inv.turned {t' : Nat} {it : Addr} (I : Inv X pins σ H s) (k : ∀ b o, b ≠ it -> s.heap.get? b = some o -> h'.get? b = some o) (hn : H it = none) (hL : it ≠ X.env.locals)
    (h1 : it ∈ X.ex \/ X.s₀.heap.objs.size <= it) (h2 : ∀ x c, X.env.cells.lookup x = some c -> c ≠ it) (h3 : ∀ p ∈ X.pn ++ pins, p.1 ≠ it) : Inv X pins σ H { s with heap := h', toks := t' } := by
  have nit : ∀ b u, H b = some u -> b ≠ it := fun b u e z => by rw [z, hn] at e; cases e
  refine I.step (g' := s.gens) (d' := s.drawn) (ch := [it]) (fun b hb => ?_) (fun b o _ _ hc e _ => k b o (fun z => hc (by simp [z])) e) (fun b o _ _ hc e _ => ⟨o.slots, k b o (fun z => hc (by simp [z])) e⟩) (fun _ _ _ _ n => n)
    (fun b o hc e => ⟨o, k b o (fun z => hc (by simp [z])) e⟩) (fun _ _ e => e) (fun _ _ _ e => e) (fun b ps e => ⟨#[], by rw [e]; simp⟩) (fun m hm => ?_) (fun b u e => ?_) I.bare
  · have e : b = it := by simpa using hb
    subst e
    exact ⟨h1, hL, h2, h3⟩
  · obtain ⟨o, es, ep, ho, r⟩ := hm
    exact ⟨o, es, ep, k _ o (Ne.symm hL) ho, r⟩
  · refine (I.hok b u e).stay (fun c v hc q => k c v ?_ q) (fun _ q => q) fun _ _ q => q
    rcases hc with z | z
    · rw [z]; exact nit b u e
    · exact nit c _ z
theorem Inv.tok (I : Inv X pins σ H s) (t : Nat) : Inv X pins σ H { s with toks := t } := I.un (h' := s.heap) (t' := t) Un.refl I.hok
theorem Inv.kept {t' : Nat} (I : Inv X pins σ H s) (k : ∀ b u, s.heap.get? b = some u -> h'.get? b = some u) : Inv X pins σ H { s with heap := h', toks := t' } := I.un (Un.kept k) (I.hok.kept k)
theorem Inv.laid {a : Addr} {o : HO} {t' : Nat} (I : Inv X pins σ H s) (k : ∀ b u, s.heap.get? b = some u -> h'.get? b = some u) (hp : s.heap.objs.size <= a) (new : ObjOk X.prog X.w (upd H a o) h' a o) :
    Inv X pins σ (upd H a o) { s with heap := h', toks := t' } := I.un (Un.laid k hp (I.hok.fresh hp)) (I.hok.laid k hp new)
theorem Inv.write {x e : Addr} {o : HO} {t' : Nat} (I : Inv X pins σ H s) (mu : Mut (H x)) (he : e = x \/ H e = some (.own x)) (k : ∀ b u, b ≠ e -> s.heap.get? b = some u -> h'.get? b = some u) (heo : ∃ u, h'.get? e = some u)
    (new : ObjOk X.prog X.w (upd H x o) h' x o) : Inv X pins σ (upd H x o) { s with heap := h', toks := t' } := I.un (Un.write mu he k heo) (I.hok.write mu he k heo new)
theorem Inv.weak {σ' : List (Option V)} (I : Inv X pins σ H s) (hl : σ'.length = σ.length) (w : ∀ (i : Nat) v, σ'[i]? = some (some v) -> σ[i]? = some (some v)) : Inv X pins σ' H s :=
  ⟨I.ok, I.os, I.bare, I.base, let ⟨m, hn, hl'⟩ := I.loc; ⟨m, hn, fun i x v e1 e2 e3 => hl' i x v e1 (w i v e2) e3⟩, I.cell, I.free, I.freeC, I.pin, I.hok, hl.trans I.len⟩
theorem Inv.pins_of {pins' : List (Addr × Obj)} (I : Inv X pins σ H s) (h : ∀ p ∈ pins', s.heap.get? p.1 = some p.2 /\ H p.1 = none /\ p.1 ≠ X.env.locals /\ p.1 ∉ X.fs /\ ∀ v, p.2.data ≠ .cell v) : Inv X pins' σ H s :=
  ⟨I.ok, I.os, I.bare, I.base, I.loc, I.cell, I.free, I.freeC, fun p hp => (List.mem_append.mp hp).elim (fun z => I.pin p (List.mem_append_left _ z)) (h p), I.hok, I.len⟩
theorem nodup_ix {N : List Str} (hN : N.Nodup) {i j : Nat} {x : Str} (a : N[i]? = some x) (b : N[j]? = some x) : i = j := by
  obtain ⟨h1, e1⟩ := List.getElem?_eq_some_iff.mp a
  obtain ⟨h2, e2⟩ := List.getElem?_eq_some_iff.mp b
  exact (List.getElem_inj hN).mp (e1.trans e2.symm)
theorem store_ok2 {M : Model} {A : Around} {E : Value -> Shared -> Prop} {i : Nat} {x : Str} {v : V} {u : Value} {Q : Unit -> Shared -> Prop} (I : Inv X pins σ H s) (hN : X.N.Nodup) (hi : X.N[i]? = some x) (hx : Loc X.env.scope x) (r : RelV v u)
    (h : ∀ s', Inv X pins (σ.set i (some v)) H s' -> (∃ a, Heap.SameBut a s.heap s'.heap /\ (a = X.env.locals \/ X.env.cells.lookup x = some a)) -> Q () s') (hf : autoParam (X.fn x = true \/ X.env.scope.names.lookup x = some .local) L2.au0._auto_1) : wpAny M A (storeName X.env x u) Q E s := by
  obtain ⟨m, hn, hl⟩ := id I.loc
  have hcls : (X.env.scope.kind == .class || (X.env.scope.kind == .module && X.env.locals != X.env.globals)) = false := by rw [I.ok.kind]; rfl
  have hiσ : i < σ.length := by rw [I.len]; exact (List.getElem?_eq_some_iff.mp hi).1
  have cne := I.cne
  have tracked : ∀ {a : Addr} {h' : Heap}, (∃ o, s.heap.get? a = some o /\ H a = none) -> Heap.SameBut a s.heap h' -> HOk X.prog X.w H h' := fun {a h'} ha hs b ob e => by
    obtain ⟨_, _, hfree⟩ := ha
    refine (I.hok b ob e).stay (fun c w' hc q => (hs.2 c ?_).trans q) (fun _ q => q) fun _ _ q => q
    rintro rfl
    rcases hc with rfl | hc
    · rw [hfree] at e; cases e
    · rw [hfree] at hc; cases hc
  rcases hx with hk | hk
  · refine wpAny_storeName_local hk hn (fun h' hn' hs => ?_) hcls
    obtain ⟨oL, _, _, hoL, _⟩ := id hn
    refine h _ ⟨I.ok, I.os, I.bare, ⟨fun b o e n hb hx => ?_, fun b o e n hb hx => ?_, I.base.free, fun b o e hx => ?_, I.base.tups, I.base.frzs, I.base.tbls⟩, ⟨_, hn', fun j y v' e1 e2 e3 => ?_⟩, fun y c e => ?_, I.free, I.freeC, fun p hp => ?_, tracked ⟨oL, hoL, I.free⟩ hs, by simpa using I.len⟩ ⟨_, hs, .inl rfl⟩
    · exact (hs.2 b (Nat.ne_of_lt (Nat.lt_of_lt_of_le (Heap.lt_size e) I.ok.above))).trans (I.base.keep b o e n hb hx)
    · obtain ⟨sl, e1⟩ := I.base.slot b o e n hb hx
      exact ⟨sl, (hs.2 b (Nat.ne_of_lt (Nat.lt_of_lt_of_le (Heap.lt_size e) I.ok.above))).trans e1⟩
    · obtain ⟨o', e1⟩ := I.base.there b o e hx
      exact ⟨o', (hs.2 b (Nat.ne_of_lt (Nat.lt_of_lt_of_le (Heap.lt_size e) I.ok.above))).trans e1⟩
    · by_cases hj : j = i
      · subst hj
        rw [hi] at e1; cases e1
        rw [List.getElem?_set_self hiσ] at e2
        cases e2
        exact ⟨u, r, .inl ⟨hk, by simp⟩⟩
      · rw [List.getElem?_set_ne (Ne.symm hj)] at e2
        obtain ⟨u', r', q⟩ := hl j y v' e1 e2 e3
        refine ⟨u', r', ?_⟩
        rcases q with ⟨k, e⟩ | ⟨k, c, e, z⟩
        · refine .inl ⟨k, ?_⟩
          have : y ≠ x := fun e => hj (nodup_ix hN e1 (e ▸ hi))
          simp [this, e]
        · exact .inr ⟨k, c, e, z.sameBut hs (cne y c e)⟩
    · obtain ⟨w', z⟩ := I.cell y c e
      exact ⟨w', z.sameBut hs (cne y c e)⟩
    · obtain ⟨e, n, ne, nf, d⟩ := I.pin p hp
      exact ⟨(hs.2 p.1 ne).trans e, n, ne, nf, d⟩
  · have hfn : X.fn x = true := by
      rcases hf with z | z
      · exact z
      · rw [z] at hk; cases hk
    obtain ⟨c, hc⟩ := I.ok.has x (.inl hk)
    obtain ⟨w', z⟩ := I.cell x c hc
    refine wpAny_storeName_cell I.ok.kind hk hc z (fun h' hc' hs => ?_)
    obtain ⟨oc, hoc, hocd⟩ := id z
    refine h { s with heap := h' } ⟨I.ok, I.os, I.bare, ⟨fun b o e n hb hx => ?_, fun b o e n hb hx => ?_, I.base.free, fun b o e hx => ?_, I.base.tups, I.base.frzs, I.base.tbls⟩, ⟨m, hn.sameBut hs (Ne.symm (cne x c hc)), fun j y v' e1 e2 e3 => ?_⟩, fun y c' e => ?_, I.free, I.freeC, fun p hp => ?_, tracked ⟨oc, hoc, I.freeC x c hc⟩ hs, by simpa using I.len⟩ ⟨c, hs, .inr hc⟩
    · exact (hs.2 b (Nat.ne_of_lt (Nat.lt_of_lt_of_le (Heap.lt_size e) (I.ok.cab x c hfn hc)))).trans (I.base.keep b o e n hb hx)
    · obtain ⟨sl, e1⟩ := I.base.slot b o e n hb hx
      exact ⟨sl, (hs.2 b (Nat.ne_of_lt (Nat.lt_of_lt_of_le (Heap.lt_size e) (I.ok.cab x c hfn hc)))).trans e1⟩
    · obtain ⟨o', e1⟩ := I.base.there b o e hx
      exact ⟨o', (hs.2 b (Nat.ne_of_lt (Nat.lt_of_lt_of_le (Heap.lt_size e) (I.ok.cab x c hfn hc)))).trans e1⟩
    · by_cases hj : j = i
      · subst hj
        rw [hi] at e1; cases e1
        rw [List.getElem?_set_self hiσ] at e2
        cases e2
        exact ⟨u, r, .inr ⟨.inl hk, c, hc, hc'⟩⟩
      · rw [List.getElem?_set_ne (Ne.symm hj)] at e2
        obtain ⟨u', r', q⟩ := hl j y v' e1 e2 e3
        refine ⟨u', r', ?_⟩
        rcases q with q | ⟨k, c', e, z'⟩
        · exact .inl q
        · refine .inr ⟨k, c', e, z'.sameBut hs ?_⟩
          rintro rfl
          exact hj (nodup_ix hN e1 (I.ok.inj _ _ _ e hc ▸ hi))
    · by_cases hcc : c' = c
      · subst hcc; exact ⟨_, hc'⟩
      · obtain ⟨w2, z2⟩ := I.cell y c' e
        exact ⟨w2, z2.sameBut hs hcc⟩
    · obtain ⟨e, n, ne, nf, d⟩ := I.pin p hp
      refine ⟨(hs.2 p.1 ?_).trans e, n, ne, nf, d⟩
      intro q
      rw [q, hoc] at e
      have q' : oc = p.2 := Option.some.inj e
      exact d w' (by rw [<- q']; exact hocd)
theorem store_ok {M : Model} {A : Around} {E : Value -> Shared -> Prop} {i : Nat} {x : Str} {v : V} {u : Value} {Q : Unit -> Shared -> Prop} (I : Inv X pins σ H s) (hN : X.N.Nodup) (hi : X.N[i]? = some x) (hx : Loc X.env.scope x) (r : RelV v u)
    (h : ∀ s', Inv X pins (σ.set i (some v)) H s' -> Q () s') (hf : autoParam (X.fn x = true \/ X.env.scope.names.lookup x = some .local) L2.au0._auto_1) : wpAny M A (storeName X.env x u) Q E s :=
  store_ok2 I hN hi hx r (fun s' I' _ => h s' I') hf
theorem Inv.call' {s' : Shared} {ch : List Addr} (I : Inv X pins σ H s) (ho : s'.os = s.os) (u : Un (frs X.stack) ch H H' s.heap s'.heap) (hok : HOk X.prog X.w H' s'.heap) (hg : AllBare s'.gens)
    (hch : ∀ b ∈ ch, (b ∈ X.ex \/ X.s₀.heap.objs.size <= b) /\ b ≠ X.env.locals /\ (∀ x c, X.env.cells.lookup x = some c -> c ≠ b) /\ ∀ p ∈ X.pn ++ pins, p.1 ≠ b) : Inv X pins σ H' s' := by
  obtain ⟨h', g', d', t', o'⟩ := s'
  have e : o' = s.os := ho
  subst e
  exact I.call (g' := g') (t' := t') (d' := d') u hok hg hch
end
noncomputable abbrev XK := Value -> Option Addr -> Hp -> Prop
noncomputable abbrev St := List (Option V)
noncomputable abbrev VK := V -> Hp -> Prop
noncomputable abbrev TE := St -> Hp -> VK -> Prop
noncomputable abbrev TT := St -> Hp -> (Bool -> Hp -> Prop) -> Prop
noncomputable abbrev TA := St -> Hp -> (List V -> Hp -> Prop) -> Prop
structure Ends where
  nx : St -> Hp -> Prop
  rt : VK
  bk : St -> Hp -> Prop := fun _ _ => False
  ct : St -> Hp -> Prop := fun _ _ => False
noncomputable abbrev TS := Ends -> St -> Hp -> Prop
noncomputable def EP (X : Cx) (pins : List (Addr × Obj)) (σ : St) (Q : VK) (u : Value) (s' : Shared) : Prop := ∃ v H', Inv X pins σ H' s' /\ RelV v u /\ Q v H'
noncomputable def TP (X : Cx) (pins : List (Addr × Obj)) (σ : St) (Q : Bool -> Hp -> Prop) (b : Bool) (s' : Shared) : Prop := ∃ H', Inv X pins σ H' s' /\ Q b H'
noncomputable def AP (X : Cx) (pins : List (Addr × Obj)) (σ : St) (Q : List V -> Hp -> Prop) (us : List Value) (s' : Shared) : Prop := ∃ vs H', Inv X pins σ H' s' /\ Vals vs us /\ Q vs H'
noncomputable def SP (X : Cx) (pins : List (Addr × Obj)) (D : Ends) (f : Flow) (s' : Shared) : Prop :=
  match f with
  | .next => ∃ σ' H', Inv X pins σ' H' s' /\ D.nx σ' H'
  | .brk => ∃ σ' H', Inv X pins σ' H' s' /\ D.bk σ' H'
  | .cont => ∃ σ' H', Inv X pins σ' H' s' /\ D.ct σ' H'
  | .ret u => ∃ v σ' H', Inv X pins σ' H' s' /\ RelV v u /\ D.rt v H'
noncomputable def PE (X : Cx) (e : Expr) (t : TE) : Prop :=
  ∀ (pins : List (Addr × Obj)) (s : Shared) (σ : St) (H : Hp) (Q : VK), Inv X pins σ H s -> t σ H Q -> wpAny (model X.prog X.w) X.A (eval e X.env) (EP X pins σ Q) X.xe s
noncomputable def PT (X : Cx) (e : Expr) (t : TT) : Prop :=
  ∀ (pins : List (Addr × Obj)) (s : Shared) (σ : St) (H : Hp) (Q : Bool -> Hp -> Prop), Inv X pins σ H s -> t σ H Q -> wpAny (model X.prog X.w) X.A (isTrue e X.env (eval e X.env)) (TP X pins σ Q) X.xe s
noncomputable def PW (X : Cx) (e : Expr) (t : TT) : Prop :=
  ∀ (whole : Sem Value) (pins : List (Addr × Obj)) (s : Shared) (σ : St) (H : Hp) (Q : Bool -> Hp -> Prop), Inv X pins σ H s -> t σ H Q -> wpAny (model X.prog X.w) X.A (isTrue e X.env whole) (TP X pins σ Q) X.xe s
theorem PW.pt {X : Cx} {e : Expr} {t : TT} (h : PW X e t) : PT X e t := h _
noncomputable def PA (X : Cx) (es : List Expr) (t : TA) : Prop :=
  ∀ (pos : Pos) (pins : List (Addr × Obj)) (s : Shared) (σ : St) (H : Hp) (Q : List V -> Hp -> Prop), Inv X pins σ H s -> t σ H Q -> wpAny (model X.prog X.w) X.A (spliced (backTo pos (starEach es X.env))) (AP X pins σ Q) X.xe s
noncomputable def PS (X : Cx) (st : Stmt) (t : TS) : Prop :=
  ∀ (pins : List (Addr × Obj)) (s : Shared) (σ : St) (H : Hp) (D : Ends), Inv X pins σ H s -> t D σ H -> wpAny (model X.prog X.w) X.A (exec st X.env) (SP X pins D) X.xe s
noncomputable def PSs (X : Cx) (st : List Stmt) (t : TS) : Prop :=
  ∀ (pins : List (Addr × Obj)) (s : Shared) (σ : St) (H : Hp) (D : Ends), Inv X pins σ H s -> t D σ H -> wpAny (model X.prog X.w) X.A (execs st X.env) (SP X pins D) X.xe s
theorem thn {α : Type} {t : Sem α} {Q Q' : α -> Shared -> Prop} {M : Model} {A : Around} {E : Value -> Shared -> Prop} {s : Shared} (h : wpAny M A t Q E s) (hQ : ∀ a s, Q a s -> Q' a s) : wpAny M A t Q' E s := wpAny_mono h hQ fun _ _ x => x
end L2
namespace L2
open PySem PySem.Spec PyProof.Rows
section
variable {X : Cx}
noncomputable def tVar (i : Nat) : TE := fun σ H Q => ∃ v, σ[i]? = some (some v) /\ Q v H
noncomputable def tC (v : V) : TE := fun _ H Q => Q v H
theorem pe_var {i : Nat} {x : Str} {pos : Pos} (hN : X.N[i]? = some x) (hv : Vis X.env.scope x) (hd : autoParam ((x == ("__debug__" : Str)) = false) L2.au1._auto_1) (hcd : autoParam ((x == ("__classdict__" : Str)) = false) L2.au1._auto_1) : PE X (.Name x pos) (tVar i) := by
  intro pins s σ H Q I h
  obtain ⟨v, e, h⟩ := h
  obtain ⟨m, hn, hl⟩ := I.loc
  obtain ⟨u, r, l⟩ := hl i x v hN e hv
  have fin : EP X pins σ Q u s := ⟨v, H, I, r, h⟩
  rcases l with ⟨hk, hm⟩ | ⟨hk, c, hc, hcell⟩
  · exact wpAny_Name (wpAny_loadName_local I.ok.kind hk hn hm fin) hd
  · rcases hk with hk | hk
    · exact wpAny_Name (wpAny_loadName_cell I.ok.kind hk hc hcell fin) hd
    · exact wpAny_Name (wpAny_loadName_free I.ok.kind hk hc hcell fin hcd) hd
theorem pe_int {i j pos} : PE X (.Constant (.int i) j pos) (tC (.int i)) := fun _ _ _ H _ I h => wpAny_Constant_int ⟨.int i, H, I.tok _, ⟨_, rfl⟩, h⟩
theorem pe_bl {b j pos} : PE X (.Constant (.bool b) j pos) (tC (.bl b)) := fun _ _ _ H _ I h => Constant_bool ⟨.bl b, H, I, rfl, h⟩
theorem pe_non {j pos} : PE X (.Constant .none j pos) (tC .non) := fun _ _ _ H _ I h => Constant_none ⟨.non, H, I, rfl, h⟩
theorem pe_str {x j pos} : PE X (.Constant (.str x) j pos) (tC (.str x)) := fun _ _ _ H _ I h => Calls.Constant_str ⟨.str x, H, I.tok _, ⟨_, rfl⟩, h⟩
noncomputable def Gl (X : Cx) (x : Str) : Prop := X.env.kindOf x = some .globalImplicit
theorem ld_glob {E : Value -> Shared -> Prop} {pins : List (Addr × Obj)} {s : Shared} {σ : St} {H : Hp} {x : Str} {u : Value} {pos : Pos} {Q : Value -> Shared -> Prop} (I : Inv X pins σ H s) (hg : Gl X x) (hm : X.mg x = some u) (h : Q u s)
    (hd : autoParam ((x == ("__debug__" : Str)) = false) L2.au1._auto_1) : wpAny (model X.prog X.w) X.A (eval (.Name x pos) X.env) Q E s :=
  Calls.Name_function_global I.ok.kind hg (Calls.loadGlobal_global (by rw [I.ok.glob]; exact I.mod.glob.keeps I.bk) hm h) hd
theorem ld_blt {E : Value -> Shared -> Prop} {pins : List (Addr × Obj)} {s : Shared} {σ : St} {H : Hp} {x : Str} {u : Value} {pos : Pos} {Q : Value -> Shared -> Prop} (I : Inv X pins σ H s) (hg : Gl X x) (hm : X.mg x = none) (hv : bootBuiltins x = some u) (h : Q u s)
    (hn : autoParam (x ≠ "__name__") L2.au1._auto_1) (hd : autoParam ((x == ("__debug__" : Str)) = false) L2.au1._auto_1) : wpAny (model X.prog X.w) X.A (eval (.Name x pos) X.env) Q E s := by
  obtain ⟨mb, h1, h2⟩ := I.mod.blt
  exact Calls.Name_function_global I.ok.kind hg (Calls.loadGlobal_builtin (by rw [I.ok.glob]; exact I.mod.glob.keeps I.bk) hm (by rw [I.ok.blt]; exact h1.keeps I.bk) ((h2 x hn).trans hv) h) hd
theorem pe_glob {x : Str} {v : V} {u : Value} {pos : Pos} (hg : Gl X x) (hm : X.mg x = some u) (r : RelV v u) (hd : autoParam ((x == ("__debug__" : Str)) = false) L2.au1._auto_1) : PE X (.Name x pos) (tC v) :=
  fun _ _ _ H _ I h => ld_glob I hg hm ⟨v, H, I, r, h⟩ hd
theorem pe_bltn {x : Str} {v : V} {u : Value} {pos : Pos} (hg : Gl X x) (hm : X.mg x = none) (hv : bootBuiltins x = some u) (r : RelV v u) (hn : autoParam (x ≠ "__name__") L2.au1._auto_1) (hd : autoParam ((x == ("__debug__" : Str)) = false) L2.au1._auto_1) : PE X (.Name x pos) (tC v) :=
  fun _ _ _ H _ I h => ld_blt I hg hm hv ⟨v, H, I, r, h⟩ hn hd
variable {a b : Expr} {ta tb : TE} {pos : Pos}
noncomputable def tB (t : TE) : TT := fun σ H Q => t σ H fun x H1 => ∃ c, x = .bl c /\ Q c H1
theorem pt_val {e : Expr} {t : TE} (h : PE X e t) (he : autoParam (∀ whole, isTrue e X.env whole = (do let v <- whole; standAt e.pos; holding [v] (truthy v))) L2.au2._auto_1) : PT X e (tB t) := by
  intro pins s σ H Q I hw
  refine isTrue_plain (thn (h pins s σ H _ I hw) fun v s1 ⟨x, H1, I1, r1, q1⟩ => ?_) (he _)
  obtain ⟨d, rfl, q⟩ := q1
  cases r1
  exact wpAny_truthy_bool ⟨H1, I1, q⟩
variable {tA tB' : TT} {rest : List Expr}
noncomputable def tOr (t u : TT) : TT := fun σ H Q => t σ H fun c H1 => if c = true then Q true H1 else u σ H1 Q
noncomputable def tNot (t : TT) : TT := fun σ H Q => t σ H fun c H1 => Q (!c) H1
theorem pw_or1 (ha : PT X a tA) : PW X (.BoolOp .Or [a] pos) tA := by
  intro wh pins s σ H Q I h
  refine isTrue_or (thn (ha pins s σ H Q I h) fun c s1 e => ?_)
  cases c with
  | false => exact isTrue_or_nil e
  | true => exact e
theorem pw_or (ha : PT X a tA) (hb : PW X (.BoolOp .Or (b :: rest) pos) tB') : PW X (.BoolOp .Or (a :: b :: rest) pos) (tOr tA tB') := by
  intro wh pins s σ H Q I h
  refine isTrue_or (thn (ha pins s σ H _ I h) fun c s1 ⟨H1, I1, q1⟩ => ?_)
  cases c with
  | true => exact ⟨H1, I1, q1⟩
  | false => exact hb wh pins s1 σ H1 Q I1 q1
theorem pt_not (ha : PT X a tA) : PT X (.UnaryOp .Not a pos) (tNot tA) := by
  intro pins s σ H Q I h
  exact isTrue_not (ha pins s σ H (fun c H1 => Q (!c) H1) I h)
noncomputable def tAndV (ta tb : TE) : TE := fun σ H Q => ta σ H fun x H1 => ∃ c, x = .bl c /\ if c = true then tb σ H1 Q else Q (.bl false) H1
noncomputable def tNotV (ta : TE) : TE := fun σ H Q => ta σ H fun x H1 => ∃ c, x = .bl c /\ Q (.bl (!c)) H1
theorem pe_one {op} {t : TE} (h : PE X a t) : PE X (.BoolOp op [a] pos) t := fun pins s σ H Q I hw => BoolOp_one (h pins s σ H Q I hw)
theorem pe_and (ha : PE X a ta) (hb : PE X (.BoolOp .And (b :: rest) pos) tb) : PE X (.BoolOp .And (a :: b :: rest) pos) (tAndV ta tb) := by
  intro pins s σ H Q I h
  refine BoolOp_and (thn (ha pins s σ H _ I h) fun v s1 ⟨x, H1, I1, r1, q1⟩ => ?_)
  obtain ⟨c, rfl, q1⟩ := q1
  cases r1
  refine wpAny_truthy_bool ?_
  cases c with
  | true => exact hb pins s1 σ H1 Q I1 q1
  | false => exact ⟨.bl false, H1, I1, rfl, q1⟩
theorem pe_not (ha : PE X a ta) : PE X (.UnaryOp .Not a pos) (tNotV ta) := by
  intro pins s σ H Q I h
  refine UnaryOp_ (thn (ha pins s σ H _ I h) fun v s1 ⟨x, H1, I1, r1, q1⟩ => ?_)
  obtain ⟨c, rfl, q1⟩ := q1
  cases r1
  exact not_of (wpAny_truthy_bool ⟨.bl (!c), H1, I1, rfl, q1⟩)
end
end L2
namespace L2
open PySem PySem.Spec PyProof.Rows
noncomputable def SqL (K : PySem.W.Frag) (H : Hp) (a : Addr) (xs : List V) : Prop :=
  Rd H a (.lst xs) \/
    ∃ (o : Obj) (its : Array Value) (n : Nat), K.lookup a = some o /\ o.cls = .type "list" /\ o.dict = none /\ o.data = .seq its n /\ its.size <= sizeLine /\ Vals xs its.toList
noncomputable def SqT (K : PySem.W.Frag) (H : Hp) (a : Addr) (xs : List V) : Prop :=
  Rd H a (.tup xs) \/
    ∃ (o : Obj) (its : Array Value) (n : Nat), K.lookup a = some o /\ o.cls = .type "tuple" /\ (o.dict = none /\ o.slots = #[]) /\ o.data = .seq its n /\ its.size <= sizeLine /\ Vals xs its.toList
noncomputable def absV : Value -> Option V
  | .none => some .non
  | .bool b => some (.bl b)
  | .int i _ => some (.int i)
  | .str x _ => some (.str x)
  | .bytes b _ => some (.byt b)
  | .float b _ => some (.flt b)
  | .ref a => some (.ref a)
  | .type n => some (.ty n)
  | _ => none
theorem RelV.abs {x : V} {u : Value} (r : RelV x u) : absV u = some x := by
  cases x with
  | non => cases r; rfl
  | bl _ => cases r; rfl
  | int _ => obtain ⟨t, rfl⟩ := r; rfl
  | str _ => obtain ⟨t, rfl⟩ := r; rfl
  | byt _ => obtain ⟨t, rfl⟩ := r; rfl
  | flt _ => obtain ⟨t, rfl⟩ := r; rfl
  | ref _ => cases r; rfl
  | ty _ => cases r; rfl
theorem RelV.inj {x y : V} {u : Value} (r : RelV x u) (q : RelV y u) : x = y := Option.some.inj (r.abs.symm.trans q.abs)
theorem Vals.inj : ∀ {xs ys : List V} {us : List Value}, Vals xs us -> Vals ys us -> xs = ys
  | _, _, _, .nil, .nil => rfl
  | _, _, _, .cons r t, .cons r' t' => by rw [r.inj r', Vals.inj t t']
section
variable {X : Cx} {pins : List (Addr × Obj)} {σ : St} {H : Hp} {s : Shared} {a : Addr} {xs ys : List V}
theorem SqL.of {K : PySem.W.Frag} (h : H a = some (.lst xs)) : SqL K H a xs := .inl (.inl h)
theorem SqT.of {K : PySem.W.Frag} (h : H a = some (.tup xs)) : SqT K H a xs := .inl (.inl h)
theorem Inv.list (I : Inv X pins σ H s) (h : SqL X.K H a xs) : ∃ its : List Value, Vals xs its /\ PlainL s.heap a its.toArray /\ xs.length <= sizeLine := by
  rcases h with h | ⟨o, its, n, hk, hc, hd, hs, hz, r⟩
  · obtain ⟨z, its, n, r, e⟩ := h.ok I.hok
    exact ⟨its, r, ⟨_, n, e, rfl, rfl, rfl⟩, z⟩
  · refine ⟨its.toList, r, ⟨o, n, I.kIn a o hk, hc, hd, by simpa using hs⟩, ?_⟩
    have e := r.length
    simp only [Array.length_toList] at e
    omega
theorem Inv.tuple (I : Inv X pins σ H s) (h : SqT X.K H a xs) : ∃ its : List Value, Vals xs its /\ IsTup s.heap a its.toArray /\ xs.length <= sizeLine := by
  rcases h with h | ⟨o, its, n, hk, hc, _, hs, hz, r⟩
  · obtain ⟨z, its, r, p⟩ := h.ok I.hok
    exact ⟨its, r, p.tup, z⟩
  · refine ⟨its.toList, r, ⟨o, I.kIn a o hk, hc, n, by simpa using hs⟩, ?_⟩
    have e := r.length
    simp only [Array.length_toList] at e
    omega
theorem Inv.list_inj (I : Inv X pins σ H s) (h : SqL X.K H a xs) (h' : SqL X.K H a ys) : xs = ys := by
  obtain ⟨its, r, ⟨o, n, e, _, _, d⟩, _⟩ := I.list h
  obtain ⟨its', r', ⟨o', n', e', _, _, d'⟩, _⟩ := I.list h'
  rw [e] at e'; cases e'
  rw [d] at d'
  injection d' with d1 _
  have : its = its' := by simpa using congrArg Array.toList d1
  subst this
  exact r.inj r'
theorem Inv.tuple_inj (I : Inv X pins σ H s) (h : SqT X.K H a xs) (h' : SqT X.K H a ys) : xs = ys := by
  obtain ⟨its, r, ⟨o, e, _, n, d⟩, _⟩ := I.tuple h
  obtain ⟨its', r', ⟨o', e', _, n', d'⟩, _⟩ := I.tuple h'
  rw [e] at e'; cases e'
  rw [d] at d'
  injection d' with d1 _
  have : its = its' := by simpa using congrArg Array.toList d1
  subst this
  exact r.inj r'
end
noncomputable abbrev Cx.wish (X : Cx) (E : Value -> Shared -> Prop) : Cx := { X with xe := E }
noncomputable abbrev Cx.nox (X : Cx) : Cx := X.wish fun _ _ => False
theorem Cx.Ok.wish {X : Cx} (ok : X.Ok) (E : Value -> Shared -> Prop) : (X.wish E).Ok :=
  ⟨ok.mod, ok.kind, ok.glob, ok.blt, ok.above, ok.inj, ok.has, ok.cab, ok.hd, ok.frames, ok.stk, ok.exf, ok.bs, ok.bsz, ok.noex, ok.exfs, ok.funs, ok.frf⟩
theorem Cx.Ok.unwish {X : Cx} {E : Value -> Shared -> Prop} (ok : (X.wish E).Ok) : X.Ok :=
  ⟨ok.mod, ok.kind, ok.glob, ok.blt, ok.above, ok.inj, ok.has, ok.cab, ok.hd, ok.frames, ok.stk, ok.exf, ok.bs, ok.bsz, ok.noex, ok.exfs, ok.funs, ok.frf⟩
section
variable {X : Cx} {pins : List (Addr × Obj)} {σ : St} {H : Hp} {s : Shared} {E : Value -> Shared -> Prop}
theorem Inv.wish (I : Inv X pins σ H s) (E : Value -> Shared -> Prop) : Inv (X.wish E) pins σ H s := ⟨I.ok.wish E, I.os, I.bare, I.base, I.loc, I.cell, I.free, I.freeC, I.pin, I.hok, I.len⟩
theorem Inv.unwish (I : Inv (X.wish E) pins σ H s) : Inv X pins σ H s := ⟨I.ok.unwish, I.os, I.bare, I.base, I.loc, I.cell, I.free, I.freeC, I.pin, I.hok, I.len⟩
theorem SP.unwish {D : Ends} {f : Flow} {s' : Shared} (h : SP (X.wish E) pins D f s') : SP X pins D f s' := by
  cases f with
  | next => obtain ⟨σ', H', I, q⟩ := h; exact ⟨σ', H', I.unwish, q⟩
  | brk => obtain ⟨σ', H', I, q⟩ := h; exact ⟨σ', H', I.unwish, q⟩
  | cont => obtain ⟨σ', H', I, q⟩ := h; exact ⟨σ', H', I.unwish, q⟩
  | ret u => obtain ⟨v, σ', H', I, r, q⟩ := h; exact ⟨v, σ', H', I.unwish, r, q⟩
theorem PE.nox {e : Expr} {t : TE} (h : PE X.nox e t) : PE X e t := fun pins s σ H Q I hw =>
  wpAny_mono (h pins s σ H Q (I.wish _) hw) (fun _ _ ⟨v, H', I', r, q⟩ => ⟨v, H', I'.unwish, r, q⟩) fun _ _ z => False.elim z
theorem PT.nox {e : Expr} {t : TT} (h : PT X.nox e t) : PT X e t := fun pins s σ H Q I hw =>
  wpAny_mono (h pins s σ H Q (I.wish _) hw) (fun _ _ ⟨H', I', q⟩ => ⟨H', I'.unwish, q⟩) fun _ _ z => False.elim z
theorem PSs.nox {st : List Stmt} {t : TS} (h : PSs X.nox st t) : PSs X st t := fun pins s σ H D I hw =>
  wpAny_mono (h pins s σ H D (I.wish _) hw) (fun _ _ q => q.unwish) fun _ _ z => False.elim z
end
section
variable {X : Cx} {st : Stmt} {rest : List Stmt} {t u : TS} {e : Expr} {te : TE} {pos : Pos}
noncomputable def tNext : TS := fun D σ H => D.nx σ H
noncomputable def tSeq (t u : TS) : TS := fun D σ H => t { D with nx := u D } σ H
theorem pss_nil : PSs X [] tNext := fun _ _ σ H _ I h => wpAny_execs_nil ⟨σ, H, I, h⟩
theorem pss_cons (h1 : PS X st t) (h2 : PSs X rest u) : PSs X (st :: rest) (tSeq t u) := by
  intro pins s σ H D I h
  refine wpAny_execs_cons (thn (h1 pins s σ H { D with nx := u D } I h) fun f s1 q => ?_)
  cases f with
  | next =>
    obtain ⟨σ', H', I', q⟩ := q
    exact h2 pins s1 σ' H' D I' q
  | ret v => exact q
  | brk => exact q
  | cont => exact q
theorem pss_one (h1 : PS X st t) : PSs X [st] t := by
  intro pins s σ H D I h
  refine wpAny_execs_cons (thn (h1 pins s σ H D I h) fun f s1 q => ?_)
  cases f with
  | next => exact wpAny_execs_nil q
  | ret v => exact q
  | brk => exact q
  | cont => exact q
theorem Inv.quiet {pins : List (Addr × Obj)} {σ : St} {H : Hp} {s : Shared} (I : Inv X pins σ H s) : interactive X.env = false := by simp [interactive, I.ok.kind]
noncomputable def tDrop (te : TE) : TS := fun D σ H => te σ H fun _ H1 => D.nx σ H1
theorem ps_expr (he : PE X e te) (hs : autoParam (swapsWith e none pos.line X.env = pure false) L2.au3._auto_1) : PS X (.Expr e pos) (tDrop te) := by
  intro pins s σ H D I h
  exact wpAny_Expr_any (thn (he pins s σ H _ I h) fun v s1 ⟨x, H1, I1, r1, q1⟩ => ⟨σ, H1, I1, q1⟩) I.quiet hs
noncomputable def tRet (te : TE) : TS := fun D σ H => te σ H D.rt
theorem ps_ret (he : PE X e te) : PS X (.Return (some e) pos) (tRet te) := by
  intro pins s σ H D I h
  exact wpAny_Return_some (thn (he pins s σ H _ I h) fun v s1 ⟨x, H1, I1, r1, q1⟩ => ⟨x, σ, H1, I1, r1, q1⟩)
noncomputable def tIfS (c : TT) (t u : TS) : TS := fun D σ H => c σ H fun b H1 => if b = true then t D σ H1 else u D σ H1
theorem ps_if {c : Expr} {a b : List Stmt} {tc : TT} (hc : PT X c tc) (ha : PSs X a t) (hb : PSs X b u) : PS X (.If c a b pos) (tIfS tc t u) := by
  intro pins s σ H D I h
  refine wpAny_If (thn (hc pins s σ H _ I h) fun d s1 ⟨H1, I1, q1⟩ => ?_)
  cases d with
  | true => exact ha pins s1 σ H1 D I1 q1
  | false => exact hb pins s1 σ H1 D I1 q1
end
noncomputable abbrev TG := V -> St -> Hp -> (St -> Hp -> Prop) -> Prop
noncomputable abbrev TGs := List V -> St -> Hp -> (St -> Hp -> Prop) -> Prop
noncomputable def PG (X : Cx) (target : Expr) (t : TG) : Prop :=
  ∀ (pins : List (Addr × Obj)) (s : Shared) (σ : St) (H : Hp) (v : V) (u : Value) (Q : St -> Hp -> Prop), Inv X pins σ H s -> RelV v u -> t v σ H Q ->
    wpAny (model X.prog X.w) X.A (assign target X.env u) (fun _ s' => ∃ σ' H', Inv X pins σ' H' s' /\ Q σ' H') X.xe s
noncomputable def PGs (X : Cx) (ts : List Expr) (t : TGs) : Prop :=
  ∀ (pins : List (Addr × Obj)) (s : Shared) (σ : St) (H : Hp) (vs : List V) (us : List Value) (Q : St -> Hp -> Prop), Inv X pins σ H s -> Vals vs us -> t vs σ H Q ->
    wpAny (model X.prog X.w) X.A (assignInOrder ((assignEach ts X.env).map (·.2)) us) (fun _ s' => ∃ σ' H', Inv X pins σ' H' s' /\ Q σ' H') X.xe s
noncomputable abbrev TSet := V -> V -> V -> Hp -> (Hp -> Prop) -> Prop
noncomputable def PSet (X : Cx) (t : TSet) : Prop :=
  ∀ (pins : List (Addr × Obj)) (s : Shared) (σ : St) (H : Hp) (o i v : V) (ov iv u : Value) (Q : Hp -> Prop), Inv X pins σ H s -> RelV o ov -> RelV i iv -> RelV v u -> t o i v H Q ->
    wpAny (model X.prog X.w) X.A (setItem ov iv u) (fun _ s' => ∃ H', Inv X pins σ H' s' /\ Q H') X.xe s
noncomputable abbrev TIp := V -> V -> Hp -> VK -> Prop
noncomputable def PIp (X : Cx) (op : Operator) (t : TIp) : Prop :=
  ∀ (pins : List (Addr × Obj)) (s : Shared) (σ : St) (H : Hp) (x y : V) (v u : Value) (Q : VK), Inv X pins σ H s -> RelV x v -> RelV y u -> t x y H Q ->
    wpAny (model X.prog X.w) X.A (inplaceOp op v u) (EP X pins σ Q) X.xe s
section
variable {X : Cx} {pos : Pos}
noncomputable def gName (i : Nat) : TG := fun v σ H Q => Q (σ.set i (some v)) H
theorem pg_name {i : Nat} {x : Str} (hN : X.N.Nodup) (hi : X.N[i]? = some x) (hx : Loc X.env.scope x) (hf : autoParam (X.fn x = true \/ X.env.scope.names.lookup x = some .local) L2.au0._auto_1) : PG X (.Name x pos) (gName i) := by
  intro pins s σ H v u Q I r h
  exact wpAny_assign_Name (store_ok I hN hi hx r (fun s' I' => ⟨_, H, I', h⟩) hf)
noncomputable def gNil : TGs := fun vs σ H Q => vs = [] /\ Q σ H
noncomputable def gCons (t : TG) (u : TGs) : TGs := fun vs σ H Q => ∃ v r, vs = v :: r /\ t v σ H fun σ' H' => u r σ' H' Q
theorem pgs_nil : PGs X [] gNil := by
  intro pins s σ H vs us Q I r h
  obtain ⟨e, h⟩ := h
  subst e
  cases r
  exact assignInOrder_nil ⟨σ, H, I, h⟩
theorem pgs_cons {e : Expr} {es : List Expr} {t : TG} {u : TGs} (h1 : PG X e t) (h2 : PGs X es u)
    (hs : autoParam ((assignEach (e :: es) X.env).map (·.2) = assign e X.env :: (assignEach es X.env).map (·.2)) L2.au3._auto_1) : PGs X (e :: es) (gCons t u) := by
  intro pins s σ H vs us Q I r h
  obtain ⟨v, vr, e1, h⟩ := h
  subst e1
  cases r with
  | cons r rr =>
    rw [hs]
    refine assignInOrder_cons (thn (h1 pins s σ H _ _ _ I r h) fun _ s1 ⟨σ1, H1, I1, q1⟩ => ?_)
    exact h2 pins s1 σ1 H1 _ _ Q I1 rr q1
noncomputable def gTup (K : PySem.W.Frag) (n : Nat) (t : TGs) : TG := fun v σ H Q => ∃ a xs, v = .ref a /\ SqT K H a xs /\ xs.length = n /\ t xs σ H Q
theorem pg_tup {es : List Expr} {k : Nat} {t : TGs} {n : Nat} (hc : X.calm = true) (h : PGs X es t)
    (hn : autoParam ((assignEach es X.env).length = n) L2.au3._auto_1) (hst : autoParam ((assignEach es X.env).findIdx? (·.1) = none) L2.au3._auto_1) : PG X (.Tuple es k pos) (gTup X.K n t) := by
  intro pins s σ H v u Q I r hw
  obtain ⟨a, xs, e1, hq, hl, hw⟩ := hw
  subst e1
  cases r
  obtain ⟨its, rv, ht, hz⟩ := I.tuple hq
  refine assign_Tuple_tuple (I.ok.hd hc) ht (by simp [hn, <- hl, rv.length]) hst fun h' hx => ?_
  have I1 : Inv X pins σ H { s with heap := h' } := I.kept (t' := s.toks) fun b o e => hx b o (Nat.ne_of_lt (Heap.lt_size e)) e
  exact h pins _ σ H xs _ Q I1 (by simpa using rv) hw
noncomputable def gSub (to ti : TE) (t : TSet) : TG := fun v σ H Q => to σ H fun o H1 => ti σ H1 fun i H2 => t o i v H2 fun H3 => Q σ H3
theorem pg_sub {o i : Expr} {to ti : TE} {t : TSet} (ho : PE X o to) (hi : PE X i ti) (hs : PSet X t)
    (ha : autoParam (∀ v, assign (.Subscript o i pos) X.env v = (do
      let ov <- holding [v] (eval o X.env)
      let iv <- holding [v, ov] (eval i X.env)
      standAt pos
      holding [v, ov, iv] (setItem ov iv v)
      release [v, ov, iv] [])) L2.au2._auto_1) : PG X (.Subscript o i pos) (gSub to ti t) := by
  intro pins s σ H v u Q I r h
  rw [ha]
  refine wpAny_bind (wpAny_holding (thn (ho pins s σ H _ I h) fun ov s1 ⟨x, H1, I1, r1, q1⟩ => ?_))
  refine wpAny_bind (wpAny_holding (thn (hi pins s1 σ H1 _ I1 q1) fun iv s2 ⟨y, H2, I2, r2, q2⟩ => ?_))
  refine wpAny_bind (wpAny_standAt (wpAny_bind (wpAny_holding (thn (hs pins s2 σ H2 x y v ov iv u _ I2 r1 r2 r q2) fun _ s3 ⟨H3, I3, q3⟩ => ?_))))
  exact wpAny_release ⟨σ, H3, I3, q3⟩
noncomputable def tAsg (te : TE) (g : TG) : TS := fun D σ H => te σ H fun x H1 => g x σ H1 D.nx
theorem ps_asg {tg e : Expr} {te : TE} {g : TG} (he : PE X e te) (hg : PG X tg g) (hs : autoParam (swapsWithSole [tg] e pos.line X.env = pure false) L2.au3._auto_1) (hw : autoParam (swappedStores [tg] e X.env = pure none) L2.au3._auto_1)
    (h1 : autoParam ((assignEach [tg] X.env).map (·.2) = [assign tg X.env]) L2.au3._auto_1) : PS X (.Assign [tg] e pos) (tAsg te g) := by
  intro pins s σ H D I h
  refine wpAny_Assign_stores (thn (he pins s σ H _ I h) fun v s1 ⟨x, H1, I1, r1, q1⟩ => ?_) hs hw
  rw [h1]
  exact thn (hg pins s1 σ H1 x v _ I1 r1 q1) fun _ s2 q => q
theorem ps_set {i : Nat} {x : Str} {e : Expr} {te : TE} {pos' : Pos} (hN : X.N.Nodup) (hi : X.N[i]? = some x) (hx : Loc X.env.scope x) (he : PE X e te) (hs : autoParam (swapsWith e (some (.Name x pos')) pos.line X.env = pure false) L2.au3._auto_1) (hf : autoParam (X.fn x = true \/ X.env.scope.names.lookup x = some .local) L2.au0._auto_1) :
    PS X (.Assign [.Name x pos'] e pos) (tAsg te (gName i)) := by
  intro pins s σ H D I h
  refine wpAny_Assign_Name (thn (he pins s σ H _ I h) fun v s1 ⟨y, H1, I1, r1, q1⟩ => ?_) hs
  exact store_ok I1 hN hi hx r1 (fun s2 I2 => ⟨_, H1, I2, q1⟩) hf
end
section
variable {X : Cx} {pos : Pos}
end
structure It where
  go : Nat -> Hp -> Prop
  yld : Nat -> Hp -> V -> Hp -> Prop
  stop : Nat -> Hp -> Prop
noncomputable def FpOk (X : Cx) (pins : List (Addr × Obj)) (H : Hp) (b : Addr) : Prop :=
  H b = none /\ b ≠ X.env.locals /\ b ∉ X.fs /\ (b ∈ X.ex \/ X.s₀.heap.objs.size <= b) /\ (∀ x c, X.env.cells.lookup x = some c -> c ≠ b) /\ ∀ p ∈ X.pn ++ pins, p.1 ≠ b
theorem Inv.fpOk {X : Cx} {pins : List (Addr × Obj)} {σ : St} {H H' : Hp} {s : Shared} {b : Addr} (I : Inv X pins σ H s) (hb : s.heap.objs.size <= b) (hn : H' b = none) : FpOk X pins H' b := by
  refine ⟨hn, Nat.ne_of_gt (Nat.lt_of_lt_of_le I.lt hb), I.nofs hb, .inr (Nat.le_trans I.sz hb), fun x c e z => ?_, fun p hp z => ?_⟩
  · obtain ⟨v, q⟩ := I.cell x c e
    exact absurd (Nat.lt_of_lt_of_le q.lt (by rw [z]; exact hb)) (Nat.lt_irrefl _)
  · exact absurd (Nat.lt_of_lt_of_le (Heap.lt_size (I.pin p hp).1) (by rw [z]; exact hb)) (Nat.lt_irrefl _)
structure Turn (P : Program) (w : World) (K : PySem.W.Frag) (tg : Expr) (J : It) (fp : List Addr) (it : Addr) (tn : Nat -> Heap -> Prop) : Prop where
  mem : it ∈ fp
  obj : ∀ i h, tn i h -> ∀ b ∈ fp, ∃ o, h.get? b = some o /\ ∀ v, o.data ≠ .cell v
  keep : ∀ i h h', tn i h -> (∀ b ∈ fp, ∀ o, h.get? b = some o -> h'.get? b = some o) -> tn i h'
  item : ∀ (X : Cx), X.prog = P -> X.w = w -> X.K = K -> X.calm = true -> ∀ (i : Nat) (pins : List (Addr × Obj)) (s : Shared) (σ : St) (H : Hp) (E : Value -> Shared -> Prop), Inv X pins σ H s -> (∀ b ∈ fp, FpOk X pins H b) -> tn i s.heap -> J.go i H ->
    wpAny (model P w) X.A (pyNext (.ref it)) (fun r s1 => ∃ u, r = some u /\
      wpAny (model P w) X.A (letOwnedTupleGo tg (.ref it) u) (fun _ s2 => ∃ x H', Inv X pins σ H' s2 /\ RelV x u /\ J.yld i H x H' /\ tn (i + 1) s2.heap /\ ∀ b ∈ fp, H' b = none) E s1) E s
  done : ∀ (X : Cx), X.prog = P -> X.w = w -> X.K = K -> X.calm = true -> ∀ (i : Nat) (pins : List (Addr × Obj)) (s : Shared) (σ : St) (H : Hp) (E : Value -> Shared -> Prop), Inv X pins σ H s -> (∀ b ∈ fp, FpOk X pins H b) -> tn i s.heap -> J.stop i H ->
    wpAny (model P w) X.A (pyNext (.ref it)) (fun r s1 => r = none /\ Inv X pins σ H s1) E s
  self : ∀ (A : Around) (i : Nat) (s : Shared) (Q : Value -> Shared -> Prop) (E : Value -> Shared -> Prop), tn i s.heap -> Q (.ref it) s -> wpAny (model P w) A (pyIter (.ref it)) Q E s
noncomputable abbrev TI := St -> Hp -> (It -> Hp -> Prop) -> Prop
noncomputable def PIE (X : Cx) (pins : List (Addr × Obj)) (σ : St) (tg : Expr) (R : It -> Hp -> Prop) (itv : Value) (s2 : Shared) : Prop :=
  ∃ (it : Addr) (fp : List Addr) (tn : Nat -> Heap -> Prop) (J : It) (H' : Hp), itv = .ref it /\ Inv X pins σ H' s2 /\ Turn X.prog X.w X.K tg J fp it tn /\ tn 0 s2.heap /\ (∀ b ∈ fp, FpOk X pins H' b) /\ R J H'
noncomputable def PI (X : Cx) (tg iter : Expr) (wi : TI) : Prop :=
  ∀ (pins : List (Addr × Obj)) (s : Shared) (σ : St) (H : Hp) (R : It -> Hp -> Prop), Inv X pins σ H s -> wi σ H R ->
    wpAny (model X.prog X.w) X.A (eval iter X.env) (fun v s1 => wpAny (model X.prog X.w) X.A (pyIter v) (PIE X pins σ tg R) X.xe s1) X.xe s
theorem go_of {M : Model} {A : Around} {E : Value -> Shared -> Prop} {s : Shared} {tg : Expr} {it : Addr} {u : Value} {o : Obj} {n : String} {vs : Array Value} {Q : Unit -> Shared -> Prop} (ho : s.heap.get? it = some o) (hc : o.cls = .type n) (hd : o.data = .fields vs)
    (hn : ["enumerate", "zip", "dict_itemiterator", "dict_reverseitemiterator", "odict_iterator", "itertools.zip_longest", "itertools.pairwise"].contains n = false) (hQ : Q () s) : wpAny M A (letOwnedTupleGo tg (.ref it) u) Q E s := by
  unfold letOwnedTupleGo
  cases tg <;> first
    | exact wpAny_pure hQ
    | (cases u <;> first
        | exact wpAny_pure hQ
        | (refine wpAny_bind (wpAny_load ho ?_)
           rw [hc, hd]
           show wpAny M A (if (["enumerate", "zip", "dict_itemiterator", "dict_reverseitemiterator", "odict_iterator", "itertools.zip_longest", "itertools.pairwise"].contains n && vs[0]? == some (rawInt _)) = true then _ else _) Q E s
           rw [if_neg (by intro h; rw [hn, Bool.false_and] at h; cases h)]
           exact wpAny_pure hQ))
noncomputable def Itl (K : PySem.W.Frag) (a : Addr) : It :=
  ⟨fun i H => ∃ xs x, SqL K H a xs /\ xs[i]? = some x, fun i H x H' => H' = H /\ ∀ xs, SqL K H a xs -> xs[i]? = some x, fun i H => ∃ xs, SqL K H a xs /\ xs.length <= i⟩
noncomputable def Itt (K : PySem.W.Frag) (a : Addr) : It :=
  ⟨fun i H => ∃ xs x, SqT K H a xs /\ xs[i]? = some x, fun i H x H' => H' = H /\ ∀ xs, SqT K H a xs -> xs[i]? = some x, fun i H => ∃ xs, SqT K H a xs /\ xs.length <= i⟩
noncomputable def Itr (lo : Int) (n : Nat) : It := ⟨fun i _ => i < n, fun i H x H' => H' = H /\ x = .int (lo + i), fun i _ => n <= i⟩
theorem turn_list {P : Program} {w : World} {K : PySem.W.Frag} {tg : Expr} (a it : Addr) : Turn P w K tg (Itl K a) [it] it (fun i h => h.IsListIter it a i) where
  mem := by simp
  obj := fun i h st b hb => by
    have e : b = it := by simpa using hb
    subst e
    obtain ⟨o, e, c, d⟩ := st
    exact ⟨o, e, fun v z => by rw [d] at z; cases z⟩
  keep := fun i h h' st k => st.at fun o e => k it (by simp) o e
  item := by
    intro X hP hw hK hc i pins s σ H E I hf st hg
    subst hP hw hK
    obtain ⟨xs, x, hq, hx⟩ := hg
    obtain ⟨its, rv, p, hz⟩ := I.list hq
    obtain ⟨u, hu, ru⟩ := rv.get hx
    obtain ⟨f0, f1, f2, f3, f4, f5⟩ := hf it (by simp)
    refine wpAny_pyNext_list_item st p.isList (x := u) (by simpa using hu) fun h' st' sb => ?_
    have I1 : Inv X pins σ H { s with heap := h' } := I.turned (t' := s.toks) (fun b o hb e => (sb.2 b hb).trans e) f0 f1 f3 f4 f5
    obtain ⟨o, e, c, d⟩ := id st'
    exact ⟨u, rfl, go_of (s := { s with heap := h' }) e c d (by decide) ⟨x, H, I1, ru, ⟨rfl, fun ys hy => by rw [I.list_inj hy hq]; exact hx⟩, st', fun b hb => (hf b hb).1⟩⟩
  done := by
    intro X hP hw hK hc i pins s σ H E I hf st hg
    subst hP hw hK
    obtain ⟨xs, hq, hx⟩ := hg
    obtain ⟨its, rv, p, hz⟩ := I.list hq
    obtain ⟨f0, f1, f2, f3, f4, f5⟩ := hf it (by simp)
    have hl := rv.length
    exact wpAny_pyNext_list_end (I.ok.hd hc) st p.isList (by simp; omega) fun h' eb => ⟨rfl, I.turned (t' := s.toks) (fun b o hb e => eb b o hb e) f0 f1 f3 f4 f5⟩
  self := fun _ _ _ _ _ st h => wpAny_pyIter_listiter st h
theorem turn_tuple {P : Program} {w : World} {K : PySem.W.Frag} {tg : Expr} (a it : Addr) : Turn P w K tg (Itt K a) [it] it (fun i h => h.IsTupleIter it a i) where
  mem := by simp
  obj := fun i h st b hb => by
    have e : b = it := by simpa using hb
    subst e
    obtain ⟨o, e, c, d⟩ := st
    exact ⟨o, e, fun v z => by rw [d] at z; cases z⟩
  keep := fun i h h' st k => st.at fun o e => k it (by simp) o e
  item := by
    intro X hP hw hK hc i pins s σ H E I hf st hg
    subst hP hw hK
    obtain ⟨xs, x, hq, hx⟩ := hg
    obtain ⟨its, rv, p, hz⟩ := I.tuple hq
    obtain ⟨u, hu, ru⟩ := rv.get hx
    obtain ⟨f0, f1, f2, f3, f4, f5⟩ := hf it (by simp)
    refine wpAny_pyNext_tuple_item st (show s.heap.IsTuple a its.toArray from p) (x := u) (by simpa using hu) fun h' st' sb => ?_
    have I1 : Inv X pins σ H { s with heap := h' } := I.turned (t' := s.toks) (fun b o hb e => (sb.2 b hb).trans e) f0 f1 f3 f4 f5
    obtain ⟨o, e, c, d⟩ := id st'
    exact ⟨u, rfl, go_of (s := { s with heap := h' }) e c d (by decide) ⟨x, H, I1, ru, ⟨rfl, fun ys hy => by rw [I.tuple_inj hy hq]; exact hx⟩, st', fun b hb => (hf b hb).1⟩⟩
  done := by
    intro X hP hw hK hc i pins s σ H E I hf st hg
    subst hP hw hK
    obtain ⟨xs, hq, hx⟩ := hg
    obtain ⟨its, rv, p, hz⟩ := I.tuple hq
    obtain ⟨f0, f1, f2, f3, f4, f5⟩ := hf it (by simp)
    have hl := rv.length
    exact wpAny_pyNext_tuple_end (I.ok.hd hc) st (show s.heap.IsTuple a its.toArray from p) (by simp; omega) fun h' eb => ⟨rfl, I.turned (t' := s.toks) (fun b o hb e => eb b o hb e) f0 f1 f3 f4 f5⟩
  self := fun _ _ _ _ _ st h => wpAny_pyIter_tupleiter st h
end L2
namespace L2
open PySem PySem.Spec PyProof.Rows
section
variable {X : Cx} {tg : Expr}
noncomputable def iList (K : PySem.W.Frag) (tl : TE) : TI := fun σ H R => tl σ H fun x H1 => ∃ a, x = .ref a /\ (∃ xs, SqL K H1 a xs) /\ R (Itl K a) H1
noncomputable def iTup (K : PySem.W.Frag) (tl : TE) : TI := fun σ H R => tl σ H fun x H1 => ∃ a, x = .ref a /\ (∃ xs, SqT K H1 a xs) /\ R (Itt K a) H1
theorem pi_list {l : Expr} {tl : TE} (hl : PE X l tl) : PI X tg l (iList X.K tl) := by
  intro pins s σ H R I h
  refine thn (hl pins s σ H _ I h) fun v s1 ⟨x, H1, I1, r1, q1⟩ => ?_
  obtain ⟨a, e, ⟨xs, hq⟩, q⟩ := q1
  subst e
  cases r1
  obtain ⟨its, rv, p, hz⟩ := I1.list hq
  refine wpAny_pyIter_list p.isList ?_
  refine ⟨s1.heap.objs.size, [s1.heap.objs.size], _, _, H1, rfl, I1.kept (t' := s1.toks) fun b o e => Heap.get?_push_of_some _ e, turn_list a _, ⟨_, Heap.get?_push_size _ rfl, rfl, rfl⟩, fun b hb => ?_, q⟩
  have e : b = s1.heap.objs.size := by simpa using hb
  subst e
  exact I1.fpOk (Nat.le_refl _) (I1.hok.fresh (Nat.le_refl _))
theorem pi_tup {l : Expr} {tl : TE} (hl : PE X l tl) : PI X tg l (iTup X.K tl) := by
  intro pins s σ H R I h
  refine thn (hl pins s σ H _ I h) fun v s1 ⟨x, H1, I1, r1, q1⟩ => ?_
  obtain ⟨a, e, ⟨xs, hq⟩, q⟩ := q1
  subst e
  cases r1
  obtain ⟨its, rv, p, hz⟩ := I1.tuple hq
  refine wpAny_pyIter_tuple (show s1.heap.IsTuple a its.toArray from p) ?_
  refine ⟨s1.heap.objs.size, [s1.heap.objs.size], _, _, H1, rfl, I1.kept (t' := s1.toks) fun b o e => Heap.get?_push_of_some _ e, turn_tuple a _, ⟨_, Heap.get?_push_size _ rfl, rfl, rfl⟩, fun b hb => ?_, q⟩
  have e : b = s1.heap.objs.size := by simpa using hb
  subst e
  exact I1.fpOk (Nat.le_refl _) (I1.hok.fresh (Nat.le_refl _))
noncomputable def tFor (wi : TI) (g : TG) (tb : TS) : TS := fun D σ H => wi σ H fun J H1 => ∃ W : Nat -> Nat -> St -> Hp -> Prop, (∃ m, W 0 m σ H1) /\ ∀ i m σ H, W i m σ H ->
  (J.stop i H /\ D.nx σ H) \/ (J.go i H /\ ∃ N : St -> Hp -> Prop, (∀ σ' H', N σ' H' -> ∃ m', m' < m /\ W (i + 1) m' σ' H') /\ ∀ x H', J.yld i H x H' -> g x σ H' fun σ2 H2 => tb { D with nx := N, ct := N, bk := D.nx } σ2 H2)
noncomputable def pinsAt (fp : List Addr) (h : Heap) : List (Addr × Obj) := fp.filterMap fun b => (h.get? b).map fun o => (b, o)
theorem mem_pinsAt {fp : List Addr} {h : Heap} {b : Addr} {o : Obj} (hb : b ∈ fp) (e : h.get? b = some o) : (b, o) ∈ pinsAt fp h := List.mem_filterMap.mpr ⟨b, hb, by rw [e]; rfl⟩
theorem of_pinsAt {fp : List Addr} {h : Heap} {p : Addr × Obj} (hp : p ∈ pinsAt fp h) : p.1 ∈ fp /\ h.get? p.1 = some p.2 := by
  obtain ⟨b, hb, e⟩ := List.mem_filterMap.mp hp
  cases q : h.get? b with
  | none => rw [q] at e; cases e
  | some o =>
    rw [q] at e
    have e' : (b, o) = p := Option.some.inj e
    subst e'
    exact ⟨hb, q⟩
theorem Inv.pinned {pins : List (Addr × Obj)} {σ : St} {H : Hp} {s : Shared} {fp : List Addr} (I : Inv X pins σ H s) (hf : ∀ b ∈ fp, FpOk X pins H b) (ho : ∀ b ∈ fp, ∃ o, s.heap.get? b = some o /\ ∀ v, o.data ≠ .cell v) : Inv X (pins ++ pinsAt fp s.heap) σ H s :=
  I.pins_of fun p hp => (List.mem_append.mp hp).elim (fun z => I.pin p (List.mem_append_right _ z)) fun z => by
    obtain ⟨hb, e⟩ := of_pinsAt z
    obtain ⟨f0, f1, f2, _⟩ := hf p.1 hb
    obtain ⟨o, e', d⟩ := ho p.1 hb
    rw [e] at e'; cases e'
    exact ⟨e, f0, f1, f2, d⟩
theorem Inv.unpinned {pins pl : List (Addr × Obj)} {σ : St} {H : Hp} {s : Shared} (I : Inv X (pins ++ pl) σ H s) : Inv X pins σ H s := I.pins_of fun p hp => I.pin p (List.mem_append_right _ (List.mem_append_left _ hp))
theorem ps_for {iter : Expr} {body : List Stmt} {wi : TI} {g : TG} {tb : TS} {pos : Pos} (hp : PassesOwn (model X.prog X.w) X.A X.env X.xe) (hc : X.calm = true) (hi : PI X tg iter wi) (hg : PG X tg g) (hb : PSs X body tb)
    (hs : autoParam (∀ x, foldedSetIterable iter X.env x = pure x) L2.au2._auto_1) : PS X (.For tg iter body [] pos) (tFor wi g tb) := by
  intro pins s σ H D I h
  refine wpAny_For (thn (hi pins s σ H _ I h) fun v s1 h1 => thn h1 fun itv s2 h2 => ?_) hs
  obtain ⟨it, fp, tn, J, H2, e, I2, T, st2, f2, W, ⟨m0, w0⟩, turn⟩ := h2
  subst e
  have stat : ∀ {H' : Hp}, (∀ b ∈ fp, H' b = none) -> ∀ b ∈ fp, FpOk X pins H' b := fun hn b hb => ⟨hn b hb, (f2 b hb).2⟩
  refine codeAny_forLoop_any (fun n s' => ∃ i σ' H', Inv X pins σ' H' s' /\ tn i s'.heap /\ (∀ b ∈ fp, H' b = none) /\ W i n σ' H') ?_ m0 ⟨0, σ, H2, I2, st2, fun b hb => (f2 b hb).1, w0⟩
  rintro n s3 ⟨i, σ3, H3, I3, st3, fr3, w3⟩
  rcases turn i n σ3 H3 w3 with ⟨stop, qn⟩ | ⟨go, N, hN, step⟩
  · refine wpAny_passesOwn hp (thn (T.done X rfl rfl rfl hc i pins s3 σ3 H3 X.xe I3 (stat fr3) st3 stop) fun r s4 ⟨hr, I4⟩ => ?_)
    subst hr
    exact wpAny_execs_nil ⟨σ3, H3, I4, qn⟩
  · refine wpAny_passesOwn hp (thn (T.item X rfl rfl rfl hc i pins s3 σ3 H3 X.xe I3 (stat fr3) st3 go) fun r s4 ⟨u, hr, h4⟩ => ?_)
    subst hr
    refine wpAny_passesOwn hp (thn h4 fun _ s5 ⟨x, H5, I5, r5, y5, st5, fr5⟩ => ?_)
    have I5' := I5.pinned (stat fr5) (T.obj _ _ st5)
    refine wpAny_passesOwn hp (thn (hg _ s5 σ3 H5 x u _ I5' r5 (step x H5 y5)) fun _ s6 ⟨σ6, H6, I6, q6⟩ => ?_)
    refine wpAny_passesOwn hp (thn (hb _ s6 σ6 H6 _ I6 q6) fun f s7 q7 => ?_)
    have again : ∀ {σ7 : St} {H7 : Hp}, Inv X (pins ++ pinsAt fp s5.heap) σ7 H7 s7 -> N σ7 H7 -> ∃ m, m < n /\ ∃ i σ' H', Inv X pins σ' H' s7 /\ tn i s7.heap /\ (∀ b ∈ fp, H' b = none) /\ W i m σ' H' := fun {σ7 H7} I7 n7 => by
      obtain ⟨m', hm, w7⟩ := hN σ7 H7 n7
      refine ⟨m', hm, i + 1, σ7, H7, I7.unpinned, T.keep _ _ _ st5 fun b hb o e => (I7.pin (b, o) (List.mem_append_right _ (List.mem_append_right _ (mem_pinsAt hb e)))).1, fun b hb => ?_, w7⟩
      obtain ⟨o, e, d⟩ := T.obj _ _ st5 b hb
      exact (I7.pin (b, o) (List.mem_append_right _ (List.mem_append_right _ (mem_pinsAt hb e)))).2.1
    cases f with
    | next => obtain ⟨σ7, H7, I7, n7⟩ := q7; exact again I7 n7
    | cont => obtain ⟨σ7, H7, I7, n7⟩ := q7; exact again I7 n7
    | brk => obtain ⟨σ7, H7, I7, q7⟩ := q7; exact ⟨σ7, H7, I7.unpinned, q7⟩
    | ret v => obtain ⟨x7, σ7, H7, I7, r7, q7⟩ := q7; exact ⟨x7, σ7, H7, I7.unpinned, r7, q7⟩
end
end L2
namespace L2
open PySem PySem.Spec PyProof.Rows
noncomputable abbrev R2 := V -> V -> Hp -> VK -> Prop
noncomputable def OpR (X : Cx) (f : Value -> Value -> Sem Value) (r : R2) : Prop :=
  ∀ (pins : List (Addr × Obj)) (s : Shared) (σ : St) (H : Hp) (x y : V) (v u : Value) (Q : VK), Inv X pins σ H s -> RelV x v -> RelV y u -> r x y H Q ->
    wpAny (model X.prog X.w) X.A (f v u) (EP X pins σ Q) X.xe s
noncomputable def UnR (X : Cx) (f : Value -> Sem Value) (r : V -> Hp -> VK -> Prop) : Prop :=
  ∀ (pins : List (Addr × Obj)) (s : Shared) (σ : St) (H : Hp) (x : V) (v : Value) (Q : VK), Inv X pins σ H s -> RelV x v -> r x H Q ->
    wpAny (model X.prog X.w) X.A (f v) (EP X pins σ Q) X.xe s
noncomputable def CallR (X : Cx) (f : Value) (r : List V -> Hp -> VK -> Prop) : Prop :=
  ∀ (pins : List (Addr × Obj)) (s : Shared) (σ : St) (H : Hp) (xs : List V) (us : List Value) (Q : VK), Inv X pins σ H s -> Vals xs us -> r xs H Q ->
    wpAny (model X.prog X.w) X.A (call f us) (EP X pins σ Q) X.xe s
noncomputable def tOp (r : R2) (ta tb : TE) : TE := fun σ H Q => ta σ H fun x H1 => tb σ H1 fun y H2 => r x y H2 Q
noncomputable def tUn (r : V -> Hp -> VK -> Prop) (ta : TE) : TE := fun σ H Q => ta σ H fun x H1 => r x H1 Q
noncomputable def rI (C : Int -> Int -> Prop) (g : Int -> Int -> V) : R2 := fun x y H Q => ∃ i j, x = .int i /\ y = .int j /\ C i j /\ Q (g i j) H
noncomputable def rI0 (g : Int -> Int -> V) : R2 := fun x y H Q => ∃ i j, x = .int i /\ y = .int j /\ Q (g i j) H
noncomputable def rU (g : Int -> V) : V -> Hp -> VK -> Prop := fun x H Q => ∃ i, x = .int i /\ Q (g i) H
section
variable {X : Cx} {a b c : Expr} {ta tb tc : TE} {pos : Pos}
theorem binT (ha : PE X a ta) (hb : PE X b tb) {pins : List (Addr × Obj)} {s : Shared} {σ : St} {H : Hp} {R : V -> V -> Hp -> Prop} (I : Inv X pins σ H s)
    (h : ta σ H fun x H1 => tb σ H1 fun y H2 => R x y H2) {Q : Value -> Shared -> Prop} {f : Value -> Value -> Sem Value}
    (hf : ∀ v u s2 x y H2, Inv X pins σ H2 s2 -> RelV x v -> RelV y u -> R x y H2 -> wpAny (model X.prog X.w) X.A (f v u) Q X.xe s2) :
    wpAny (model X.prog X.w) X.A (eval a X.env) (fun v s₁ => wpAny (model X.prog X.w) X.A (eval b X.env) (fun u s₂ => wpAny (model X.prog X.w) X.A (f v u) Q X.xe s₂) X.xe s₁) X.xe s := by
  refine thn (ha pins s σ H _ I h) fun v s1 ⟨x, H1, I1, r1, q1⟩ => ?_
  refine thn (hb pins s1 σ H1 _ I1 q1) fun u s2 ⟨y, H2, I2, r2, q2⟩ => ?_
  exact hf v u s2 x y H2 I2 r1 r2 q2
theorem pe_op {op : Operator} {r : R2} (ho : OpR X (binaryOp op) r) (ha : PE X a ta) (hb : PE X b tb) : PE X (.BinOp a op b pos) (tOp r ta tb) := by
  intro pins s σ H Q I h
  exact wpAny_BinOp (binT ha hb I h fun v u s2 x y H2 I2 rx ry q => ho pins s2 σ H2 x y v u Q I2 rx ry q)
theorem pe_un {op : UnaryOp} {r : V -> Hp -> VK -> Prop} (ho : UnR X (unaryOp op) r) (ha : PE X a ta) : PE X (.UnaryOp op a pos) (tUn r ta) := by
  intro pins s σ H Q I h
  exact UnaryOp_ (thn (ha pins s σ H _ I h) fun v s1 ⟨x, H1, I1, r1, q1⟩ => ho pins s1 σ H1 x v Q I1 r1 q1)
theorem opI {f : Value -> Value -> Sem Value} {C : Int -> Int -> Prop} {g : Int -> Int -> Int}
    (rule : ∀ (i j : Int) (t u : Tok) (s : Shared) (Q : Value -> Shared -> Prop) (E : Value -> Shared -> Prop), C i j -> Q (.int (g i j) s.toks) { s with toks := s.toks + 1 } -> wpAny (model X.prog X.w) X.A (f (.int i t) (.int j u)) Q E s) :
    OpR X f (rI C fun i j => .int (g i j)) := by
  intro pins s σ H x y v u Q I rx ry h
  obtain ⟨i, j, rfl, rfl, hc, q⟩ := h
  obtain ⟨t, rfl⟩ := rx
  obtain ⟨t', rfl⟩ := ry
  exact rule i j t t' s _ _ hc ⟨.int (g i j), H, I.tok _, ⟨_, rfl⟩, q⟩
theorem opI0 {f : Value -> Value -> Sem Value} {g : Int -> Int -> Int}
    (rule : ∀ (i j : Int) (t u : Tok) (s : Shared) (Q : Value -> Shared -> Prop) (E : Value -> Shared -> Prop), Q (.int (g i j) s.toks) { s with toks := s.toks + 1 } -> wpAny (model X.prog X.w) X.A (f (.int i t) (.int j u)) Q E s) :
    OpR X f (rI0 fun i j => .int (g i j)) := by
  intro pins s σ H x y v u Q I rx ry h
  obtain ⟨i, j, rfl, rfl, q⟩ := h
  obtain ⟨t, rfl⟩ := rx
  obtain ⟨t', rfl⟩ := ry
  exact rule i j t t' s _ _ ⟨.int (g i j), H, I.tok _, ⟨_, rfl⟩, q⟩
theorem opB0 {f : Value -> Value -> Sem Value} {g : Int -> Int -> Bool}
    (rule : ∀ (i j : Int) (t u : Tok) (s : Shared) (Q : Value -> Shared -> Prop) (E : Value -> Shared -> Prop), Q (.bool (g i j)) s -> wpAny (model X.prog X.w) X.A (f (.int i t) (.int j u)) Q E s) :
    OpR X f (rI0 fun i j => .bl (g i j)) := by
  intro pins s σ H x y v u Q I rx ry h
  obtain ⟨i, j, rfl, rfl, q⟩ := h
  obtain ⟨t, rfl⟩ := rx
  obtain ⟨t', rfl⟩ := ry
  exact rule i j t t' s _ _ ⟨.bl (g i j), H, I, rfl, q⟩
noncomputable def CDiv (i j : Int) : Prop := 0 < j /\ j < 1073741824
noncomputable def CMul (i j : Int) : Prop := (-(2 ^ 64) < i /\ i < 2 ^ 64) \/ (-(2 ^ 64) < j /\ j < 2 ^ 64)
theorem CMul.ok {i j : Int} (h : CMul i j) : IntMulOk i j := by
  rcases h with ⟨h1, h2⟩ | ⟨h1, h2⟩
  · exact .of_left (intBits_le_64 h1 h2)
  · exact .of_right (intBits_le_64 h1 h2)
theorem op_add : OpR X (binaryOp .Add) (rI0 fun i j => .int (i + j)) := opI0 fun _ _ _ _ _ _ _ q => add_int q
theorem op_sub : OpR X (binaryOp .Sub) (rI0 fun i j => .int (i - j)) := opI0 fun _ _ _ _ _ _ _ q => sub_int q
theorem op_fdiv : OpR X (binaryOp .FloorDiv) (rI CDiv fun i j => .int (i / j)) := opI fun i j _ _ _ _ _ hc q => by
  have h1 : (0 : Int) < j := hc.1
  have h2 : j < 1073741824 := hc.2
  exact floordiv_int (by omega) (by rw [Int.fdiv_eq_ediv_of_nonneg i (by omega)]; exact q) (.inl (PyProof.noPylong_small (by omega)))
theorem op_mod : OpR X (binaryOp .Mod) (rI (fun _ j => 0 < j) fun i j => .int (i % j)) := opI fun i j _ _ _ _ _ hc q => by
  have h1 : (0 : Int) < j := hc
  exact mod_int' (by omega) (by rw [Int.fmod_eq_emod_of_nonneg i (by omega)]; exact q)
theorem unI {f : Value -> Sem Value} {g : Int -> Int}
    (rule : ∀ (i : Int) (t : Tok) (s : Shared) (Q : Value -> Shared -> Prop) (E : Value -> Shared -> Prop), Q (.int (g i) s.toks) { s with toks := s.toks + 1 } -> wpAny (model X.prog X.w) X.A (f (.int i t)) Q E s) :
    UnR X f (rU fun i => .int (g i)) := by
  intro pins s σ H x v Q I rx h
  obtain ⟨i, rfl, q⟩ := h
  obtain ⟨t, rfl⟩ := rx
  exact rule i t s _ _ ⟨.int (g i), H, I.tok _, ⟨_, rfl⟩, q⟩
theorem un_neg : UnR X (unaryOp .USub) (rU fun i => .int (-i)) := unI fun _ _ _ _ _ q => neg_int q
end
section
variable {X : Cx} {a b c : Expr} {ta tb tc : TE} {pos : Pos}
theorem fin_bl {pins : List (Addr × Obj)} {σ : St} {H : Hp} {s : Shared} {Q : VK} {k k' : Bool} (I : Inv X pins σ H s) (q : Q (.bl k) H) (e : k = k') : EP X pins σ Q (.bool k') s := by
  subst e
  exact ⟨.bl k, H, I, rfl, q⟩
theorem op_lt : OpR X (compareOp .Lt) (rI0 fun i j => .bl (decide (i < j))) := opB0 fun _ _ _ _ _ _ _ q => lt_int q
theorem op_le : OpR X (compareOp .LtE) (rI0 fun i j => .bl (decide (i <= j))) := opB0 fun _ _ _ _ _ _ _ q => le_int q
theorem op_gt : OpR X (compareOp .Gt) (rI0 fun i j => .bl (decide (j < i))) := opB0 fun _ _ _ _ _ _ _ q => gt_int q
theorem OpR.or {f : Value -> Value -> Sem Value} {r r' : R2} (h : OpR X f r) (h' : OpR X f r') : OpR X f (fun x y H Q => r x y H Q \/ r' x y H Q) := by
  intro pins s σ H x y v u Q I rx ry q
  rcases q with q | q
  · exact h pins s σ H x y v u Q I rx ry q
  · exact h' pins s σ H x y v u Q I rx ry q
theorem nomark (b : Expr) {op : CmpOp} (h : autoParam (op ≠ .In) L2.au1._auto_1) (h2 : autoParam (op ≠ .NotIn) L2.au1._auto_1) : behindInMarks op b = false := by
  have e1 : (op == CmpOp.In) = false := by cases op <;> first | rfl | exact absurd rfl h
  have e2 : (op == CmpOp.NotIn) = false := by cases op <;> first | rfl | exact absurd rfl h2
  cases b with
  | Set elts k _ =>
    show (k == 0 && (op == .In || op == .NotIn) && elts.all (constantsAlone 8)) = false
    rw [e1, e2, Bool.or_self, Bool.and_false, Bool.false_and]
  | _ => rfl
theorem pe_cmpR {op : CmpOp} {r : R2} (ho : OpR X (compareOp op) r) (ha : PE X a ta) (hb : PE X b tb) (hm : behindInMarks op b = false) : PE X (.Compare a [op] [b] pos) (tOp r ta tb) := by
  intro pins s σ H Q I h
  exact wpAny_Compare1 (binT ha hb I h fun v u s2 x y H2 I2 rx ry q => ho pins s2 σ H2 x y v u Q I2 rx ry q) hm
noncomputable def tTest (t : TE) : TT := fun σ H Q => t σ H fun x H' => ∃ k, x = .bl k /\ Q k H'
theorem pt_cmpR {op : CmpOp} {r : R2} (ho : OpR X (compareOp op) r) (ha : PE X a ta) (hb : PE X b tb) (hm : behindInMarks op b = false) : PT X (.Compare a [op] [b] pos) (tTest (tOp r ta tb)) := by
  intro pins s σ H Q I h
  refine wpAny_isTrue_Compare1 (thn (ha pins s σ H _ I h) fun v s1 ⟨x, H1, I1, r1, q1⟩ => thn (hb pins s1 σ H1 _ I1 q1) fun u s2 ⟨y, H2, I2, r2, q2⟩ =>
    thn (ho pins s2 σ H2 x y v u _ I2 r1 r2 q2) fun c s3 ⟨z, H3, I3, r3, k, e, q3⟩ => ?_) hm
  subst e
  cases r3
  exact wpAny_truthy_bool ⟨H3, I3, q3⟩
noncomputable def tChain (r r' : R2) (ta tb tc : TE) : TE := fun σ H Q => ta σ H fun x H1 => tb σ H1 fun y H2 => r x y H2 fun z H3 => ∃ k, z = .bl k /\
  (if k = true then tc σ H3 fun w' H4 => r' y w' H4 Q else Q (.bl false) H3)
theorem pe_chain {op op' : CmpOp} {r r' : R2} (ho : OpR X (compareOp op) r) (ho' : OpR X (compareOp op') r') (ha : PE X a ta) (hb : PE X b tb) (hc : PE X c tc)
    (hm : autoParam (lastMarks [op, op'] [b, c] = false) L2.au4._auto_1) : PE X (.Compare a [op, op'] [b, c] pos) (tChain r r' ta tb tc) := by
  intro pins s σ H Q I h
  refine Compare_chain (thn (ha pins s σ H _ I h) fun v s1 ⟨x, H1, I1, r1, q1⟩ => chain_link (thn (hb pins s1 σ H1 _ I1 q1) fun u s2 ⟨y, H2, I2, r2, q2⟩ =>
    thn (ho pins s2 σ H2 x y v u _ I2 r1 r2 q2) fun d s3 ⟨z, H3, I3, r3, k, e, q3⟩ => ?_)) hm
  subst e
  cases r3
  refine wpAny_truthy_bool ?_
  cases k with
  | false => exact ite_ff ⟨.bl false, H3, I3, rfl, q3⟩
  | true => exact ite_tt (chain_last (thn (hc pins s3 σ H3 _ I3 q3) fun w' s4 ⟨z', H4, I4, r4, q4⟩ => ho' pins s4 σ H4 y z' u w' Q I4 r2 r4 q4))
theorem line63 : (sizeLine : Nat) < 2 ^ 63 := by rw [sizeLine_eq]; decide
theorem op_add_str : OpR X (binaryOp .Add) (fun x y H Q => ∃ i j, x = .str i /\ y = .str j /\ i.length + j.length <= sizeLine /\ Q (.str (i ++ j)) H) := by
  intro pins s σ H x y v u Q I rx ry h
  obtain ⟨i, j, rfl, rfl, hz, q⟩ := h
  obtain ⟨t, rfl⟩ := rx
  obtain ⟨t', rfl⟩ := ry
  exact add_str (fun t' tk => ⟨.str (i ++ j), H, I.tok _, ⟨_, rfl⟩, q⟩) hz
theorem vals1 {x : V} {us : List Value} (r : Vals [x] us) : ∃ u, us = [u] /\ RelV x u := by
  cases r with
  | cons r1 r2 => cases r2; exact ⟨_, rfl, r1⟩
theorem vals2 {x y : V} {us : List Value} (r : Vals [x, y] us) : ∃ u w', us = [u, w'] /\ RelV x u /\ RelV y w' := by
  cases r with
  | cons r1 r2 =>
    cases r2 with
    | cons r3 r4 => cases r4; exact ⟨_, _, rfl, r1, r3⟩
theorem call_str_int : CallR X (.type "str") (fun xs H Q => ∃ i, xs = [.int i] /\ i.natAbs.log2 < 1920 /\ Q (.str (toString i)) H) := by
  intro pins s σ H xs us Q I r h
  obtain ⟨i, rfl, hz, q⟩ := h
  obtain ⟨u, rfl, t, rfl⟩ := vals1 r
  exact PySem.P.str_of_int hz ⟨.str _, H, I.tok _, ⟨_, rfl⟩, q⟩
end
end L2
namespace L2
open PySem PySem.Spec PyProof.Rows
structure ObjM (h : Heap) (x dx C : Addr) (mA : Str -> Option Value) : Prop where
  obj : h.get? x = some (PySem.W.instObj C dx)
  ns : h.Ns1 dx mA
  ne : dx ≠ x
theorem lookIn_ns {h : Heap} {dx : Addr} {mA : Str -> Option Value} (n : h.Ns1 dx mA) : ∃ od, h.get? dx = some od /\ ∀ name, PySem.W.lookIn name od = some (mA name) := by
  obtain ⟨o, es, ep, ho, hd, hk, _, hm⟩ := n
  refine ⟨o, ho, fun name => ?_⟩
  have e := hm name
  unfold nsFind findBy at e
  rw [<- Array.find?_toList] at e
  unfold PySem.W.lookIn
  rw [hd]
  dsimp only
  split
  · rename_i y q
    rw [q] at e
    exact congrArg some e
  · rename_i q
    rw [q] at e
    have a : es.toList.any (·.refKey) = false := by
      rw [List.any_eq_false]
      intro y hy
      obtain ⟨z, t, hkey⟩ := hk y (Array.mem_toList_iff.mp hy)
      simp [DictEntry.refKey, hkey]
    have a' : ¬ es.toList.any (·.refKey) = true := by rw [a]; exact Bool.false_ne_true
    rw [if_neg a']
    exact congrArg some e
theorem ObjM.look {h : Heap} {x dx C : Addr} {mA : Str -> Option Value} (I : ObjM h x dx C mA) : ∃ od, PySem.W.InstAt h x (PySem.W.instObj C dx) C (some od) /\ ∀ name, PySem.W.lookIn name od = some (mA name) :=
  let ⟨od, ho, hl⟩ := lookIn_ns I.ns
  ⟨od, ⟨I.obj, rfl, rfl, ho⟩, hl⟩
section
variable {prog : Program} {w : World} {A : Around} {E : Value -> Shared -> Prop} {s : Shared} {K : PySem.W.Frag} {x dx C f : Addr} {mA : Str -> Option Value} {name : Str} {v : Value}
end
theorem RelO.some_of {v : V} {o : Option Value} (r : RelO (some v) o) : ∃ u, o = some u /\ RelV v u := by
  cases o with
  | none => exact (show False from r).elim
  | some u => exact ⟨u, rfl, r⟩
section
variable {P : Program} {w : World} {H H' : Hp} {h h' : Heap} {a C dx : Addr} {fs fs' : List (Str × V)}
theorem ins_get (hok : HOk P w H h) (e : H a = some (.ins C dx fs)) : ∃ mA, ObjM h a dx C mA /\ (∀ f, RelO (fs.lookup f) (mA f)) /\ PySem.Within mA (fs.map (·.1)) /\ fs.length <= 1000 /\ H dx = some (.own a) := by
  obtain ⟨d, z, ne, ob, mA, n, r, q⟩ := (show ObjOk P w H h a (.ins C dx fs) from hok a _ e)
  exact ⟨mA, ⟨ob, n, ne⟩, r, q, z, d⟩
end
structure Cls (K : PySem.W.Frag) (C : Addr) : Prop where
  pg : PySem.W.plainGet K C Str.empty = true
  hd : PySem.W.hasDictIn K C = true
  po : PySem.W.plainOver K C = true
  sa : PySem.W.findIn K (.ref C) "__setattr__" = some (some (.builtin "object.__setattr__"))
theorem Cls.get {K : PySem.W.Frag} {C : Addr} (c : Cls K C) (f : Str) : PySem.W.plainGet K C f = true := c.pg
structure Con (K : PySem.W.Frag) (C : Addr) (f : Str) (v : V) (u : Value) : Prop where
  at_ : PySem.W.findIn K (.ref C) f = some (some u)
  rel : RelV v u
  get : PySem.W.specialIn K u "__get__" = some none
  cp : PySem.W.copiedNames.contains f = false
structure Meth (K : PySem.W.Frag) (C : Addr) (m : Str) (f : Addr) : Prop where
  at_ : PySem.W.findIn K (.ref C) m = some (some (.ref f))
  fn : PySem.W.isFn K (.ref f) = true
  kp : PySem.W.keepIn K (.ref f) = true
section
variable {X : Cx} {pins : List (Addr × Obj)} {σ : St} {H : Hp} {s : Shared} {a C dx : Addr} {fs : List (Str × V)} {f : Str} {v : V} {A : Around} {E : Value -> Shared -> Prop}
theorem Inv.made (I : Inv X pins σ H s) : Inv X pins σ (upd (upd H s.heap.objs.size (.own (s.heap.objs.size + 1))) (s.heap.objs.size + 1) (.ins C s.heap.objs.size []))
    { s with heap := (s.heap.push PySem.W.emptyDict).push (PySem.W.instObj C s.heap.objs.size) } := by
  have e1 : (s.heap.push PySem.W.emptyDict).get? s.heap.objs.size = some PySem.W.emptyDict := Heap.get?_push_size s.heap rfl
  have e2 : ((s.heap.push PySem.W.emptyDict).push (PySem.W.instObj C s.heap.objs.size)).get? (s.heap.objs.size + 1) = some (PySem.W.instObj C s.heap.objs.size) := by
    have := Heap.get?_push_size (s.heap.push PySem.W.emptyDict) (o := PySem.W.instObj C s.heap.objs.size) rfl
    rwa [Heap.size_push] at this
  have e3 : (s.heap.push PySem.W.emptyDict).Ns s.heap.objs.size (fun _ => none) := ⟨PySem.W.emptyDict, #[], _, e1, rfl, (fun e he => absurd he (by simp)), fun _ => rfl⟩
  have I1 := I.laid (a := s.heap.objs.size) (o := .own (s.heap.objs.size + 1)) (h' := s.heap.push PySem.W.emptyDict) (t' := s.toks) (fun b u q => Heap.get?_push_of_some _ q) (Nat.le_refl _) ⟨_, e1⟩
  refine I1.laid (a := s.heap.objs.size + 1) (o := .ins C s.heap.objs.size []) (t' := s.toks) (fun b u q => Heap.get?_push_of_some _ q) (Nat.le_of_eq (Heap.size_push _ _)) ?_
  have ne : s.heap.objs.size ≠ s.heap.objs.size + 1 := Nat.ne_of_lt (Nat.lt_succ_self _)
  refine ⟨by rw [upd_ne ne, upd_same], Nat.zero_le _, ne, e2, fun _ => none, (Heap.Ns1.of_empty e3).at fun o q => Heap.get?_push_of_some _ q, fun _ => True.intro, fun y hy => absurd rfl hy⟩
end
section
variable {X : Cx} {o e value : Expr} {f : Str} {pos pos' tpos : Pos} {ta tv : TE}
end
section
variable {X : Cx} {pins : List (Addr × Obj)} {σ : St} {H : Hp} {s : Shared} {A : Around} {E : Value -> Shared -> Prop} {Q : Value -> Shared -> Prop} {c : Value} {b : Bool}
inductive TyOf (K : PySem.W.Frag) (H : Hp) : V -> Value -> Prop where
  | non : TyOf K H .non (.type "NoneType")
  | bl (x : Bool) : TyOf K H (.bl x) (.type "bool")
  | int (i : Int) : TyOf K H (.int i) (.type "int")
  | str (x : Str) : TyOf K H (.str x) (.type "str")
  | flt (x : UInt64) : TyOf K H (.flt x) (.type "float")
  | lst {a : Addr} {xs : List V} (e : H a = some (.lst xs)) : TyOf K H (.ref a) (.type "list")
  | frz {a : Addr} {o : Obj} {xs : List V} (e : H a = some (.frz o (.lst xs))) : TyOf K H (.ref a) (.type "list")
  | tup {a : Addr} {xs : List V} (e : H a = some (.tup xs)) : TyOf K H (.ref a) (.type "tuple")
  | dK {a : Addr} {kvs : List (Key × V)} (e : H a = some (.dK kvs)) : TyOf K H (.ref a) (.type "dict")
  | dT {a : Addr} {kvs : List (List Key × V)} (e : H a = some (.dT kvs)) : TyOf K H (.ref a) (.type "dict")
  | ins {a C dx : Addr} {fs : List (Str × V)} (e : H a = some (.ins C dx fs)) (cl : Cls K C) (ha : PySem.W.findIn K (.ref C) "__class__" = some (some (.builtin "object.__class__")))
      (hn : PySem.W.specialIn K (.builtin "object.__class__") "__get__" = some (some (.builtin "getset_descriptor.__get__"))) (htk : PySem.W.takesIn K (.builtin "object.__class__") = some true)
      (hm : PySem.W.mroIn K C (.type "object") = some true) : TyOf K H (.ref a) (.ref C)
theorem isinst_ok {x : V} {u t : Value} (I : Inv X pins σ H s) (rx : RelV x u) (ty : TyOf X.K H x t) (e : PySem.W.kitOne X.K t c = some b) (h : ∀ tk, Q (.bool b) { s with toks := tk }) :
    wpAny (model X.prog X.w) A (call (.builtin "isinstance") [u, c]) Q E s := by
  cases ty with
  | non => cases (show u = Value.none from rx); exact PySem.W.kia_one PySem.W.kitx_none I.kIn True.intro e (fun z => nomatch z) h
  | bl y => cases (show u = Value.bool y from rx); exact PySem.W.kia_one PySem.W.kitx_bool I.kIn True.intro e (fun z => nomatch z) h
  | int i => obtain ⟨t, q⟩ := (show ∃ t, u = Value.int i t from rx); cases q; exact PySem.W.kia_one PySem.W.kitx_int I.kIn True.intro e (fun z => nomatch z) h
  | str y => obtain ⟨t, q⟩ := (show ∃ t, u = Value.str y t from rx); cases q; exact PySem.W.kia_one PySem.W.kitx_str I.kIn True.intro e (fun z => nomatch z) h
  | flt y => obtain ⟨t, q⟩ := (show ∃ t, u = Value.float y t from rx); cases q; exact PySem.W.kia_one PySem.W.kitx_float I.kIn True.intro e (fun z => nomatch z) h
  | @lst a xs ea =>
    cases (show u = Value.ref a from rx)
    obtain ⟨_, _, n, _, h1⟩ := (show ObjOk X.prog X.w H s.heap a (.lst xs) from I.hok a _ ea)
    exact PySem.W.kia_one PySem.W.kitx_list I.kIn ⟨_, h1, rfl⟩ e (fun z => nomatch z) h
  | @frz a ob xs ea =>
    cases (show u = Value.ref a from rx)
    obtain ⟨_, _, _, n, _, h1⟩ := (show ObjOk X.prog X.w H s.heap a (.frz ob (.lst xs)) from I.hok a _ ea)
    exact PySem.W.kia_one PySem.W.kitx_list I.kIn ⟨_, h1, rfl⟩ e (fun z => nomatch z) h
  | @tup a xs ea =>
    cases (show u = Value.ref a from rx)
    obtain ⟨_, _, _, p⟩ := (show ObjOk X.prog X.w H s.heap a (.tup xs) from I.hok a _ ea)
    obtain ⟨o, h1, h2, _⟩ := p
    exact PySem.W.kia_one PySem.W.kitx_tuple I.kIn ⟨o, h1, h2⟩ e (fun z => nomatch z) h
  | @dK a kvs ea =>
    cases (show u = Value.ref a from rx)
    obtain ⟨_, _, vs, _, p⟩ := (show ObjOk X.prog X.w H s.heap a (.dK kvs) from I.hok a _ ea)
    obtain ⟨o, es, ep, h1, h2, _⟩ := p
    exact PySem.W.kia_one PySem.W.kitx_dict I.kIn ⟨o, h1, h2.1⟩ e (fun z => nomatch z) h
  | @dT a kvs ea =>
    cases (show u = Value.ref a from rx)
    obtain ⟨_, _, xs, _, o, es, ep, h1, h2, _⟩ := (show ObjOk X.prog X.w H s.heap a (.dT kvs) from I.hok a _ ea)
    exact PySem.W.kia_one PySem.W.kitx_dict I.kIn ⟨o, h1, h2.1⟩ e (fun z => nomatch z) h
  | @ins a C dx fs ea cl ha hn htk hm =>
    cases (show u = Value.ref a from rx)
    obtain ⟨mA, O, _⟩ := ins_get I.hok ea
    obtain ⟨od, J, _⟩ := O.look
    exact PySem.W.kia_one (PySem.W.kitx_own (cl.get _) cl.hd ha hn htk hm) I.kIn J e (fun z => nomatch z) h
end
end L2
namespace L2
open PySem PySem.Spec PyProof.Rows
structure Room (k : Nat) (A : Around) : Prop where
  hd : A.handled = none
  dp : A.depth + 3 * k + 5 < recursionLimit
  un : A.units + 16 * k + 200 < cLine
theorem Room.mono {j k : Nat} {A : Around} (r : Room k A) (h : j <= k) : Room j A := ⟨r.hd, by have := r.dp; omega, by have := r.un; omega⟩
theorem Room.deeper {k : Nat} {A : Around} (r : Room (k + 1) A) (env : Env) : Room k (A.deeper env) :=
  ⟨r.hd, by have := r.dp; show A.depth + 1 + 3 * k + 5 < _; omega, by have := r.un; show A.units + 3 + 16 * k + 200 < _; omega⟩
theorem Room.in1 {k : Nat} {A : Around} (r : Room (k + 1) A) : Room k A.in1 :=
  ⟨r.hd, by have := r.dp; show A.depth + 3 * k + 5 < _; omega, by have := r.un; show A.units + 1 + 16 * k + 200 < _; omega⟩
theorem Room.depth {k : Nat} {A : Around} (r : Room k A) : A.depth < recursionLimit := by have := r.dp; omega
theorem Room.units {k : Nat} {A : Around} (r : Room k A) : A.units + 64 < cLine := by have := r.un; omega
noncomputable def tNil : TA := fun _ H Q => Q [] H
noncomputable def tCons (ta : TE) (tr : TA) : TA := fun σ H Q => ta σ H fun x H1 => tr σ H1 fun xs H2 => Q (x :: xs) H2
section
variable {X : Cx} {e : Expr} {es : List Expr} {te : TE} {t : TA} {pos : Pos}
theorem pa_nil : PA X [] tNil := fun _ _ _ _ H Q I h => Calls.spliced_nil ⟨[], H, I, .nil, h⟩
theorem pa_cons (ha : PE X e te) (hr : PA X es t) (hs : autoParam (starEach (e :: es) X.env = (false, eval e X.env) :: starEach es X.env) L2.au3._auto_1) : PA X (e :: es) (tCons te t) := by
  intro pos pins s σ H Q I h
  rw [hs]
  show wpAny _ _ (spliced ((false, eval e X.env) :: backTo pos (starEach es X.env))) _ _ s
  refine Calls.spliced_cons (thn (ha pins s σ H _ I h) fun u s1 ⟨x, H1, I1, r1, q1⟩ => ?_)
  exact thn (hr pos pins s1 σ H1 _ I1 q1) fun us s2 ⟨xs, H2, I2, r2, q2⟩ => ⟨x :: xs, H2, I2, .cons r1 r2, q2⟩
noncomputable def tTup (t : TA) : TE := fun σ H Q => t σ H fun xs H1 => xs.length <= sizeLine /\ ∀ p, H1 p = none -> Q (.ref p) (upd H1 p (.tup xs))
noncomputable def tLst (t : TA) : TE := fun σ H Q => t σ H fun xs H1 => xs.length <= sizeLine /\ ∀ p, H1 p = none -> Q (.ref p) (upd H1 p (.lst xs))
theorem pe_tup {x1} (h : PA X es t) : PE X (.Tuple es x1 pos) (tTup t) := by
  intro pins s σ H Q I hq
  refine wpAny_Tuple_spliced (thn (h pos pins s σ H _ I hq) fun us s1 ⟨xs, H1, I1, r, z, q⟩ => ⟨by rw [<- r.length]; exact z, ?_⟩)
  have hf : H1 s1.heap.objs.size = none := I1.hok.fresh (Nat.le_refl _)
  refine ⟨.ref s1.heap.objs.size, upd H1 s1.heap.objs.size (.tup xs), I1.laid (t' := s1.toks) (fun b u e => Heap.get?_push_of_some _ e) (Nat.le_refl _) ?_, rfl, q _ hf⟩
  exact ⟨z, us, r, TupN.new _ _⟩
theorem pe_lst (h : PA X es t) : PE X (.List es pos) (tLst t) := by
  intro pins s σ H Q I hq
  refine wpAny_List_spliced (thn (h pos pins s σ H _ I hq) fun us s1 ⟨xs, H1, I1, r, z, q⟩ => ⟨by rw [<- r.length]; exact z, ?_⟩)
  have hf : H1 s1.heap.objs.size = none := I1.hok.fresh (Nat.le_refl _)
  refine ⟨.ref s1.heap.objs.size, upd H1 s1.heap.objs.size (.lst xs), I1.laid (t' := s1.toks) (fun b u e => Heap.get?_push_of_some _ e) (Nat.le_refl _) ?_, rfl, q _ hf⟩
  exact ⟨z, us, 0, r, Heap.get?_push_size _ rfl⟩
end
noncomputable abbrev Sp := List V -> Hp -> VK -> XK -> Prop
noncomputable abbrev CXT := List Env -> Hp -> Shared -> XK -> Value -> Shared -> Prop
structure Env0 (P : Program) (w : World) (K : PySem.W.Frag) (mg : Str -> Option Value) (base : Heap) (A : Around) (outer : List Env) (s : Shared) (H : Hp) : Prop where
  frames : A.frames = some outer
  mod : Mod K mg base
  bs : ∀ b o, base.get? b = some o -> s.heap.get? b = some o /\ H b = none
  bsz : base.objs.size <= s.heap.objs.size
  funs : s.heap.FunFrames base outer
  frf : ∀ b ∈ frs outer, H b = none
  hok : HOk P w H s.heap
  bare : AllBare s.gens
noncomputable def CE (outer : List Env) (P : Program) (w : World) (H : Hp) (s : Shared) (Q : VK) (u : Value) (s' : Shared) : Prop :=
  ∃ v H', s'.os = s.os /\ AllBare s'.gens /\ Un (frs outer) [] H H' s.heap s'.heap /\ HOk P w H' s'.heap /\ RelV v u /\ Q v H'
noncomputable def CR (CX : CXT) (outer : List Env) (P : Program) (w : World) (H : Hp) (s : Shared) (Q : VK) (E : XK) (r : Result) (s' : Shared) : Prop :=
  match r with
  | .ok (.ret u) => CE outer P w H s Q u s'
  | .ok _ => False
  | .error e => CX outer H s E e s'
structure FnOk (P : Program) (w : World) (K : PySem.W.Frag) (mg : Str -> Option Value) (base : Heap) (CX : CXT) (k : Nat) (f : Addr) (fd : FuncData) (ps : List Str) (sp : Sp) : Prop where
  len : ∀ vs H Q E, sp vs H Q E -> vs.length = ps.length
  run : ∀ (A : Around) (outer : List Env) (s : Shared) (H : Hp) (args : Args) (us : List Value) (vs : List V) (Q : VK) (E : XK), Room k A -> Env0 P w K mg base A outer s H -> BindsTo s fd args (ps.zip us) -> Vals vs us -> sp vs H Q E ->
    codeAny (model P w) A (.call (.ref f) args) (CR CX outer P w H s Q E) s
theorem FnOk.mono {P : Program} {w : World} {K : PySem.W.Frag} {mg : Str -> Option Value} {base : Heap} {CX : CXT} {j k : Nat} {f : Addr} {fd : FuncData} {ps : List Str} {sp : Sp} (F : FnOk P w K mg base CX j f fd ps sp) (h : j <= k) :
    FnOk P w K mg base CX k f fd ps sp := ⟨F.len, fun A outer s H args us vs Q E hr => F.run A outer s H args us vs Q E (hr.mono h)⟩
theorem Env0.in1 {P : Program} {w : World} {K : PySem.W.Frag} {mg : Str -> Option Value} {base : Heap} {A : Around} {outer : List Env} {s : Shared} {H : Hp} (e : Env0 P w K mg base A outer s H) :
    Env0 P w K mg base A.in1 outer s H := ⟨e.frames, e.mod, e.bs, e.bsz, e.funs, e.frf, e.hok, e.bare⟩
section
variable {X : Cx} {pins : List (Addr × Obj)} {σ : St} {H : Hp} {s s' : Shared}
theorem Inv.env0 (I : Inv X pins σ H s) : Env0 X.prog X.w X.K X.mg X.base X.A X.stack s H :=
  ⟨I.ok.frames, I.ok.mod, I.bs, Nat.le_trans I.ok.bsz I.sz, I.stack, I.stkFree, I.hok, I.bare⟩
theorem Inv.after {Q : VK} {u : Value} (I : Inv X pins σ H s) (h : CE X.stack X.prog X.w H s Q u s') : EP X pins σ Q u s' := by
  obtain ⟨v, H', os, bare, un, hok, r, q⟩ := h
  obtain ⟨hh, g, d, t, os'⟩ := s'
  obtain rfl : os' = s.os := os
  exact ⟨v, H', I.call (h' := hh) (g' := g) (d' := d) (t' := t) (ch := []) un hok bare (fun b z => absurd z (by simp)), r, q⟩
end
noncomputable def tCall (sp : Sp) (dvs : List V) (E : XK) (t : TA) : TE := fun σ H Q => t σ H fun vs H1 => sp (vs ++ dvs) H1 Q E
noncomputable def Binds (K : PySem.W.Frag) (fd : FuncData) (ps : List Str) (ds : List Value) : Prop :=
  ∀ (s : Shared) (us : List Value), K.In s.heap -> (us ++ ds).length = ps.length -> BindsTo s fd ⟨us, []⟩ (ps.zip (us ++ ds))
theorem Binds.all {K : PySem.W.Frag} {fd : FuncData} {ps : List Str} (h : ∀ us : List Value, us.length = ps.length -> bindArgs fd ⟨us, []⟩ = pure (ps.zip us)) : Binds K fd ps [] := fun s us _ hl => by
  rw [List.append_nil] at hl ⊢
  exact .of_eq (h us hl)
noncomputable def Passes (CX : CXT) (X : Cx) (E : XK) : Prop := ∀ (pins : List (Addr × Obj)) (σ : St) (H : Hp) (s : Shared) (e : Value) (s' : Shared), Inv X pins σ H s -> CX X.stack H s E e s' -> X.xe e s'
section
variable {X : Cx} {CX : CXT} {k : Nat} {f C : Addr} {fd : FuncData} {ps : List Str} {sp : Sp} {dvs : List V} {ds : List Value} {E : XK} {x m : Str} {p pos apos : Pos} {e o : Expr} {es : List Expr} {ta : TE} {t : TA}
theorem run_fn {pins : List (Addr × Obj)} {σ : St} {H : Hp} {s : Shared} {Q : VK} {us : List Value} {vs : List V} (F : FnOk X.prog X.w X.K X.mg X.base CX k f fd ps sp) (hr : Room k X.A) (hb : Binds X.K fd ps ds) (hd : Vals dvs ds) (hx : Passes CX X E)
    (I : Inv X pins σ H s) (r : Vals vs us) (h : sp (vs ++ dvs) H Q E) : wpAny (model X.prog X.w) X.A (call (.ref f) us) (EP X pins σ Q) X.xe s := by
  have r2 : Vals (vs ++ dvs) (us ++ ds) := r.append hd
  have hl : (us ++ ds).length = ps.length := by rw [<- r2.length]; exact F.len _ _ _ _ h
  refine wpAny_call (codeAny_mono (F.run X.A X.stack s H ⟨us, []⟩ (us ++ ds) (vs ++ dvs) Q E hr I.env0 (hb s us I.kIn hl) r2 h) fun r s' hq => ?_)
  cases r with
  | error e => exact hx pins σ H s e s' I hq
  | ok fl =>
    cases fl with
    | ret u => exact I.after hq
    | next => exact False.elim hq
    | brk => exact False.elim hq
    | cont => exact False.elim hq
theorem pe_call (F : FnOk X.prog X.w X.K X.mg X.base CX k f fd ps sp) (hr : Room k X.A) (hg : Gl X x) (hm : X.mg x = some (.ref f)) (hk : PySem.W.keepIn X.K (.ref f) = true) (hb : Binds X.K fd ps ds) (hd : Vals dvs ds) (hx : Passes CX X E)
    (ha : PA X (e :: es) t) (hdb : autoParam ((x == ("__debug__" : Str)) = false) L2.au1._auto_1) (he : autoParam (starEach (e :: es) X.env = (false, eval e X.env) :: starEach es X.env) L2.au3._auto_1) (hpl : autoParam ((backTo pos (starEach es X.env)).any (·.1) = false) L2.au3._auto_1) :
    PE X (.Call (.Name x p) (e :: es) [] pos) (tCall sp dvs E t) := by
  intro pins s σ H Q I h
  refine wpAny_Call_Name_kw (ld_glob I hg hm ?_ hdb)
  refine PySem.W.callWith_K (h₀ := X.base) I.ok.mod.kin hk (thn (ha pos pins s σ H _ I h) fun us s1 ⟨vs, H1, I1, r, q⟩ => ⟨I1.kIn, ?_⟩) he hpl
  exact run_fn F hr hb hd hx I1 r q
theorem pe_call0 (F : FnOk X.prog X.w X.K X.mg X.base CX k f fd ps sp) (hr : Room k X.A) (hg : Gl X x) (hm : X.mg x = some (.ref f)) (hk : PySem.W.keepIn X.K (.ref f) = true) (hb : Binds X.K fd ps ds) (hd : Vals dvs ds) (hx : Passes CX X E)
    (hdb : autoParam ((x == ("__debug__" : Str)) = false) L2.au1._auto_1) : PE X (.Call (.Name x p) [] [] pos) (tCall sp dvs E tNil) := by
  intro pins s σ H Q I h
  refine wpAny_Call_Name_kw (ld_glob I hg hm ?_ hdb)
  exact PySem.W.callWith_K0 I.kIn hk (run_fn (us := []) F hr hb hd hx I .nil h)
structure Mk (K : PySem.W.Frag) (C f : Addr) : Prop where
  makes : PySem.W.makesIn K C = true
  init : PySem.W.findIn K (.ref C) "__init__" = some (some (.ref f))
  fn : PySem.W.isFn K (.ref f) = true
  kp : PySem.W.keepIn K (.ref C) = true
end
section
variable {X : Cx} {CX : CXT} {k : Nat} {f C : Addr} {fd : FuncData} {ps ks : List Str} {sp : Sp} {E : XK} {x m : Str} {p pos apos kpos : Pos} {e o : Expr} {es : List Expr} {kws : List Keyword} {te ta : TE} {t tk : TA} {nm : Option Str}
structure KBinds (K : PySem.W.Frag) (fd : FuncData) (ps ks : List Str) (g : List Value -> List Value -> List Value) (gV : List V -> List V -> List V) : Prop where
  to : ∀ (s : Shared) (us ws : List Value), K.In s.heap -> (g us ws).length = ps.length -> BindsTo s fd ⟨us, ks.zip ws⟩ (ps.zip (g us ws))
  rel : ∀ {vs : List V} {us : List Value} {zs : List V} {ws : List Value}, Vals vs us -> Vals zs ws -> Vals (gV vs zs) (g us ws)
variable {g : List Value -> List Value -> List Value} {gV : List V -> List V -> List V}
end
structure FnScope (N P : List Str) (sc : Scope) : Prop where
  kind : sc.kind = .function
  co : sc.isCoroutine = false
  gen : sc.isGenerator = false
  nd : N.Nodup
  pre : N.take P.length = P
  par : ∀ x ∈ P, sc.names.lookup x = some .local \/ sc.names.lookup x = some .cell
  nofree : ∀ y ∈ sc.names, y.2 ≠ .free
theorem bindL_out {kindOf : Str -> Option NameKind} {x : Str} : ∀ {binds : List (Str × Value)} {m : Str -> Option Value}, (∀ v, (x, v) ∉ binds) -> bindL kindOf binds m x = m x
  | [], _, _ => rfl
  | (n, v) :: r, m, h => by
    unfold bindL
    rw [bindL_out fun w hw => h w (List.mem_cons_of_mem _ hw)]
    split
    · have : x ≠ n := by rintro rfl; exact h v List.mem_cons_self
      simp [this]
    · rfl
theorem bindC_out {kindOf : Str -> Option NameKind} {x : Str} : ∀ {binds : List (Str × Value)} {m : Str -> Option Value}, (∀ v, (x, v) ∉ binds) -> bindC kindOf binds m x = m x
  | [], _, _ => rfl
  | (n, v) :: r, m, h => by
    unfold bindC
    rw [bindC_out fun w hw => h w (List.mem_cons_of_mem _ hw)]
    split
    · rfl
    · have : x ≠ n := by rintro rfl; exact h v List.mem_cons_self
      simp [this]
theorem bindL_get {kindOf : Str -> Option NameKind} {x : Str} {v : Value} : ∀ {P : List Str} {vs : List Value} {i : Nat} {m : Str -> Option Value}, P.Nodup -> P[i]? = some x -> vs[i]? = some v -> kindOf x = some .local ->
    bindL kindOf (P.zip vs) m x = some v
  | [], _, _, _, _, h, _, _ => by simp at h
  | _ :: _, [], _, _, _, _, h, _ => by simp at h
  | p :: P, w :: vs, 0, m, nd, h1, h2, hk => by
    simp at h1 h2; subst h1; subst h2
    show bindL kindOf ((p, w) :: P.zip vs) m p = _
    unfold bindL
    rw [bindL_out fun v hv => (List.nodup_cons.mp nd).1 (List.of_mem_zip hv).1, if_pos hk]
    simp
  | p :: P, w :: vs, i + 1, m, nd, h1, h2, hk => by
    show bindL kindOf ((p, w) :: P.zip vs) m x = _
    unfold bindL
    exact bindL_get (i := i) (List.nodup_cons.mp nd).2 (by simpa using h1) (by simpa using h2) hk
theorem bindC_get {kindOf : Str -> Option NameKind} {x : Str} {v : Value} : ∀ {P : List Str} {vs : List Value} {i : Nat} {m : Str -> Option Value}, P.Nodup -> P[i]? = some x -> vs[i]? = some v -> kindOf x ≠ some .local ->
    bindC kindOf (P.zip vs) m x = some v
  | [], _, _, _, _, h, _, _ => by simp at h
  | _ :: _, [], _, _, _, _, h, _ => by simp at h
  | p :: P, w :: vs, 0, m, nd, h1, h2, hk => by
    simp at h1 h2; subst h1; subst h2
    show bindC kindOf ((p, w) :: P.zip vs) m p = _
    unfold bindC
    rw [bindC_out fun v hv => (List.nodup_cons.mp nd).1 (List.of_mem_zip hv).1, if_neg hk]
    simp
  | p :: P, w :: vs, i + 1, m, nd, h1, h2, hk => by
    show bindC kindOf ((p, w) :: P.zip vs) m x = _
    unfold bindC
    exact bindC_get (i := i) (List.nodup_cons.mp nd).2 (by simpa using h1) (by simpa using h2) hk
noncomputable def start (N : List Str) (vs : List V) : St := vs.map some ++ List.replicate (N.length - vs.length) none
noncomputable def cxOf (CX : CXT) (P : Program) (w : World) (K : PySem.W.Frag) (mg : Str -> Option Value) (base : Heap) (N : List Str) (qual : Str) (scope : Scope) (f : Addr) (cd : Value) (A : Around) (outer : List Env) (s : Shared) (H : Hp) (E : XK) : Cx where
  prog := P
  w := w
  K := K
  mg := mg
  base := base
  A := A.deeper (envOfC qual scope s.heap.objs.size f cd)
  N := N
  s₀ := s
  H₀ := H
  env := envOfC qual scope s.heap.objs.size f cd
  outer := outer
  stack := envOfC qual scope s.heap.objs.size f cd :: outer
  ex := []
  calm := true
  fn := fun _ => true
  pn := []
  xe := fun e s' => wpAny (model P w) (A.deeper (envOfC qual scope s.heap.objs.size f cd)) (leaving (envOfC qual scope s.heap.objs.size f cd) e) (fun _ s'' => CX outer H s E e s'') (fun e' s'' => CX outer H s E e' s'') s'
theorem cell_has {sc : Scope} {n : Nat} {x : Str} (h : sc.names.lookup x = some .cell) : ∃ c, (cellsFrom n sc.names []).lookup x = some c := by
  have q := PySem.W.cellsFrom_some sc.names n [] (.inl h)
  exact Option.isSome_iff_exists.mp q
theorem inv_start {CX : CXT} {P : Program} {w : World} {K : PySem.W.Frag} {mg : Str -> Option Value} {base : Heap} {N ps : List Str} {qual : Str} {scope : Scope} {f : Addr} {cd : Value} {A : Around} {outer : List Env} {s s1 : Shared} {H : Hp} {E : XK} {us : List Value} {vs : List V}
    (S : FnScope N ps scope) (hd : A.handled = none) (e0 : Env0 P w K mg base A outer s H) (hl : vs.length = ps.length) (r : Vals vs us)
    (x : InCallC s s.heap.objs.size (bindL (envOfC qual scope s.heap.objs.size f cd).kindOf (ps.zip us) fun _ => none) (cellsFrom (s.heap.objs.size + 1) scope.names []) (bindC (envOfC qual scope s.heap.objs.size f cd).kindOf (ps.zip us) fun _ => none) s1) :
    Inv (cxOf CX P w K mg base N qual scope f cd A outer s H E) [] (start N vs) H s1 := by
  have hpl : ps.length <= N.length := by have := congrArg List.length S.pre; rw [List.length_take] at this; omega
  obtain ⟨h1, tk, rfl, hk⟩ := x.done
  have noA : ∀ b : Addr, b ∉ (cxOf CX P w K mg base N qual scope f cd A outer s H E).ex := fun b z => absurd (show b ∈ ([] : List Addr) from z) (by simp)
  refine ⟨⟨e0.mod, S.kind, rfl, rfl, Nat.le_refl _, fun y z c h1 h2 => ?_, fun y hy => ?_, fun y c _ h => ?_, fun _ => hd, Around.frames_deeper e0.frames, .inr ⟨rfl, rfl⟩, fun b z => absurd z (noA b), e0.bs, e0.bsz, fun b _ _ => noA b, fun b z => absurd z (noA b), e0.funs, e0.frf⟩,
    rfl, e0.bare, Un.kept hk, ⟨_, x.toInCall.ns, fun i y v h1 h2 h3 => ?_⟩, fun y c h => ⟨_, x.cell y c h⟩, e0.hok.fresh (Nat.le_refl _), fun y c h => ?_, fun p hp => absurd (show p ∈ ([] : List (Addr × Obj)) from hp) (by simp), e0.hok.kept hk, ?_⟩
  · exact name_of_addr x.apart (PySem.mem_of_lookup h1) (PySem.mem_of_lookup h2)
  · have hy : scope.names.lookup y = some .cell \/ scope.names.lookup y = some .free := hy
    rcases hy with hy | hy
    · exact cell_has hy
    · exact absurd rfl (S.nofree _ (PySem.mem_of_lookup hy))
  · exact Nat.le_of_lt (x.above y c (PySem.mem_of_lookup h))
  · have hi : i < vs.length := by
      unfold start at h2
      by_cases hi : i < vs.length
      · exact hi
      · rw [List.getElem?_append_right (by simpa using hi)] at h2
        rw [List.getElem?_replicate] at h2
        split at h2 <;> cases h2
    have ha : vs[i]? = some v := by
      unfold start at h2
      rw [List.getElem?_append_left (by simpa using hi), List.getElem?_map] at h2
      cases e : vs[i]? with
      | none => rw [e] at h2; cases h2
      | some a => rw [e] at h2; cases h2; rfl
    obtain ⟨u, hu, rv⟩ := r.get ha
    have hp : ps[i]? = some y := by
      rw [<- S.pre, List.getElem?_take_of_lt (by omega)]; exact h1
    have ndP : ps.Nodup := by rw [<- S.pre]; exact S.nd.sublist (List.take_sublist _ _)
    refine ⟨u, rv, ?_⟩
    rcases S.par y (List.mem_of_getElem? hp) with k | k
    · exact .inl ⟨k, bindL_get ndP hp hu k⟩
    · obtain ⟨c, e⟩ := cell_has (n := s.heap.objs.size + 1) k
      refine .inr ⟨.inl k, c, e, ?_⟩
      have q := x.cell y c e
      rw [bindC_get ndP hp hu (by show scope.names.lookup y ≠ _; rw [k]; decide)] at q
      exact q
  · exact e0.hok.fresh (Nat.le_of_lt (x.above y c (PySem.mem_of_lookup h)))
  · unfold start
    show _ = N.length
    rw [List.length_append, List.length_map, List.length_replicate]
    omega
theorem fn_of {CX : CXT} {P : Program} {w : World} {K : PySem.W.Frag} {mg : Str -> Option Value} {base : Heap} {k : Nat} {f : Addr} {name qual : Str} {params : Arguments} {body : List Stmt} {scope : Scope} {dV kV doc pm cdv ct oc : Value} {an od : Option Addr}
    {osl : Array (Option Value)} {N ps : List Str} {sp : Sp} (lk : K.lookup f = some ⟨oc, od, .func (PySem.W.fnOf name qual params body scope dV kV doc pm an cdv ct), osl⟩) (hcd : PySem.W.codeIn K cdv qual = true) (S : FnScope N ps scope)
    (len : ∀ vs H Q E, sp vs H Q E -> vs.length = ps.length)
    (hbody : ∀ (A : Around) (outer : List Env) (s : Shared) (H : Hp) (vs : List V) (Q : VK) (E : XK), Room k (A.deeper (envOfC qual scope s.heap.objs.size f cdv)) -> sp vs H Q E ->
      ∃ t, PSs (cxOf CX P w K mg base N qual scope f cdv A outer s H E) body t /\ t { nx := fun _ H' => Q .non H', rt := Q } (start N vs) H) :
    FnOk P w K mg base CX (k + 1) f (PySem.W.fnOf name qual params body scope dV kV doc pm an cdv ct) ps sp := by
  refine ⟨len, fun A outer s H args us vs Q E hr e0 hb r hsp => ?_⟩
  have hl := len _ _ _ _ hsp
  have KX : K.In s.heap := e0.mod.kin.keeps fun b o e => (e0.bs b o e).1
  have lim : s.heap.NoLimit := e0.mod.nolimit.keeps fun b o e => (e0.bs b o e).1
  have hkind : ∀ y ∈ ps.zip us, scope.names.lookup y.1 = some .local \/ (scope.names.lookup y.1 = some .cell /\ ((cellsFrom (s.heap.objs.size + 1) scope.names []).lookup y.1).isSome = true) := fun ⟨n, v⟩ hy => by
    rcases S.par n (List.of_mem_zip hy).1 with q | q
    · exact .inl q
    · exact .inr ⟨q, PySem.W.cellsFrom_some _ _ _ (.inl q)⟩
  refine codeAny_call_function hr.depth (KX _ _ lk) rfl S.co S.gen rfl (PySem.W.codeRec_of KX hcd) (hb _ _ _ _ ?_)
  refine wpAny_newFunctionEnv_cells S.kind hkind fun env he s1 x => ?_
  subst he
  refine ⟨lim.keeps x.toInCall.keep, codeAny_func ?_⟩
  obtain ⟨t, ht, hq⟩ := hbody A outer s H vs Q E (hr.deeper _) hsp
  have I : Inv (cxOf CX P w K mg base N qual scope f cdv A outer s H E) [] (start N vs) H s1 := inv_start S hr.hd e0 hl r x
  refine wpAny_mono (ht [] s1 (start N vs) H _ I hq) (fun fl s' hs => ?_) fun e s' hs => hs
  have fin : ∀ {σ' : St} {H' : Hp} {v : V} {u : Value}, Inv (cxOf CX P w K mg base N qual scope f cdv A outer s H E) [] σ' H' s' -> RelV v u -> Q v H' -> CE outer P w H s Q u s' :=
    fun {σ' H' v u} J rv q => ⟨v, H', J.os, J.bare, J.base, J.hok, rv, q⟩
  cases fl with
  | ret u =>
    obtain ⟨v, σ', H', J, rv, q⟩ := hs
    exact fin J rv q
  | next =>
    obtain ⟨σ', H', J, q⟩ := hs
    exact fin (v := V.non) (u := Value.none) J rfl q
  | brk =>
    obtain ⟨_, _, _, q⟩ := hs
    exact False.elim q
  | cont =>
    obtain ⟨_, _, _, q⟩ := hs
    exact False.elim q
end L2
namespace L2
open PySem PySem.Spec PyProof.Rows
section
variable {X : Cx} {x : Str} {p pos : Pos} {e : Expr} {es : List Expr} {t : TA} {id T : String} {r : List V -> Hp -> VK -> Prop}
noncomputable def tCB (r : List V -> Hp -> VK -> Prop) (t : TA) : TE := fun σ H Q => t σ H fun vs H1 => r vs H1 Q
theorem pe_callB (hc : CallR X (.builtin id) r) (hg : Gl X x) (hm : X.mg x = none) (hv : bootBuiltins x = some (.builtin id)) (ha : PA X (e :: es) t) (hn : autoParam (x ≠ "__name__") L2.au1._auto_1) (hdb : autoParam ((x == ("__debug__" : Str)) = false) L2.au1._auto_1)
    (he : autoParam (starEach (e :: es) X.env = (false, eval e X.env) :: starEach es X.env) L2.au3._auto_1) (hpl : autoParam ((backTo pos (starEach es X.env)).any (·.1) = false) L2.au3._auto_1) : PE X (.Call (.Name x p) (e :: es) [] pos) (tCB r t) := by
  intro pins s σ H Q I h
  refine wpAny_Call_Name_kw (ld_blt I hg hm hv ?_ hn hdb)
  exact PyProof.Rows.callWith_builtin1 (thn (ha pos pins s σ H _ I h) fun us s1 ⟨vs, H1, I1, r1, q1⟩ => hc pins s1 σ H1 vs us Q I1 r1 q1) he hpl
theorem pe_callTy (hc : CallR X (.type T) r) (hg : Gl X x) (hm : X.mg x = none) (hv : bootBuiltins x = some (.type T)) (ha : PA X (e :: es) t) (hn : autoParam (x ≠ "__name__") L2.au1._auto_1) (hdb : autoParam ((x == ("__debug__" : Str)) = false) L2.au1._auto_1)
    (he : autoParam (starEach (e :: es) X.env = (false, eval e X.env) :: starEach es X.env) L2.au3._auto_1) (hpl : autoParam ((backTo pos (starEach es X.env)).any (·.1) = false) L2.au3._auto_1) : PE X (.Call (.Name x p) (e :: es) [] pos) (tCB r t) := by
  intro pins s σ H Q I h
  refine wpAny_Call_Name_kw (ld_blt I hg hm hv ?_ hn hdb)
  exact PyProof.Rows.callWith_type1 (thn (ha pos pins s σ H _ I h) fun us s1 ⟨vs, H1, I1, r1, q1⟩ => hc pins s1 σ H1 vs us Q I1 r1 q1) he hpl
end
end L2
namespace HT
open PySem PyProof.Rows
section
open PySem.SeqAt
open PySem.AutoSeq1 (wpAny_loadPart')
open PySem.MeetsSeq PySem.MeetsSeq2 PySem.MeetsSeq3
end
section
variable {prog : Program} {w : World} {A : Around} {E : Value -> Shared -> Prop} {s : Shared}
theorem cat_tup {t b : Addr} {vs ws : List Value} {Q : Value -> Shared -> Prop} (ht : IsTup s.heap t vs.toArray) (hb : IsTup s.heap b ws.toArray) (hv : vs ≠ [])
    (h1 : ws = [] -> Q (.ref t) s) (h2 : ws ≠ [] -> Q (.ref s.heap.objs.size) { s with heap := s.heap.push { cls := .type "tuple", data := .seq (vs ++ ws).toArray } })
    (hsz : vs.length + ws.length <= sizeLine) : wpAny (model prog w) A (binaryOp .Add (.ref t) (.ref b)) Q E s := by
  obtain ⟨⟨cls, dd, data, sl⟩, ho, hc, n, hd⟩ := id ht
  obtain ⟨⟨cls2, dd2, data2, sl2⟩, ho2, hc2, n2, hd2⟩ := id hb
  simp only at hc hd hc2 hd2
  subst hc hd hc2 hd2
  have e : vs.toArray ++ ws.toArray = (vs ++ ws).toArray := by simp
  by_cases hw : ws = []
  · exact concat_meets ⟨_, ho, rfl⟩ ⟨_, ho2, rfl⟩ noFill_tuple_add seq_tuple_add PySem.F.slot_tuple_add PySem.F.entry_tuple_add (PySem.F.args_tuple_add_2 _ _)
      (tuple_addW1 t b vs.toArray ws.toArray n n2 dd dd2 sl sl2 (by simpa using hv) (by simp [hw])) ⟨ho, ho2, h1 hw⟩
  · refine concat_meets ⟨_, ho, rfl⟩ ⟨_, ho2, rfl⟩ noFill_tuple_add seq_tuple_add PySem.F.slot_tuple_add PySem.F.entry_tuple_add (PySem.F.args_tuple_add_2 _ _)
      (tuple_addW2 t b vs.toArray ws.toArray n n2 dd dd2 sl sl2 (by simpa using hv) (by simpa using hw) (by rw [List.size_toArray, List.size_toArray]; exact hsz)) ⟨ho, ho2, ?_⟩
    rw [e]
    exact h2 hw
noncomputable def sIx (n d : Nat) : Option Int -> Nat
  | none => d
  | some v => if v < 0 then (v + (n : Int)).toNat else min v.toNat n
theorem sIx_le (n d : Nat) (hd : d <= n) (o : Option Int) : sIx n d o <= n := by
  cases o with
  | none => exact hd
  | some v =>
    show (if v < 0 then (v + (n : Int)).toNat else min v.toNat n) <= n
    by_cases hv : v < 0
    · rw [if_pos hv]; omega
    · rw [if_neg hv]; exact Nat.min_le_right _ _
theorem clip_eq (v : Int) (n d : Nat) : (if v < 0 then max (v + (n : Int)) 0 else min v (n : Int)) = ((sIx n d (some v) : Nat) : Int) := by
  show (if v < 0 then max (v + (n : Int)) 0 else min v (n : Int)) = (((if v < 0 then (v + (n : Int)).toNat else min v.toNat n) : Nat) : Int)
  by_cases hv : v < 0
  · simp only [if_pos hv]; omega
  · simp only [if_neg hv]; omega
theorem adjust_gen (lo hi : Option Int) (n : Nat) : Builtin.Slice.sliceAdjust lo hi 1 (n : Int) = (((sIx n 0 lo : Nat) : Int), ((sIx n n hi : Nat) : Int)) := by
  have h1 : ¬ ((1 : Int) < 0) := by omega
  unfold Builtin.Slice.sliceAdjust
  simp only [h1, if_false]
  refine Prod.ext ?_ ?_
  · cases lo with
    | none => rfl
    | some v => exact clip_eq v n 0
  · cases hi with
    | none => rfl
    | some v => exact clip_eq v n n
theorem places_gen (i j : Nat) : Builtin.Slice.slicePlaces (i : Int) (j : Int) 1 = j - i := by
  unfold Builtin.Slice.slicePlaces
  have h1 : (1 : Int) > 0 := by omega
  simp only [h1, if_true, Int.ediv_one]
  split <;> omega
theorem slicePart_ {v : Value} {o : Option Int} {Q : Option Int -> Shared -> Prop} (p : IsPart v o) (h : Q o s) : wpAny (model prog w) A (Builtin.Slice.slicePartIndex v) Q E s := by
  cases p with
  | none => exact slicePart_none h
  | int i t => exact slicePart_int h
theorem sliceApplied_gen {sl : Addr} {vl vu : Value} {lo hi : Option Int} {n : Nat} {Q : Int × Int × Nat -> Shared -> Prop} (hs : s.heap.IsSliceOf sl vl vu .none) (pl : IsPart vl lo) (pu : IsPart vu hi)
    (h : Q (((sIx n 0 lo : Nat) : Int), 1, sIx n n hi - sIx n 0 lo) s) : wpAny (model prog w) A (Builtin.Slice.sliceApplied (.ref sl) (pure (n : Int))) Q E s := by
  obtain ⟨os, hos, hcs, hds⟩ := id hs
  unfold Builtin.Slice.sliceApplied Builtin.Slice.sliceFields
  refine wpAny_bind (wpAny_bind (wpAny_field hos hds (x := vl) rfl (wpAny_bind (wpAny_field hos hds (x := vu) rfl (wpAny_bind (wpAny_field hos hds (x := .none) rfl (wpAny_pure ?_)))))))
  refine wpAny_bind (slicePart_none ?_)
  show wpAny _ _ (if ((1 : Int) == 0) = true then _ else _) _ _ s
  rw [if_neg (by decide)]
  refine wpAny_bind (slicePart_ pl (wpAny_bind (slicePart_ pu (wpAny_bind (wpAny_pure ?_)))))
  show wpAny _ _ (match Builtin.Slice.sliceAdjust lo hi 1 (n : Int) with | (lo, hi) => pure (lo, (1 : Int), Builtin.Slice.slicePlaces lo hi 1)) _ _ s
  rw [adjust_gen lo hi n]
  show wpAny _ _ (pure (((sIx n 0 lo : Nat) : Int), (1 : Int), Builtin.Slice.slicePlaces ((sIx n 0 lo : Nat) : Int) ((sIx n n hi : Nat) : Int) 1)) _ _ s
  rw [places_gen]
  exact wpAny_pure h
theorem pick_gen (xs : Array Value) (i k : Nat) : ((List.range k).filterMap fun (m : Nat) => xs[((i : Int) + (m : Int) * 1).toNat]?).toArray = ((xs.toList.drop i).take k).toArray := by
  have e : (fun (m : Nat) => xs[((i : Int) + (m : Int) * 1).toNat]?) = fun m => xs[i + m]? := by
    funext m
    have : ((i : Int) + (m : Int) * 1).toNat = i + m := by omega
    rw [this]
  rw [e]
  have := pick_run xs i k
  rw [List.filterMap_map] at this
  have e2 : ((fun x => xs[x]?) ∘ fun x => i + x) = fun m => xs[i + m]? := rfl
  rw [e2] at this
  rw [this]
theorem getItem_tuple_cut {t sl : Addr} {items : Array Value} {vl vu : Value} {lo hi : Option Int} {Q : Value -> Shared -> Prop} (ht : IsTup s.heap t items) (hs : s.heap.IsSliceOf sl vl vu .none) (pl : IsPart vl lo) (pu : IsPart vu hi)
    (hw : ¬ (sIx items.size 0 lo = 0 /\ sIx items.size items.size hi = items.size))
    (h : Q (.ref s.heap.objs.size) { s with heap := s.heap.push { cls := .type "tuple", data := .seq ((items.toList.drop (sIx items.size 0 lo)).take (sIx items.size items.size hi - sIx items.size 0 lo)).toArray } })
    (hsz : items.size <= sizeLine) : wpAny (model prog w) A (getItem (.ref t) (.ref sl)) Q E s := by
  have htake : sizeOk (.seq ((items.toList.drop (sIx items.size 0 lo)).take (sIx items.size items.size hi - sIx items.size 0 lo)).toArray) := by
    show ((items.toList.drop (sIx items.size 0 lo)).take (sIx items.size items.size hi - sIx items.size 0 lo)).toArray.size <= sizeLine
    rw [List.size_toArray, List.length_take, List.length_drop, Array.length_toList]
    omega
  have hj : sIx items.size items.size hi <= items.size := sIx_le _ _ (Nat.le_refl _) hi
  obtain ⟨os, hos, hcs, hds⟩ := id hs
  have hTs : s.TypeIs (.ref sl) "slice" := ⟨os, hos, hcs⟩
  unfold getItem
  try with_reducible refine wpAny_holding ?_
  first | refine wpAny_bind (wpAny_pure ?_) | skip
  refine wpAny_bind (wpAny_sequenceKey ht.typeIs (by decide) ?_)
  refine wpAny_bind (wpAny_callSpecial?_slot (name := Str.ofString "__getitem__") ht.typeIs PyProof.Rows.slot_tuple_getitem
    (wpAny_call_entry PyProof.Rows.slot_tuple_getitem ht.typeIs entry_tuple_getitem ?_ (args_tuple_getitem _ _)))
  show wpAny _ _ (Builtin.Tuple.tupleItemsOf (.ref t) >>= _) _ _ s
  refine wpAny_bind (tupleItemsOf_ ht ?_)
  refine wpAny_bind (wpAny_typeOf hTs ?_)
  rw [if_pos (by decide)]
  refine wpAny_bind (sliceApplied_gen hs pl pu ?_)
  have hno : ¬ ((((sIx items.size 0 lo : Nat) : Int) == 0 && (1 : Int) == 1 && (sIx items.size items.size hi - sIx items.size 0 lo) == items.size) = true) := by
    intro q
    rw [Bool.and_eq_true, Bool.and_eq_true] at q
    have q1 : ((sIx items.size 0 lo : Nat) : Int) = 0 := eq_of_beq q.1.1
    have q2 : sIx items.size items.size hi - sIx items.size 0 lo = items.size := eq_of_beq q.2
    exact hw ⟨by omega, by omega⟩
  show wpAny _ _ (if (((sIx items.size 0 lo : Nat) : Int) == 0 && (1 : Int) == 1 && (sIx items.size items.size hi - sIx items.size 0 lo) == items.size) = true then _ else _) _ _ s
  rw [if_neg hno, pick_gen]
  first
    | exact wpAny_bind (m := Builtin.Tuple.tupleExact _) (wpAny_newObj_type (wpAny_pure ⟨_, rfl, wpAny_pure h⟩) htake)
    | exact wpAny_bind (m := Builtin.Tuple.tupleExact _) (wpAny_newObj_type (wpAny_bind (wpAny_pure (wpAny_pure ⟨_, rfl, wpAny_pure h⟩))) htake)
    | exact wpAny_bind (wpAny_bind (m := Builtin.Tuple.tupleExact _) (wpAny_newObj_type (wpAny_pure (wpAny_pure ⟨_, rfl, wpAny_pure h⟩)) htake))
    | exact wpAny_bind (wpAny_bind (m := Builtin.Tuple.tupleExact _) (wpAny_newObj_type (wpAny_pure ⟨_, rfl, wpAny_pure h⟩) htake))
end
end HT
namespace L2
open PySem PySem.Spec PyProof.Rows
noncomputable abbrev TO := St -> Hp -> (Option Int -> Hp -> Prop) -> Prop
noncomputable def PO (X : Cx) (e : Option Expr) (t : TO) : Prop :=
  ∀ (pins : List (Addr × Obj)) (s : Shared) (σ : St) (H : Hp) (Q : Option Int -> Hp -> Prop), Inv X pins σ H s -> t σ H Q ->
    wpAny (model X.prog X.w) X.A (evalPart e X.env) (fun u s' => ∃ o H', Inv X pins σ H' s' /\ IsPart u o /\ Q o H') X.xe s
noncomputable def tNoPart : TO := fun _ H Q => Q none H
noncomputable def tPart (t : TE) : TO := fun σ H Q => t σ H fun x H1 => ∃ i, x = .int i /\ Q (some i) H1
section
variable {X : Cx} {e : Expr} {te : TE} {lo hi : Option Expr} {tl th : TO} {pos p2 : Pos}
theorem po_none : PO X none tNoPart := by
  intro pins s σ H Q I h
  rw [evalPart_none]
  exact wpAny_pure ⟨none, H, I, .none, h⟩
theorem po_some (h : PE X e te) : PO X (some e) (tPart te) := by
  intro pins s σ H Q I hw
  rw [evalPart_some]
  refine thn (h pins s σ H _ I hw) fun u s1 ⟨x, H1, I1, r1, q1⟩ => ?_
  obtain ⟨i, rfl, q⟩ := q1
  obtain ⟨t, rfl⟩ := r1
  exact ⟨some i, H1, I1, .int i t, q⟩
noncomputable def SlR (X : Cx) (r : V -> Option Int -> Option Int -> Hp -> VK -> Prop) : Prop :=
  ∀ (pins : List (Addr × Obj)) (s : Shared) (σ : St) (H : Hp) (x : V) (v vl vu : Value) (lo hi : Option Int) (sl : Addr) (Q : VK), Inv X pins σ H s -> RelV x v -> s.heap.IsSliceOf sl vl vu .none -> IsPart vl lo -> IsPart vu hi -> r x lo hi H Q ->
    ∃ T id, typeLookup (.type T) "__getitem__" = pure (some (.builtin id)) /\ s.TypeIs v T /\ wpAny (model X.prog X.w) X.A (getItem v (.ref sl)) (EP X pins σ Q) X.xe s
theorem SlR.or {r r' : V -> Option Int -> Option Int -> Hp -> VK -> Prop} (h : SlR X r) (h' : SlR X r') : SlR X (fun x lo hi H Q => r x lo hi H Q \/ r' x lo hi H Q) := by
  intro pins s σ H x v vl vu lo hi sl Q I rx hs pl pu q
  rcases q with q | q
  · exact h pins s σ H x v vl vu lo hi sl Q I rx hs pl pu q
  · exact h' pins s σ H x v vl vu lo hi sl Q I rx hs pl pu q
noncomputable def tSl (r : V -> Option Int -> Option Int -> Hp -> VK -> Prop) (te : TE) (tl th : TO) : TE := fun σ H Q => te σ H fun x H1 => tl σ H1 fun l H2 => th σ H2 fun u H3 => r x l u H3 Q
theorem pe_slice {r : V -> Option Int -> Option Int -> Hp -> VK -> Prop} (hr : SlR X r) (he : PE X e te) (hl : PO X lo tl) (hu : PO X hi th) : PE X (.Subscript e (.Slice lo hi none p2) pos) (tSl r te tl th) := by
  intro pins s σ H Q I h
  refine Subscript_ (thn (he pins s σ H _ I h) fun v s1 ⟨x, H1, I1, r1, q1⟩ => ?_)
  refine wpAny_Slice (thn (hl pins s1 σ H1 _ I1 q1) fun vl s2 ⟨l, H2, I2, pl, q2⟩ => thn (hu pins s2 σ H2 _ I2 q2) fun vu s3 ⟨u, H3, I3, pu, q3⟩ => ?_)
  rw [evalPart_none]
  refine wpAny_pure ?_
  have I4 : Inv X pins σ H3 { s3 with heap := s3.heap.push { cls := .type "slice", data := .fields #[vl, vu, .none] } } := I3.kept (t' := s3.toks) fun b ob q => Heap.get?_push_of_some _ q
  obtain ⟨T, id, hT, ht, hg⟩ := hr pins { s3 with heap := s3.heap.push { cls := .type "slice", data := .fields #[vl, vu, .none] } } σ H3 x v vl vu l u s3.heap.objs.size Q I4 r1 (Heap.IsSliceOf.new ..) pl pu q3
  show wpAny (model X.prog X.w) X.A (subscriptTail e (.Slice lo hi none p2) v (.ref s3.heap.objs.size)) (EP X pins σ Q) X.xe { s3 with heap := s3.heap.push { cls := .type "slice", data := .fields #[vl, vu, .none] } }
  exact tail_any (ops := [.ref s3.heap.objs.size, v]) ht hT hg (by with_unfolding_all rfl)
noncomputable def cutV (xs : List V) (lo hi : Option Int) : List V := (xs.drop (HT.sIx xs.length 0 lo)).take (HT.sIx xs.length xs.length hi - HT.sIx xs.length 0 lo)
theorem cutV_length (xs : List V) (lo hi : Option Int) : (cutV xs lo hi).length <= xs.length := by
  unfold cutV
  rw [List.length_take, List.length_drop]
  omega
noncomputable def rSlT (K : PySem.W.Frag) : V -> Option Int -> Option Int -> Hp -> VK -> Prop := fun x lo hi H Q => ∃ a xs, x = .ref a /\ SqT K H a xs /\
  ¬ (HT.sIx xs.length 0 lo = 0 /\ HT.sIx xs.length xs.length hi = xs.length) /\ ∀ p, H p = none -> Q (.ref p) (upd H p (.tup (cutV xs lo hi)))
theorem sl_tup : SlR X (rSlT X.K) := by
  intro pins s σ H x v vl vu lo hi sl Q I rx hs pl pu h
  obtain ⟨a, xs, rfl, hx, hw, q⟩ := h
  cases rx
  obtain ⟨its, r, ht, hz⟩ := I.tuple hx
  have hlen : its.toArray.size = xs.length := by rw [List.size_toArray]; exact r.length.symm
  refine ⟨"tuple", _, PyProof.Rows.slot_tuple_getitem.lookup, ht.typeIs, ?_⟩
  refine HT.getItem_tuple_cut ht hs pl pu (by rw [hlen]; exact hw) ?_ (by rw [hlen]; exact hz)
  rw [hlen]
  refine ⟨.ref s.heap.objs.size, _, I.laid (t' := s.toks) (o := .tup (cutV xs lo hi)) (fun b ob q => Heap.get?_push_of_some _ q) (Nat.le_refl _) ?_, rfl, q _ (I.hok.fresh (Nat.le_refl _))⟩
  exact ⟨Nat.le_trans (cutV_length xs lo hi) hz, _, (r.drop (HT.sIx xs.length 0 lo)).take (HT.sIx xs.length xs.length hi - HT.sIx xs.length 0 lo), TupN.new _ _⟩
noncomputable def rCatT (K : PySem.W.Frag) : R2 := fun x y H Q => ∃ a b xs ys, x = .ref a /\ y = .ref b /\ SqT K H a xs /\ SqT K H b ys /\ xs ≠ [] /\ xs.length + ys.length <= sizeLine /\
  (ys = [] -> Q (.ref a) H) /\ (ys ≠ [] -> ∀ p, H p = none -> Q (.ref p) (upd H p (.tup (xs ++ ys))))
theorem Vals.nil_iff {xs : List V} {us : List Value} (r : Vals xs us) : us = [] ↔ xs = [] := by
  cases r with
  | nil => simp
  | cons _ _ => simp
theorem op_catT : OpR X (binaryOp .Add) (rCatT X.K) := by
  intro pins s σ H x y v u Q I rx ry h
  obtain ⟨a, b, xs, ys, rfl, rfl, ha, hb, hx, hz, q1, q2⟩ := h
  cases rx
  cases ry
  obtain ⟨its, r1, p1, _⟩ := I.tuple ha
  obtain ⟨its2, r2, p2, _⟩ := I.tuple hb
  refine HT.cat_tup p1 p2 (fun z => hx (r1.nil_iff.mp z)) (fun z => ⟨.ref a, H, I, rfl, q1 (r2.nil_iff.mp z)⟩) (fun z => ?_) (by rw [<- r1.length, <- r2.length]; exact hz)
  refine ⟨.ref s.heap.objs.size, _, I.laid (t' := s.toks) (o := .tup (xs ++ ys)) (fun b ob q => Heap.get?_push_of_some _ q) (Nat.le_refl _) ?_, rfl, q2 (fun w => z (r2.nil_iff.mpr w)) _ (I.hok.fresh (Nat.le_refl _))⟩
  exact ⟨by rw [List.length_append]; exact hz, _, r1.append r2, TupN.new _ _⟩
end
end L2
namespace L2
open PySem PySem.Spec PyProof.Rows
noncomputable def ixN (n : Nat) (i : Int) : Option Nat := if 0 <= i then (if i < n then some i.toNat else none) else if -(n : Int) <= i then some (i + n).toNat else none
noncomputable def atI {α : Type} (xs : List α) (i : Int) : Option α := (ixN xs.length i).bind fun j => xs[j]?
theorem ixN_seq {n : Nat} {i : Int} {j : Nat} (h : ixN n i = some j) : seqIndex? i n = some j /\ j < n /\ -(n : Int) <= i /\ i < n := by
  unfold ixN at h
  by_cases h0 : 0 <= i
  · rw [if_pos h0] at h
    by_cases h1 : i < n
    · rw [if_pos h1] at h
      have e : i.toNat = j := Option.some.inj h
      exact ⟨by rw [seqIndex_of h0 h1, e], by omega, by omega, h1⟩
    · rw [if_neg h1] at h; cases h
  · rw [if_neg h0] at h
    by_cases h1 : -(n : Int) <= i
    · rw [if_pos h1] at h
      have e : (i + n).toNat = j := Option.some.inj h
      exact ⟨by rw [seqIndex_neg (by omega) h1, e], by omega, h1, by omega⟩
    · rw [if_neg h1] at h; cases h
theorem atI_get {α : Type} {xs : List α} {i : Int} {v : α} (h : atI xs i = some v) : ∃ j, seqIndex? i xs.length = some j /\ xs[j]? = some v /\ j < xs.length /\ -(xs.length : Int) <= i /\ i < xs.length := by
  unfold atI at h
  cases e : ixN xs.length i with
  | none => rw [e] at h; cases h
  | some j =>
    rw [e] at h
    obtain ⟨h1, h2, h3, h4⟩ := ixN_seq e
    exact ⟨j, h1, h, h2, h3, h4⟩
theorem atI_nat {α : Type} {xs : List α} {j : Nat} {v : α} (h : xs[j]? = some v) : atI xs (j : Int) = some v := by
  have hj : j < xs.length := (List.getElem?_eq_some_iff.mp h).1
  have e : ixN xs.length (j : Int) = some j := by
    unfold ixN
    rw [if_pos (by omega), if_pos (by omega)]; simp
  unfold atI; rw [e]; exact h
noncomputable def PlainIx (b : Expr) : Prop := ∀ o i, subscripted b false o i = operate [o, i] (getItem o i)
noncomputable def IxR (X : Cx) (r : R2) : Prop :=
  ∀ (value slice : Expr) (pins : List (Addr × Obj)) (s : Shared) (σ : St) (H : Hp) (x y : V) (v u : Value) (Q : VK), Inv X pins σ H s -> RelV x v -> RelV y u -> r x y H Q ->
    subscripted slice false v u = operate [v, u] (getItem v u) -> wpAny (model X.prog X.w) X.A (subscriptTail value slice v u) (EP X pins σ Q) X.xe s
noncomputable def MtR (X : Cx) (id : String) (r : V -> List V -> Hp -> VK -> Prop) : Prop :=
  ∀ (pins : List (Addr × Obj)) (s : Shared) (σ : St) (H : Hp) (x : V) (xs : List V) (v : Value) (us : List Value) (Q : VK), Inv X pins σ H s -> RelV x v -> Vals xs us -> r x xs H Q ->
    wpAny (model X.prog X.w) X.A (call (.builtin id) (v :: us)) (EP X pins σ Q) X.xe s
section
variable {X : Cx} {a b : Expr} {ta tb : TE} {pos : Pos}
theorem IxR.or {r r' : R2} (h : IxR X r) (h' : IxR X r') : IxR X (fun x y H Q => r x y H Q \/ r' x y H Q) := by
  intro value slice pins s σ H x y v u Q I rx ry q hs
  rcases q with q | q
  · exact h value slice pins s σ H x y v u Q I rx ry q hs
  · exact h' value slice pins s σ H x y v u Q I rx ry q hs
theorem MtR.or {id : String} {r r' : V -> List V -> Hp -> VK -> Prop} (h : MtR X id r) (h' : MtR X id r') : MtR X id (fun x xs H Q => r x xs H Q \/ r' x xs H Q) := by
  intro pins s σ H x xs v us Q I rx rs q
  rcases q with q | q
  · exact h pins s σ H x xs v us Q I rx rs q
  · exact h' pins s σ H x xs v us Q I rx rs q
theorem pe_ix {r : R2} (hr : IxR X r) (ha : PE X a ta) (hb : PE X b tb) (hs : PlainIx b) : PE X (.Subscript a b pos) (tOp r ta tb) := by
  intro pins s σ H Q I h
  exact Subscript_ (binT ha hb I h fun v u s2 x y H2 I2 rx ry q => hr a b pins s2 σ H2 x y v u Q I2 rx ry q (hs _ _))
noncomputable def rIxL (K : PySem.W.Frag) : R2 := fun x y H Q => ∃ p xs i v, x = .ref p /\ y = .int i /\ SqL K H p xs /\ atI xs i = some v /\ Q v H
noncomputable def rIxT (K : PySem.W.Frag) : R2 := fun x y H Q => ∃ p xs i v, x = .ref p /\ y = .int i /\ SqT K H p xs /\ atI xs i = some v /\ Q v H
noncomputable def rIxS : R2 := fun x y H Q => ∃ z i c, x = .str z /\ y = .int i /\ z.length <= sizeLine /\ atI z.cps.toList i = some c /\ Q (.str ⟨#[c]⟩) H
theorem ix_list : IxR X (rIxL X.K) := by
  intro value slice pins s σ H x y v u Q I rx ry h hs
  obtain ⟨p, xs, i, z, rfl, rfl, hq, he, q⟩ := h
  cases rx
  obtain ⟨t, rfl⟩ := ry
  obtain ⟨its, r, pl, hz⟩ := I.list hq
  obtain ⟨j, h1, h2, h3, h4, h5⟩ := atI_get he
  obtain ⟨w, ew, rw'⟩ := r.get h2
  have hl := r.length
  have hn := line63
  have fin : EP X pins σ Q w s := ⟨z, H, I, rw', q⟩
  by_cases h0 : 0 <= i
  · have hj : i.toNat = j := by
      rw [seqIndex_of h0 h5] at h1
      exact Option.some.inj h1
    exact item_listR pl.isList h0 (by omega) (by rw [hj]; simpa using ew) fin hs
  · have hj : (i + (its.toArray.size : Int)).toNat = j := by
      rw [seqIndex_neg (by omega) h4] at h1
      rw [List.size_toArray, <- hl]
      exact Option.some.inj h1
    exact subscriptTail_builtinR (x := w) pl.isList.typeIs slot_list_getitem.lookup
      (wpAny_getItem_list_neg (Q := fun r s' => r = w /\ EP X pins σ Q r s') pl.isList (by omega) (by rw [List.size_toArray] <;> omega) (by omega) (by rw [hj]; simpa using ew) ⟨rfl, fin⟩) hs
theorem ix_tup : IxR X (rIxT X.K) := by
  intro value slice pins s σ H x y v u Q I rx ry h hs
  obtain ⟨p, xs, i, z, rfl, rfl, hq, he, q⟩ := h
  cases rx
  obtain ⟨t, rfl⟩ := ry
  obtain ⟨its, r, pl, hz⟩ := I.tuple hq
  obtain ⟨j, h1, h2, h3, h4, h5⟩ := atI_get he
  obtain ⟨w, ew, rw'⟩ := r.get h2
  have hl := r.length
  have hn := line63
  have fin : EP X pins σ Q w s := ⟨z, H, I, rw', q⟩
  exact subscriptTail_builtinR (x := w) pl.typeIs slot_tuple_getitem.lookup
    (getItem_tuple (j := j) (Q := fun r s' => r = w /\ EP X pins σ Q r s') pl (by omega) (by omega) (by rw [List.size_toArray, <- hl]; exact h1) (by simpa using ew) ⟨rfl, fin⟩) hs
theorem ix_str : IxR X rIxS := by
  intro value slice pins s σ H x y v u Q I rx ry h hs
  obtain ⟨z, i, c, rfl, rfl, hz, he, q⟩ := h
  obtain ⟨t, rfl⟩ := rx
  obtain ⟨t', rfl⟩ := ry
  obtain ⟨j, h1, h2, h3, h4, h5⟩ := atI_get he
  have hl : z.cps.toList.length = z.length := by simp [Str.length]
  rw [hl] at h1 h4 h5
  have hn := line63
  exact tail_any (typeIs_str s z t) slot_str_getitem.lookup (getItem_str (c := c) (by
    have e1 : decide (i < -(2 ^ 63 : Int)) = false := decide_eq_false (by omega)
    have e2 : decide (i >= 2 ^ 63) = false := decide_eq_false (by omega)
    rw [e1, e2, Bool.or_false]) (by rw [h1]; simpa using h2) ⟨.str ⟨#[c]⟩, H, I.tok _, ⟨_, rfl⟩, q⟩) hs
noncomputable def rIx (K : PySem.W.Frag) : R2 := fun x y H Q => rIxL K x y H Q \/ rIxT K x y H Q \/ rIxS x y H Q
theorem ix_seq : IxR X (rIx X.K) := ix_list.or (ix_tup.or ix_str)
theorem mapSeq_set (its : List Value) (n j : Nat) (u : Value) : Obj.mapSeq (·.setIfInBounds j u) { cls := .type "list", data := .seq its.toArray n } = { cls := .type "list", data := .seq (its.set j u).toArray n } := by
  simp [Obj.mapSeq]
theorem Inv.lst {pins : List (Addr × Obj)} {σ : St} {H : Hp} {s : Shared} {p : Addr} {xs : List V} (I : Inv X pins σ H s) (h : H p = some (.lst xs)) :
    ∃ (its : List Value) (n : Nat), Vals xs its /\ s.heap.get? p = some { cls := .type "list", data := .seq its.toArray n } /\ xs.length <= sizeLine := by
  obtain ⟨z, its, n, r, e⟩ := I.hok p _ h
  exact ⟨its, n, r, e, z⟩
theorem Inv.lstUpd {pins : List (Addr × Obj)} {σ : St} {H : Hp} {s : Shared} {p : Addr} {xs ys : List V} {its its' : List Value} {n n' : Nat} {f : Obj -> Obj} (I : Inv X pins σ H s) (h : H p = some (.lst xs))
    (ho : s.heap.get? p = some { cls := .type "list", data := .seq its.toArray n }) (hf : f { cls := .type "list", data := .seq its.toArray n } = { cls := .type "list", data := .seq its'.toArray n' }) (r : Vals ys its') (hz : ys.length <= sizeLine) (t : Nat) :
    Inv X pins σ (upd H p (.lst ys)) { s with heap := s.heap.update p f, toks := t } := by
  have e : (s.heap.update p f).get? p = some { cls := .type "list", data := .seq its'.toArray n' } := by
    rw [Heap.get?_update_self f ho (by rw [hf] <;> rfl), hf]
  refine I.write (x := p) (e := p) (by rw [h]; trivial) (.inl rfl) (fun b u hb q => (Heap.get?_update_other _ _ (Ne.symm hb)).trans q) ⟨_, e⟩ ?_
  exact ⟨hz, its', n', r, e⟩
noncomputable def rSetL : V -> V -> V -> Hp -> (Hp -> Prop) -> Prop := fun o i v H Q => ∃ p xs k j, o = .ref p /\ i = .int k /\ H p = some (.lst xs) /\ ixN xs.length k = some j /\ Q (upd H p (.lst (xs.set j v)))
theorem set_list : PSet X rSetL := by
  intro pins s σ H o i v ov iv u Q I ro ri rv h
  obtain ⟨p, xs, k, j, rfl, rfl, hp, hj, q⟩ := h
  cases ro
  obtain ⟨t, rfl⟩ := ri
  obtain ⟨its, n, r, ho, hz⟩ := I.lst hp
  obtain ⟨h1, h2, h3, h4⟩ := ixN_seq hj
  have hl := r.length
  have hn := line63
  have I' : Inv X pins σ (upd H p (.lst (xs.set j v))) { s with heap := s.heap.update p (Obj.mapSeq (·.setIfInBounds j u)) } :=
    I.lstUpd hp ho (mapSeq_set its n j u) (r.set rv j) (by rw [List.length_set]; exact hz) s.toks
  by_cases h0 : 0 <= k
  · have hk : k.toNat = j := by
      rw [seqIndex_of h0 h4] at h1
      exact Option.some.inj h1
    exact PySem.W.ki_setAt ho h0 (by omega) (by rw [List.size_toArray, <- hl]; exact h4) (by rw [hk]; exact ⟨_, I', q⟩)
  · have hk : (k + (its.toArray.size : Int)).toNat = j := by
      rw [seqIndex_neg (by omega) h3] at h1
      rw [List.size_toArray, <- hl]
      exact Option.some.inj h1
    exact PySem.W.ki_setBack ho (by omega) (by rw [List.size_toArray, <- hl]; exact h3) (by omega) (by rw [hk]; exact ⟨_, I', q⟩)
theorem slice_bounds (lo hi : Option Int) (n : Nat) : (sliceBounds lo hi none n).1 = ((HT.sIx n 0 lo : Nat) : Int) /\ (sliceBounds lo hi none n).2.1 = ((HT.sIx n n hi : Nat) : Int) /\ (sliceBounds lo hi none n).2.2 = 1 := by
  refine ⟨?_, ?_, rfl⟩
  · cases lo with
    | none => simp [sliceBounds, HT.sIx]
    | some i =>
      simp only [sliceBounds, HT.sIx, Option.getD_none, show (1 : Int) > 0 by decide, if_true]
      by_cases h : i < 0
      · simp only [h, if_true] <;> omega
      · simp only [h, if_false] <;> omega
  · cases hi with
    | none => simp [sliceBounds, HT.sIx]
    | some i =>
      simp only [sliceBounds, HT.sIx, Option.getD_none, show (1 : Int) > 0 by decide, if_true]
      by_cases h : i < 0
      · simp only [h, if_true] <;> omega
      · simp only [h, if_false] <;> omega
theorem slicePick_cut (its : List Value) (lo hi : Option Int) : slicePick its.toArray lo hi none = ((its.drop (HT.sIx its.length 0 lo)).take (HT.sIx its.length its.length hi - HT.sIx its.length 0 lo)).toArray := by
  obtain ⟨h1, h2, h3⟩ := slice_bounds lo hi its.toArray.size
  unfold slicePick
  rw [h1, h2, h3]
  simp only [sliceRange_one, pick_run, List.size_toArray] <;> rfl
noncomputable def rSlL (K : PySem.W.Frag) : V -> Option Int -> Option Int -> Hp -> VK -> Prop := fun x lo hi H Q => ∃ a xs, x = .ref a /\ SqL K H a xs /\ ∀ p, H p = none -> Q (.ref p) (upd H p (.lst (cutV xs lo hi)))
theorem sl_list : SlR X (rSlL X.K) := by
  intro pins s σ H x v vl vu lo hi sl Q I rx hs pl pu h
  obtain ⟨a, xs, rfl, hx, q⟩ := h
  cases rx
  obtain ⟨its, r, ht, hz⟩ := I.list hx
  have hlen := r.length
  refine ⟨"list", _, slot_list_getitem.lookup, ht.isList.typeIs, ?_⟩
  refine wpAny_getItem_list_slice ht.isList hs pl pu .none (by simp) ?_ (by rw [List.size_toArray] <;> omega)
  rw [slicePick_cut, <- hlen]
  refine ⟨.ref s.heap.objs.size, _, I.laid (t' := s.toks) (o := .lst (cutV xs lo hi)) (fun b ob q => Heap.get?_push_of_some _ q) (Nat.le_refl _) ?_, rfl, q _ (I.hok.fresh (Nat.le_refl _))⟩
  exact ⟨Nat.le_trans (cutV_length xs lo hi) hz, _, 0, (r.drop (HT.sIx xs.length 0 lo)).take (HT.sIx xs.length xs.length hi - HT.sIx xs.length 0 lo), Heap.get?_push_size _ rfl⟩
noncomputable def flatV : V -> Bool
  | .non => true
  | .bl _ => true
  | .int _ => true
  | .str _ => true
  | _ => false
noncomputable def eqV : V -> V -> Bool
  | .non, .non => true
  | .bl a, .bl b => a == b
  | .bl a, .int b => (if a then 1 else 0) == b
  | .int a, .bl b => a == (if b then 1 else 0)
  | .int a, .int b => a == b
  | .str a, .str b => a == b
  | _, _ => false
theorem eqAt_V {A : Around} {s : Shared} {y x : V} {u v : Value} (ry : RelV y u) (rx : RelV x v) (fy : flatV y = true) (fx : flatV x = true) : SeqAt.EqAt A s u v (eqV y x) := by
  cases y with
  | non =>
    cases ry
    cases x with
    | non => cases rx; exact SeqAt.EqAt.same _
    | bl b => cases rx; exact SeqAt.EqAt.none_bool b
    | int b => obtain ⟨t, rfl⟩ := rx; exact SeqAt.EqAt.none_int b t
    | str b => obtain ⟨t, rfl⟩ := rx; exact SeqAt.EqAt.none_str b t
    | _ => exact absurd (show false = true from fx) Bool.false_ne_true
  | bl a =>
    cases ry
    cases x with
    | non => cases rx; exact SeqAt.EqAt.bool_none a
    | bl b => cases rx; exact SeqAt.EqAt.bool_bool a b
    | int b => obtain ⟨t, rfl⟩ := rx; exact SeqAt.EqAt.bool_int a b t
    | str b => obtain ⟨t, rfl⟩ := rx; exact SeqAt.EqAt.bool_str a b t
    | _ => exact absurd (show false = true from fx) Bool.false_ne_true
  | int a =>
    obtain ⟨t', rfl⟩ := ry
    cases x with
    | non => cases rx; exact SeqAt.EqAt.int_none a t'
    | bl b => cases rx; exact SeqAt.EqAt.int_bool a t' b
    | int b => obtain ⟨t, rfl⟩ := rx; exact SeqAt.EqAt.int_int a t' b t
    | str b => obtain ⟨t, rfl⟩ := rx; exact SeqAt.EqAt.int_str a t' b t
    | _ => exact absurd (show false = true from fx) Bool.false_ne_true
  | str a =>
    obtain ⟨t', rfl⟩ := ry
    cases x with
    | non => cases rx; exact SeqAt.EqAt.str_none a t'
    | bl b => cases rx; exact SeqAt.EqAt.str_bool a t' b
    | int b => obtain ⟨t, rfl⟩ := rx; exact SeqAt.EqAt.str_int a t' b t
    | str b => obtain ⟨t, rfl⟩ := rx; exact SeqAt.EqAt.str_str a t' b t
    | _ => exact absurd (show false = true from fx) Bool.false_ne_true
  | _ => exact absurd (show false = true from fy) Bool.false_ne_true
noncomputable def eqU (x : V) (u : Value) : Bool := match u with
  | .none => eqV .non x
  | .bool b => eqV (.bl b) x
  | .int i _ => eqV (.int i) x
  | .str z _ => eqV (.str z) x
  | _ => false
theorem eqU_of {x y : V} {u : Value} (r : RelV y u) (f : flatV y = true) : eqU x u = eqV y x := by
  cases y with
  | non => cases r; rfl
  | bl b => cases r; rfl
  | int i => obtain ⟨t, rfl⟩ := r; rfl
  | str z => obtain ⟨t, rfl⟩ := r; rfl
  | _ => exact absurd (show false = true from f) Bool.false_ne_true
theorem any_eqU {x : V} : ∀ {xs : List V} {us : List Value}, Vals xs us -> xs.all flatV = true -> us.any (eqU x) = xs.any fun y => eqV y x
  | _, _, .nil, _ => rfl
  | y :: xs, u :: us, .cons r t, f => by
    rw [List.all_cons, Bool.and_eq_true] at f
    rw [List.any_cons, List.any_cons, eqU_of r f.1, any_eqU t f.2]
theorem mem_eqAt {A : Around} {s : Shared} {x : V} {v : Value} (rx : RelV x v) (fx : flatV x = true) : ∀ {xs : List V} {us : List Value}, Vals xs us -> xs.all flatV = true -> ∀ u ∈ us, SeqAt.EqAt A s u v (eqU x u)
  | _, _, .nil, _ => fun u hu => by cases hu
  | y :: xs, u :: us, .cons r t, f => fun u' hu => by
    rw [List.all_cons, Bool.and_eq_true] at f
    rcases List.mem_cons.mp hu with rfl | hu
    · rw [eqU_of r f.1]; exact eqAt_V r rx f.1 fx
    · exact mem_eqAt rx fx t f.2 u' hu
noncomputable def inV (x : V) (xs : List V) : Bool := xs.any fun y => eqV y x
noncomputable def rIn (K : PySem.W.Frag) (neg : Bool) : R2 := fun x y H Q => ∃ p xs, y = .ref p /\ (SqL K H p xs \/ SqT K H p xs) /\ flatV x = true /\ xs.all flatV = true /\ Q (.bl (if neg then !inV x xs else inV x xs)) H
theorem op_notIn_seq : OpR X (compareOp .NotIn) (rIn X.K true) := by
  intro pins s σ H x y v u Q I rx ry h
  obtain ⟨p, xs, rfl, hq, fx, fs, q⟩ := h
  cases ry
  rcases hq with hq | hq
  · obtain ⟨its, r, pl, hz⟩ := I.list hq
    refine SeqAt.notIn_listAt (eqU x) pl.isList (fun w hw => mem_eqAt rx fx r fs w (by simpa using hw)) ⟨.bl _, H, I, rfl, ?_⟩
    rw [show its.toArray.any (eqU x) = its.any (eqU x) by simp, any_eqU r fs]
    exact q
  · obtain ⟨its, r, pl, hz⟩ := I.tuple hq
    refine SeqAt.notIn_tupleAt (eqU x) pl (fun w hw => mem_eqAt rx fx r fs w (by simpa using hw)) ⟨.bl _, H, I, rfl, ?_⟩
    rw [show its.toArray.any (eqU x) = its.any (eqU x) by simp, any_eqU r fs]
    exact q
theorem call_len_seq : CallR X (.builtin "len") (fun xs H Q => ∃ p ys, xs = [.ref p] /\ (SqL X.K H p ys \/ SqT X.K H p ys) /\ Q (.int ys.length) H) := by
  intro pins s σ H xs us Q I r h
  obtain ⟨p, ys, rfl, hq, q⟩ := h
  obtain ⟨u, rfl, rx⟩ := vals1 r
  cases rx
  have hn := line63
  rcases hq with hq | hq
  · obtain ⟨its, r', pl, hz⟩ := I.list hq
    have hlen := r'.length
    exact Calls.call_len_list pl.isList (by simp only [List.size_toArray] <;> omega) ⟨.int ys.length, H, I.tok _, ⟨s.toks + 1, by rw [List.size_toArray, hlen]⟩, q⟩
  · obtain ⟨its, r', pl, hz⟩ := I.tuple hq
    have hlen := r'.length
    exact len_tuple pl (by simp only [List.size_toArray] <;> omega) ⟨.int ys.length, H, I.tok _, ⟨s.toks + 1, by rw [List.size_toArray, hlen]⟩, q⟩
theorem call_len_str : CallR X (.builtin "len") (fun xs H Q => ∃ z, xs = [.str z] /\ z.length <= sizeLine /\ Q (.int z.length) H) := by
  intro pins s σ H xs us Q I r h
  obtain ⟨z, rfl, hz, q⟩ := h
  obtain ⟨u, rfl, t, rfl⟩ := vals1 r
  have hn := line63
  exact len_str (by omega) ⟨.int z.length, H, I.tok _, ⟨_, rfl⟩, q⟩
theorem CallR.or {f : Value} {r r' : List V -> Hp -> VK -> Prop} (h : CallR X f r) (h' : CallR X f r') : CallR X f (fun xs H Q => r xs H Q \/ r' xs H Q) := by
  intro pins s σ H xs us Q I rs q
  rcases q with q | q
  · exact h pins s σ H xs us Q I rs q
  · exact h' pins s σ H xs us Q I rs q
noncomputable def tyV (K : PySem.W.Frag) (T : String) (x : V) (H : Hp) : Prop := match x with
  | .str _ => T = "str"
  | .int _ => T = "int"
  | .ref p => (T = "list" /\ ∃ xs, SqL K H p xs) \/ (T = "tuple" /\ ∃ o, K.lookup p = some o /\ o.cls = .type "tuple" /\ o.dict = none) \/
      (T = "dict" /\ ((∃ kvs, H p = some (.dK kvs)) \/ ∃ kvs, H p = some (.dT kvs))) \/ (T = "set" /\ ∃ S n, H p = some (.set S n))
  | _ => False
theorem tyV_is {pins : List (Addr × Obj)} {σ : St} {H : Hp} {s : Shared} {T : String} {x : V} {v : Value} (I : Inv X pins σ H s) (r : RelV x v) (ty : tyV X.K T x H) :
    s.TypeIs v T /\ ∀ a, v = .ref a -> ∃ ob, s.heap.get? a = some ob /\ ob.dict = none := by
  cases x with
  | str z =>
    obtain ⟨t, rfl⟩ := r
    cases (show T = "str" from ty)
    exact ⟨typeIs_str s z t, fun _ e => nomatch e⟩
  | int i =>
    obtain ⟨t, rfl⟩ := r
    cases (show T = "int" from ty)
    exact ⟨typeIs_int s i t, fun _ e => nomatch e⟩
  | ref p =>
    cases r
    rcases ty with ⟨rfl, xs, hq⟩ | ⟨rfl, o, hk, hc, hd⟩ | ⟨rfl, hk⟩ | ⟨rfl, S, n, hk⟩
    · obtain ⟨its, _, pl, _⟩ := I.list hq
      refine ⟨pl.isList.typeIs, fun a e => ?_⟩
      cases e
      obtain ⟨o, n, e, c, hd, _⟩ := pl
      exact ⟨o, e, hd⟩
    · refine ⟨⟨o, I.kIn p o hk, hc⟩, fun a e => ?_⟩
      cases e
      exact ⟨o, I.kIn _ o hk, hd⟩
    · have z : ∃ o, s.heap.get? p = some o /\ o.ExactDict := by
        rcases hk with ⟨kvs, hk⟩ | ⟨kvs, hk⟩
        · obtain ⟨_, _, _, _, o, _, _, e, ex, _⟩ := I.hok p _ hk
          exact ⟨o, e, ex⟩
        · obtain ⟨_, _, _, _, o, _, _, e, ex, _⟩ := I.hok p _ hk
          exact ⟨o, e, ex⟩
      obtain ⟨o, e, ex⟩ := z
      refine ⟨⟨o, e, ex.1⟩, fun a e2 => ?_⟩
      cases e2
      exact ⟨o, e, ex.2.1⟩
    · obtain ⟨o, _, _, _, e, ex, _⟩ := I.hok p _ hk
      refine ⟨⟨o, e, ex.1⟩, fun a e2 => ?_⟩
      cases e2
      exact ⟨o, e, ex.2.1⟩
  | _ => exact False.elim ty
noncomputable def tBM0 (K : PySem.W.Frag) (T : String) (r : V -> List V -> Hp -> VK -> Prop) (to : TE) : TE := fun σ H Q => to σ H fun x H1 => tyV K T x H1 /\ r x [] H1 Q
variable {o e : Expr} {es : List Expr} {to : TE} {t : TA} {name : Str} {apos cpos : Pos} {T id : String} {r : V -> List V -> Hp -> VK -> Prop}
theorem pe_bm0 (pa : PlainAttrs T) (slot : Slot T name id) (hty : typeOf (.builtin id) = pure (.type "method_descriptor")) (hm : MtR X id r) (ho : PE X o to)
    (hbase : autoParam (attributeBase o name X.env (eval o X.env) = eval o X.env) L2.au3._auto_1) (hline : autoParam ((apos.endLine == cpos.line) = true) L2.au3._auto_1) : PE X (.Call (.Attribute o name apos) [] [] cpos) (tBM0 X.K T r to) := by
  intro pins s σ H Q I h
  refine wpAny_Call_method0_late hbase hline (thn (ho pins s σ H _ I h) fun v s1 ⟨x, H1, I1, r1, ty, q1⟩ => ?_)
  obtain ⟨h1, h2⟩ := tyV_is I1 r1 ty
  exact ⟨T, id, pa, slot, hty, h1, h2, Calls.callWith_builtin rfl (PySem.evalArgs_none (hm pins s1 σ H1 x [] v [] Q I1 r1 .nil q1))⟩
end
end L2
namespace L2
open PySem PySem.Spec PyProof.Rows
noncomputable def MtM (X : Cx) (id : String) (r : V -> List V -> Hp -> VK -> Prop) : Prop :=
  ∀ (pins : List (Addr × Obj)) (s : Shared) (σ : St) (H : Hp) (x : V) (xs : List V) (v : Value) (us : List Value) (Q : VK), Inv X pins σ H s -> RelV x v -> Vals xs us -> r x xs H Q ->
    wpAny (model X.prog X.w) X.A (call (.builtin id) (v :: us)) (EP X pins σ Q) X.xe s
theorem Vals.one : ∀ {x : V} {us : List Value}, Vals [x] us -> ∃ u, us = [u] /\ RelV x u
  | _, _, .cons r .nil => ⟨_, rfl, r⟩
theorem Vals.zero : ∀ {us : List Value}, Vals [] us -> us = []
  | _, .nil => rfl
section
variable {X : Cx} {pins : List (Addr × Obj)} {σ : St} {H : Hp} {s : Shared} {l b : Addr} {xs ys zs : List V}
theorem Inv.lset {its its' : List Value} {n : Nat} {f : Array Value -> Array Value} {t' : Nat} (I : Inv X pins σ H s) (hH : H l = some (.lst xs))
    (e : s.heap.get? l = some { cls := .type "list", data := .seq its.toArray n }) (hf : f its.toArray = its'.toArray) (hv : Vals ys its') (hz : ys.length <= sizeLine) :
    Inv X pins σ (upd H l (.lst ys)) { s with heap := s.heap.update l (Obj.mapSeq f), toks := t' } := by
  have q := PySem.IsL.update e f
  rw [hf] at q
  refine I.write (x := l) (e := l) (by rw [hH]; exact trivial) (.inl rfl) (fun b' u hb hu => (Heap.get?_update_other s.heap (Obj.mapSeq f) (Ne.symm hb)).trans hu) ⟨_, q⟩ ?_
  exact ⟨hz, its', _, hv, q⟩
theorem Inv.lnew {its : List Value} {t' : Nat} (I : Inv X pins σ H s) (hv : Vals ys its) (hz : ys.length <= sizeLine) :
    Inv X pins σ (upd H s.heap.objs.size (.lst ys)) { s with heap := s.heap.push { cls := .type "list", data := .seq its.toArray }, toks := t' } :=
  I.laid (fun _ _ q => Heap.get?_push_of_some _ q) (Nat.le_refl _) ⟨hz, its, 0, hv, Heap.get?_push_size _ rfl⟩
theorem Inv.fresh (I : Inv X pins σ H s) : H s.heap.objs.size = none := I.hok.fresh (Nat.le_refl _)
theorem Inv.lstM (I : Inv X pins σ H s) (hH : H l = some (.lst xs)) : xs.length <= sizeLine /\ ∃ (its : List Value) (n : Nat), Vals xs its /\ xs.length = its.length /\ s.heap.get? l = some { cls := .type "list", data := .seq its.toArray n } := by
  obtain ⟨z, its, n, r, e⟩ := I.hok l _ hH
  exact ⟨z, its, n, r, r.length, e⟩
end
section
variable {X : Cx}
noncomputable def rAppend : V -> List V -> Hp -> VK -> Prop := fun x vs H Q => ∃ l xs y, x = .ref l /\ vs = [y] /\ H l = some (.lst xs) /\ xs.length < sizeLine /\ Q .non (upd H l (.lst (xs ++ [y])))
theorem mt_append : MtM X "list.append" rAppend := by
  intro pins s σ H x vs v us Q I rx rv h
  obtain ⟨l, xs, y, rfl, rfl, hH, hz, q⟩ := h
  cases rx
  obtain ⟨u, rfl, ru⟩ := rv.one
  obtain ⟨z, its, n, r, hl, e⟩ := I.lstM hH
  refine call_meets F.slot_list_append ⟨_, e, rfl⟩ F.entry_list_append (F.args_list_append_2 _ _) (PySem.list_append l its.toArray n u (by rw [List.size_toArray]; omega)) ⟨e, ?_⟩
  refine ⟨.non, _, I.lset (its' := its ++ [u]) hH e (by simp) (r.append (.cons ru .nil)) ?_, rfl, q⟩
  rw [List.length_append, List.length_singleton]
  omega
noncomputable def rCat : R2 := fun x y H Q => ∃ l b xs zs, x = .ref l /\ y = .ref b /\ H l = some (.lst xs) /\ H b = some (.lst zs) /\ xs.length + zs.length <= sizeLine /\ ∀ p, H p = none -> Q (.ref p) (upd H p (.lst (xs ++ zs)))
theorem op_cat : OpR X (binaryOp .Add) rCat := by
  intro pins s σ H x y v u Q I rx ry h
  obtain ⟨l, b, xs, zs, rfl, rfl, hH, hB, hz, q⟩ := h
  cases rx
  cases ry
  obtain ⟨z, its, n, r, hl, e⟩ := I.lstM hH
  obtain ⟨z2, its2, n2, r2, hl2, e2⟩ := I.lstM hB
  refine PySem.P.add_list e e2 ?_ (by rw [List.size_toArray, List.size_toArray]; omega)
  have ea : its.toArray ++ its2.toArray = (its ++ its2).toArray := by simp
  rw [ea]
  exact ⟨.ref _, _, I.lnew (t' := s.toks) (r.append r2) (by rw [List.length_append]; omega), rfl, q _ I.fresh⟩
end
section
variable {prog : Program} {w : World} {A : Around} {E : Value -> Shared -> Prop} {s : Shared}
end
section
variable {X : Cx}
end
end L2
set_option maxRecDepth 100000
namespace L2
open PySem PySem.Spec PyProof.Rows
section
variable {κ : Type} [DecidableEq κ]
noncomputable def valV (kvs : List (κ × V)) (k : κ) : Option V := (kvs.find? fun kv => decide (kv.1 = k)).map (·.2)
noncomputable def putK (kvs : List (κ × V)) (k : κ) (v : V) : List (κ × V) :=
  if (kvs.any fun kv => decide (kv.1 = k)) = true then kvs.map (fun kv => if kv.1 = k then (kv.1, v) else kv) else kvs ++ [(k, v)]
noncomputable def dropK (kvs : List (κ × V)) (k : κ) : List (κ × V) := kvs.filter fun kv => decide (kv.1 ≠ k)
theorem valV_pos {p : κ × V} {r : List (κ × V)} {k : κ} (e : p.1 = k) : valV (p :: r) k = some p.2 := by simp [valV, List.find?_cons, e]
theorem valV_neg {p : κ × V} {r : List (κ × V)} {k : κ} (e : ¬ p.1 = k) : valV (p :: r) k = valV r k := by simp [valV, List.find?_cons, e]
theorem valV_any (k : κ) : ∀ kvs : List (κ × V), (kvs.any fun kv => decide (kv.1 = k)) = (valV kvs k).isSome
  | [] => rfl
  | p :: r => by
    rw [List.any_cons]
    by_cases e : p.1 = k
    · simp only [valV_pos e, decide_eq_true e, Bool.true_or, Option.isSome_some]
    · rw [valV_neg e, decide_eq_false e, Bool.false_or]; exact valV_any k r
theorem length_putK (kvs : List (κ × V)) (k : κ) (v : V) : (putK kvs k v).length <= kvs.length + 1 := by
  unfold putK
  split
  · rw [List.length_map]; omega
  · rw [List.length_append, List.length_cons, List.length_nil]; omega
theorem RelO.isSome_eq {o : Option V} {u : Option Value} (r : RelO o u) : o.isSome = u.isSome := by
  cases o with
  | none => cases u with
    | none => rfl
    | some _ => exact (show False from r).elim
  | some _ => cases u with
    | none => exact (show False from r).elim
    | some _ => rfl
theorem RelO.getD {o : Option V} {u : Option Value} {d : V} {d' : Value} (r : RelO o u) (rd : RelV d d') : RelV (o.getD d) (u.getD d') := by
  cases o with
  | none => cases u with
    | none => exact rd
    | some _ => exact (show False from r).elim
  | some _ => cases u with
    | none => exact (show False from r).elim
    | some _ => exact r
theorem KV.val {kvs : List (κ × V)} {vs : List (κ × Value)} (r : KV kvs vs) (k : κ) : RelO (valV kvs k) (valueAt vs k) := by
  unfold KV at r
  induction r with
  | nil => exact True.intro
  | @cons p q ps qs h t ih =>
    obtain ⟨h1, h2⟩ := h
    by_cases e : p.1 = k
    · have e' : q.1 = k := h1.symm.trans e
      have b : valueAt (q :: qs) k = some q.2 := by simp [valueAt, List.find?_cons, e']
      rw [valV_pos e, b]; exact h2
    · have e' : ¬ q.1 = k := fun z => e (h1.trans z)
      have b : valueAt (q :: qs) k = valueAt qs k := by simp [valueAt, List.find?_cons, e']
      rw [valV_neg e, b]; exact ih
theorem KV.any {kvs : List (κ × V)} {vs : List (κ × Value)} (r : KV kvs vs) (k : κ) : (kvs.any fun kv => decide (kv.1 = k)) = vs.any fun kv => decide (kv.1 = k) := by
  unfold KV at r
  induction r with
  | nil => rfl
  | cons h t ih => rw [List.any_cons, List.any_cons, ih, h.1]
theorem KV.repl {kvs : List (κ × V)} {vs : List (κ × Value)} (r : KV kvs vs) (k : κ) {y : V} {u : Value} (ry : RelV y u) :
    KV (kvs.map fun kv => if kv.1 = k then (kv.1, y) else kv) (vs.map fun kv => if kv.1 = k then (kv.1, u) else kv) := by
  unfold KV at r ⊢
  induction r with
  | nil => exact .nil
  | @cons p q ps qs h t ih =>
    rw [List.map_cons, List.map_cons]
    refine .cons ?_ ih
    obtain ⟨h1, h2⟩ := h
    by_cases e : p.1 = k
    · rw [if_pos e, if_pos (h1.symm.trans e)]; exact ⟨h1, ry⟩
    · rw [if_neg e, if_neg (fun z => e (h1.trans z))]; exact ⟨h1, h2⟩
theorem KV.put {kvs : List (κ × V)} {vs : List (κ × Value)} (r : KV kvs vs) (k : κ) {y : V} {u : Value} (ry : RelV y u) : KV (putK kvs k y) (stored vs k u) := by
  unfold putK stored
  rw [r.any k]
  by_cases e : (vs.any fun kv => decide (kv.1 = k)) = true
  · rw [if_pos e, if_pos e]; exact r.repl k ry
  · rw [if_neg e, if_neg e]; exact Paired.snoc r ⟨rfl, ry⟩
theorem KV.drop {kvs : List (κ × V)} {vs : List (κ × Value)} (r : KV kvs vs) (k : κ) : KV (dropK kvs k) (without vs k) := by
  unfold KV at r ⊢
  unfold dropK without
  induction r with
  | nil => exact .nil
  | @cons p q ps qs h t ih =>
    obtain ⟨h1, h2⟩ := h
    rw [List.filter_cons, List.filter_cons]
    by_cases e : p.1 = k
    · have a : ¬ decide (p.1 ≠ k) = true := by simp [e]
      have b : ¬ decide (q.1 ≠ k) = true := by simp [h1.symm.trans e]
      rw [if_neg a, if_neg b]; exact ih
    · have e' : ¬ q.1 = k := fun z => e (h1.trans z)
      have a : decide (p.1 ≠ k) = true := by simp [e]
      have b : decide (q.1 ≠ k) = true := by simp [e']
      rw [if_pos a, if_pos b]; exact .cons ⟨h1, h2⟩ ih
theorem KV.keys {kvs : List (κ × V)} {vs : List (κ × Value)} (r : KV kvs vs) : kvs.map (·.1) = vs.map (·.1) := by
  unfold KV at r
  induction r with
  | nil => rfl
  | cons h t ih => rw [List.map_cons, List.map_cons, ih, h.1]
theorem KV.length {kvs : List (κ × V)} {vs : List (κ × Value)} (r : KV kvs vs) : kvs.length = vs.length := Paired.length r
theorem dropK_le (kvs : List (κ × V)) (k : κ) : (dropK kvs k).length <= kvs.length := List.length_filter_le _ _
end
theorem kV_is {P : Program} {w : World} {k : Key} {u : Value} (r : RelV (kV k) u) : (mixKind P w).is k u = true := by
  cases k with
  | inl i => obtain ⟨t, e⟩ := (show ∃ t, u = Value.int i t from r); subst e; exact mixKind_int P w i t
  | inr x => obtain ⟨t, e⟩ := (show ∃ t, u = Value.str x t from r); subst e; exact mixKind_str P w x t
  | non => cases (show u = Value.none from r); exact mixKind_non P w
theorem items_are {P : Program} {w : World} : ∀ {ks : List Key} {us : List Value}, Vals (ks.map kV) us -> ItemsAre (mixKind P w) ks us
  | [], _, r => by rw [List.map_nil] at r; cases r; exact .nil
  | k :: ks, _, r => by
    rw [List.map_cons] at r
    cases r with
    | cons h t => exact .cons (kV_is h) (items_are t)
noncomputable abbrev KT (H : Hp) : List (List Key × V) -> List (List Key × Addr × Value) -> Prop := Paired fun p q => p.1 = q.1 /\ H q.2.1 = some (.tup (p.1.map kV)) /\ RelV p.2 q.2.2
theorem KT.val {H : Hp} {kvs : List (List Key × V)} {xs : List (List Key × Addr × Value)} (r : KT H kvs xs) (k : List Key) : RelO (valV kvs k) ((atKey xs k).map (·.2)) := by
  induction r with
  | nil => exact True.intro
  | @cons p q ps qs h t ih =>
    obtain ⟨h1, _, h2⟩ := h
    by_cases e : p.1 = k
    · have e' : q.1 = k := h1.symm.trans e
      have b : atKey (q :: qs) k = some q.2 := by simp [atKey, List.find?_cons, e']
      rw [valV_pos e, b]; exact h2
    · have e' : ¬ q.1 = k := fun z => e (h1.trans z)
      have b : atKey (q :: qs) k = atKey qs k := by simp [atKey, List.find?_cons, e']
      rw [valV_neg e, b]; exact ih
theorem KT.repl {H : Hp} {kvs : List (List Key × V)} {xs : List (List Key × Addr × Value)} (r : KT H kvs xs) (k : List Key) {y : V} {u : Value} (ry : RelV y u) :
    KT H (kvs.map fun kv => if kv.1 = k then (kv.1, y) else kv) (xs.map (putAt k u)) := by
  induction r with
  | nil => exact .nil
  | @cons p q ps qs h t ih =>
    rw [List.map_cons, List.map_cons]
    refine .cons ?_ ih
    obtain ⟨h1, h2, h3⟩ := h
    unfold putAt
    by_cases e : p.1 = k
    · rw [if_pos e, if_pos (h1.symm.trans e)]; exact ⟨h1, h2, ry⟩
    · rw [if_neg e, if_neg (fun z => e (h1.trans z))]; exact ⟨h1, h2, h3⟩
theorem KT.put {H : Hp} {kvs : List (List Key × V)} {xs : List (List Key × Addr × Value)} (r : KT H kvs xs) (k : List Key) {b : Addr} {y : V} {u : Value} (hb : H b = some (.tup (k.map kV))) (ry : RelV y u) :
    KT H (putK kvs k y) (storedH xs k b u) := by
  have e : (kvs.any fun kv => decide (kv.1 = k)) = (atKey xs k).isSome := by
    rw [valV_any, (r.val k).isSome_eq, Option.isSome_map]
  unfold putK storedH
  rw [e]
  by_cases q : (atKey xs k).isSome = true
  · rw [if_pos q, if_pos q]; exact r.repl k ry
  · rw [if_neg q, if_neg q]; exact Paired.snoc r ⟨rfl, hb, ry⟩
theorem KT.keeps {H H' : Hp} {kvs : List (List Key × V)} {xs : List (List Key × Addr × Value)} (r : KT H kvs xs) (ht : ∀ b ys, H b = some (.tup ys) -> H' b = some (.tup ys)) : KT H' kvs xs :=
  Paired.mapP r fun _ _ z => ⟨z.1, ht _ _ z.2.1, z.2.2⟩
section
variable {P : Program} {w : World} {H : Hp} {h : Heap} {a : Addr}
theorem rd_of {u : HO} (ok : HOk P w H h) (e : Rd H a u) : ObjOk P w H h a u := e.ok ok
theorem dk_rd {kvs : List (Key × V)} (ok : HOk P w H h) (e : Rd H a (.dK kvs)) : kvs.length <= sizeLine /\ (a == sysModules) = false /\ ∃ vs, KV kvs vs /\ h.DictOf (mixKind P w) a vs :=
  show ObjOk P w H h a (.dK kvs) from rd_of ok e
theorem dk_of {kvs : List (Key × V)} (ok : HOk P w H h) (e : H a = some (.dK kvs)) : kvs.length <= sizeLine /\ (a == sysModules) = false /\ ∃ vs, KV kvs vs /\ h.DictOf (mixKind P w) a vs := dk_rd ok (.inl e)
theorem key_of {ks : List Key} (ok : HOk P w H h) (e : H a = some (.tup (ks.map kV))) : (tupleKind (mixKind P w)).is h ks a := by
  obtain ⟨_, its, r, o, h1, h2, _, n, h3⟩ := (show ObjOk P w H h a (.tup (ks.map kV)) from ok a _ e)
  exact ⟨o, its.toArray, n, h1, h2, h3, by simpa using items_are r⟩
theorem dt_rd {kvs : List (List Key × V)} (ok : HOk P w H h) (e : Rd H a (.dT kvs)) : kvs.length <= sizeLine /\ (a == sysModules) = false /\
    ∃ xs, KT H kvs xs /\ h.DictOfH (tupleKind (mixKind P w)) a xs := by
  obtain ⟨z, y, xs, r, o, es, ep, h1, h2, h3, h4, h5⟩ := (show ObjOk P w H h a (.dT kvs) from rd_of ok e)
  refine ⟨z, y, xs, r, o, es, ep, h1, h2, h3, h4, fun x hx => ?_, h5⟩
  have all : ∀ {l : List (List Key × V)} {m : List (List Key × Addr × Value)}, KT H l m -> ∀ x ∈ m, (tupleKind (mixKind P w)).is h x.1 x.2.1 := by
    intro l m q
    induction q with
    | nil => intro x hx; exact nomatch hx
    | @cons p q ps qs hq t ih =>
      intro x hx
      rcases List.mem_cons.mp hx with e | hx
      · subst e
        exact key_of ok (by rw [<- hq.1]; exact hq.2.1)
      · exact ih x hx
  exact all r x hx
theorem dt_of {kvs : List (List Key × V)} (ok : HOk P w H h) (e : H a = some (.dT kvs)) : kvs.length <= sizeLine /\ (a == sysModules) = false /\
    ∃ xs, KT H kvs xs /\ h.DictOfH (tupleKind (mixKind P w)) a xs := dt_rd ok (.inl e)
end
noncomputable def DGet (H : Hp) (a : Addr) (y : V) (r : Option V) : Prop :=
  (∃ kvs k, Rd H a (.dK kvs) /\ y = kV k /\ r = valV kvs k) \/ ∃ kvs k b, Rd H a (.dT kvs) /\ y = .ref b /\ H b = some (.tup (k.map kV)) /\ r = valV kvs k
noncomputable def DPut (H : Hp) (a : Addr) (y v : V) (H' : Hp) : Prop :=
  (∃ kvs k, H a = some (.dK kvs) /\ y = kV k /\ kvs.length < sizeLine /\ H' = upd H a (.dK (putK kvs k v))) \/
  ∃ kvs k b, H a = some (.dT kvs) /\ y = .ref b /\ H b = some (.tup (k.map kV)) /\ kvs.length < sizeLine /\ H' = upd H a (.dT (putK kvs k v))
theorem DGet.k {H : Hp} {a : Addr} {kvs : List (Key × V)} {k : Key} (e : H a = some (.dK kvs)) : DGet H a (kV k) (valV kvs k) := .inl ⟨kvs, k, .inl e, rfl, rfl⟩
theorem DGet.t {H : Hp} {a b : Addr} {kvs : List (List Key × V)} {k : List Key} (e : H a = some (.dT kvs)) (eb : H b = some (.tup (k.map kV))) : DGet H a (.ref b) (valV kvs k) := .inr ⟨kvs, k, b, .inl e, rfl, eb, rfl⟩
theorem DPut.k {H : Hp} {a : Addr} {kvs : List (Key × V)} {k : Key} {v : V} (e : H a = some (.dK kvs)) (hl : kvs.length < sizeLine) : DPut H a (kV k) v (upd H a (.dK (putK kvs k v))) := .inl ⟨kvs, k, e, rfl, hl, rfl⟩
theorem DPut.t {H : Hp} {a b : Addr} {kvs : List (List Key × V)} {k : List Key} {v : V} (e : H a = some (.dT kvs)) (eb : H b = some (.tup (k.map kV))) (hl : kvs.length < sizeLine) :
    DPut H a (.ref b) v (upd H a (.dT (putK kvs k v))) := .inr ⟨kvs, k, b, e, rfl, eb, hl, rfl⟩
section
variable {X : Cx} {pins : List (Addr × Obj)} {σ : St} {H : Hp} {s : Shared} {a : Addr} {y v : V} {u r : Value} {o : Option V} {A : Around} {E : Value -> Shared -> Prop}
theorem Inv.big (I : Inv X pins σ H s) : sysModules < s.heap.objs.size := by
  have h : mainGlobals < s.heap.objs.size := (I.mod.glob.keeps I.bk).lt
  exact Nat.lt_trans (by decide) h
theorem d_getItem {Q : Value -> Shared -> Prop} (hu : A.units + 1 < cLine) (I : Inv X pins σ H s) (g : DGet H a y (some v)) (ry : RelV y u) (h : ∀ w' s', Inv X pins σ H s' -> RelV v w' -> Q w' s') :
    wpAny (model X.prog X.w) A (getItem (.ref a) u) Q E s := by
  rcases g with ⟨kvs, k, e, ey, l⟩ | ⟨kvs, k, b, e, ey, eb, l⟩
  · subst ey
    obtain ⟨z, hd, vs, rel, dd⟩ := dk_rd I.hok e
    obtain ⟨w', hw, rw'⟩ := RelO.some_of (v := v) (o := valueAt vs k) (by rw [l]; exact rel.val k)
    exact wpAny_getItem_of (kV_is ry) dd.mapOf hw (h w' _ (I.tok _) rw')
  · subst ey
    cases (show u = Value.ref b from ry)
    obtain ⟨z, hd, xs, rel, dd⟩ := dt_rd I.hok e
    obtain ⟨w', hw, rw'⟩ := RelO.some_of (v := v) (o := (atKey xs k).map (·.2)) (by rw [l]; exact rel.val k)
    obtain ⟨p, hp, hp2⟩ := Option.map_eq_some_iff.mp hw
    refine wpAny_getItem_heap (tupleKind_room_in1 hu) (key_of I.hok eb) dd hp ?_
    rw [hp2]
    exact h w' _ (I.tok _) rw'
theorem d_notIn {Q : Value -> Shared -> Prop} (hu : A.units + 1 < cLine) (I : Inv X pins σ H s) (g : DGet H a y o) (ry : RelV y u) (h : ∀ s', Inv X pins σ H s' -> Q (.bool (!o.isSome)) s') :
    wpAny (model X.prog X.w) A (compareOp .NotIn u (.ref a)) Q E s := by
  rcases g with ⟨kvs, k, e, ey, l⟩ | ⟨kvs, k, b, e, ey, eb, l⟩
  · subst ey
    obtain ⟨z, hd, vs, rel, dd⟩ := dk_rd I.hok e
    refine wpAny_notIn_of (kV_is ry) hd dd.mapOf ?_
    rw [<- (rel.val k).isSome_eq, <- l]
    exact h _ (I.tok _)
  · subst ey
    cases (show u = Value.ref b from ry)
    obtain ⟨z, hd, xs, rel, dd⟩ := dt_rd I.hok e
    refine wpAny_notIn_heap (tupleKind_room_in1 hu) (key_of I.hok eb) hd dd ?_
    have q := (rel.val k).isSome_eq
    rw [Option.isSome_map] at q
    rw [<- q, <- l]
    exact h _ (I.tok _)
theorem d_write {h' : Heap} {t' : Nat} {ob : HO} (I : Inv X pins σ H s) (mu : Mut (H a)) (hs : Heap.SameBut a s.heap h') (he : ∃ q, h'.get? a = some q) (new : ObjOk X.prog X.w (upd H a ob) h' a ob) :
    Inv X pins σ (upd H a ob) { s with heap := h', toks := t' } :=
  I.write (x := a) (e := a) mu (.inl rfl) (fun b q hb z => (hs.2 b hb).trans z) he new
theorem dk_new {P : Program} {w : World} {H' : Hp} {h' : Heap} {kvs : List (Key × V)} {vs : List (Key × Value)} (z : kvs.length <= sizeLine) (hd : (a == sysModules) = false) (rel : KV kvs vs) (dd : h'.DictOf (mixKind P w) a vs) :
    ObjOk P w H' h' a (.dK kvs) := ⟨z, hd, vs, rel, dd⟩
theorem d_setItem {H' : Hp} {Q : Unit -> Shared -> Prop} (hu : A.units + 1 < cLine) (I : Inv X pins σ H s) (g : DPut H a y v H') (ry : RelV y u) (rv : RelV v r) (h : ∀ s', Inv X pins σ H' s' -> Q () s') :
    wpAny (model X.prog X.w) A (setItem (.ref a) u r) Q E s := by
  rcases g with ⟨kvs, k, e, ey, l, eH⟩ | ⟨kvs, k, b, e, ey, eb, l, eH⟩
  · subst ey eH
    obtain ⟨z, hd, vs, rel, dd⟩ := dk_of I.hok e
    have hz : vs.length <= sizeLine := by rw [<- rel.length]; exact z
    have hl : (putK kvs k v).length <= sizeLine := by have := length_putK kvs k v; omega
    refine wpAny_setItem_pairs (hsz := hz) (kV_is ry) dd fun h' dd' hs => h _ ?_
    have he : ∃ q, h'.get? a = some q := let ⟨q, _, _, hq, _⟩ := dd'; ⟨q, hq⟩
    exact d_write I (by rw [e]; exact True.intro) hs he (dk_new hl hd (rel.put k rv) dd')
  · subst ey eH
    cases (show u = Value.ref b from ry)
    obtain ⟨z, hd, xs, rel, dd⟩ := dt_of I.hok e
    have hz : xs.length <= sizeLine := by rw [<- Paired.length rel]; exact z
    have hl : (putK kvs k v).length <= sizeLine := by have := length_putK kvs k v; omega
    refine wpAny_setItem_heap (hsz := hz) (tupleKind_room_in1 hu) (key_of I.hok eb) dd fun h' dd' hs => h _ ?_
    obtain ⟨q, es, ep, hq, h2, h3, h4, _, h5⟩ := dd'
    refine d_write I (by rw [e]; exact True.intro) hs ⟨q, hq⟩ ⟨hl, hd, _, (rel.put k eb rv).keeps fun c ys ec => ?_, q, es, ep, hq, h2, h3, h4, h5⟩
    rw [upd_ne (ne_of ec e (fun z => nomatch z))]
    exact ec
end
section
variable {X : Cx} {pins : List (Addr × Obj)} {σ : St} {H : Hp} {s : Shared} {a : Addr} {kvs : List (Key × V)} {k : Key} {u : Value} {A : Around} {E : Value -> Shared -> Prop}
theorem d_pop {v : V} {more : List Value} {Q : Value -> Shared -> Prop} (I : Inv X pins σ H s) (e : H a = some (.dK kvs)) (ry : RelV (kV k) u) (l : valV kvs k = some v) (hm : more = [] \/ ∃ x, more = [x])
    (h : ∀ w' s', Inv X pins σ (upd H a (.dK (dropK kvs k))) s' -> RelV v w' -> Q w' s') : wpAny (model X.prog X.w) A (call (.builtin "dict.pop") (.ref a :: u :: more)) Q E s := by
  obtain ⟨z, hd, vs, rel, dd⟩ := dk_of I.hok e
  obtain ⟨w', hw, rw'⟩ := RelO.some_of (v := v) (o := valueAt vs k) (by rw [<- l]; exact rel.val k)
  have hp : (keyPart u).isSome = true := by
    cases k with
    | inl i => obtain ⟨t, q⟩ := (show ∃ t, u = Value.int i t from ry); subst q; rfl
    | inr x => obtain ⟨t, q⟩ := (show ∃ t, u = Value.str x t from ry); subst q; rfl
    | non => cases (show u = Value.none from ry); rfl
  have ha : argsOk "dict.pop" ⟨.ref a :: u :: more, []⟩ := by
    rcases hm with q | ⟨x, q⟩
    · subst q; exact PySem.F.args_dict_pop_2 _ _
    · subst q; exact PySem.F.args_dict_pop_3 _ _ _
  refine call_meetsIn PySem.F.slot_dict_pop dd.typeIs PySem.F.entry_dict_pop ha (meets_dict_pop_there (mixKind X.prog X.w) a (kV_is ry) more hm hp)
    ⟨vs, w', dd, by rw [<- rel.length]; exact z, hw, fun h' dd' hs => h w' _ ?_ rw'⟩
  have he : ∃ q, h'.get? a = some q := let ⟨q, _, _, hq, _⟩ := dd'; ⟨q, hq⟩
  exact d_write I (by rw [e]; exact True.intro) hs he (dk_new (Nat.le_trans (dropK_le kvs k) z) hd (rel.drop k) dd')
theorem d_len {Q : Value -> Shared -> Prop} (I : Inv X pins σ H s) (e : Rd H a (.dK kvs)) (h : ∀ t s', Inv X pins σ H s' -> Q (.int kvs.length t) s') : wpAny (model X.prog X.w) A (call (.builtin "len") [.ref a]) Q E s := by
  obtain ⟨z, hd, vs, rel, dd⟩ := dk_rd I.hok e
  refine call_len_dict hd dd (by rw [<- rel.length]; rw [sizeLine_eq] at z; omega) ?_
  rw [<- rel.length]
  exact h _ _ (I.tok _)
end
noncomputable def NoSl (i : Expr) : Prop := ∀ ov iv, subscripted i false ov iv = operate [ov, iv] (getItem ov iv)
theorem subD_of {prog : Program} {w : World} {A : Around} {E : Value -> Shared -> Prop} {s : Shared} {env : Env} {value slice : Expr} {pos : Pos} {T id : String} {Q : Value -> Shared -> Prop}
    (hl : typeLookup (.type T) "__getitem__" = pure (some (.builtin id))) (hs : NoSl slice)
    (h : wpAny (model prog w) A (eval value env) (fun o s₁ => wpAny (model prog w) A (eval slice env) (fun i s₂ => s₂.TypeIs o T /\ wpAny (model prog w) A (getItem o i) Q E s₂) E s₁) E s) :
    wpAny (model prog w) A (eval (.Subscript value slice pos) env) Q E s := by
  refine Subscript_ (wpAny_mono h (fun o s₁ h₁ => wpAny_mono h₁ (fun i s₂ h₂ => ?_) fun _ _ x => x) fun _ _ x => x)
  obtain ⟨hT, h₂⟩ := h₂
  unfold subscriptTail
  refine wpAny_bind ?_
  rw [getitemInPython_of_ne hT.not_modules]
  refine wpAny_bind (wpAny_specialOf hT hl ?_)
  have fin : wpAny (model prog w) A (subscripted slice false o i) (fun r s₃ => wpAny (model prog w) A (letTemporaryGo value o r >>= fun _ => pure r) Q E s₃) E s₂ := by
    rw [hs o i]
    exact wpAny_operating (wpAny_mono h₂ (fun r s₃ h₃ => wpAny_bind (wpAny_letTemporaryGo (wpAny_pure h₃))) fun _ _ x => x)
  first
    | exact wpAny_pure (wpAny_bind fin)
    | exact wpAny_bind (wpAny_pure (wpAny_bind fin))
    | exact wpAny_bind fin
theorem dict_typeIs {X : Cx} {pins : List (Addr × Obj)} {σ : St} {H : Hp} {s : Shared} {a : Addr} {y : V} {o : Option V} (I : Inv X pins σ H s) (g : DGet H a y o) : s.TypeIs (.ref a) "dict" := by
  rcases g with ⟨kvs, k, e, _, _⟩ | ⟨kvs, k, b, e, _, _, _⟩
  · obtain ⟨_, _, vs, _, dd⟩ := dk_rd I.hok e
    exact dd.typeIs
  · obtain ⟨_, _, xs, _, dd⟩ := dt_rd I.hok e
    exact dd.typeIs
noncomputable def tDGet (td ty : TE) : TE := fun σ H Q => td σ H fun x H1 => ty σ H1 fun y H2 => ∃ a v, x = .ref a /\ DGet H2 a y (some v) /\ Q v H2
noncomputable def sDPut (td ty tv : TE) : TS := fun D σ H => tv σ H fun v H1 => td σ H1 fun x H2 => ty σ H2 fun y H3 => ∃ a H4, x = .ref a /\ DPut H3 a y v H4 /\ D.nx σ H4
section
variable {X : Cx} {o i e value : Expr} {pos pos' tpos : Pos} {td ty tv : TE}
theorem pe_dget (hu : X.A.units + 1 < cLine) (ho : PE X o td) (hi : PE X i ty) (hs : NoSl i) : PE X (.Subscript o i pos) (tDGet td ty) := by
  intro pins s σ H Q I h
  refine subD_of PySem.F.slot_dict_getitem.lookup hs (thn (ho pins s σ H _ I h) fun u s1 ⟨x, H1, I1, rx, q1⟩ => thn (hi pins s1 σ H1 _ I1 q1) fun iv s2 ⟨y, H2, I2, ry, a, v, ex, g, q2⟩ => ?_)
  subst ex
  obtain rfl : u = Value.ref a := rx
  exact ⟨dict_typeIs I2 g, d_getItem hu I2 g ry fun w' s3 I3 rw' => ⟨v, H2, I3, rw', q2⟩⟩
theorem ps_dput (hu : X.A.units + 1 < cLine) (ho : PE X o td) (hi : PE X i ty) (hv : PE X value tv) (hs : swapsWith value (some (.Subscript o i pos')) pos.line X.env = pure false) :
    PS X (.Assign [.Subscript o i pos'] value pos) (sDPut td ty tv) := by
  intro pins s σ H D I h
  refine wpAny_Assign_Subscript (thn (hv pins s σ H _ I h) fun r s1 ⟨v, H1, I1, rv, q1⟩ => thn (ho pins s1 σ H1 _ I1 q1) fun u s2 ⟨x, H2, I2, rx, q2⟩ => thn (hi pins s2 σ H2 _ I2 q2) fun iv s3 ⟨y, H3, I3, ry, a, H4, ex, g, q3⟩ => ?_) hs
  subst ex
  obtain rfl : u = Value.ref a := rx
  exact d_setItem hu I3 g ry rv fun s4 I4 => ⟨σ, H4, I4, q3⟩
end
theorem dk_empty {P : Program} {w : World} {H : Hp} (h : Heap) (hb : sysModules < h.objs.size) : ObjOk P w H (h.push { cls := .type "dict", data := .dict #[] }) h.objs.size (.dK []) :=
  ⟨Nat.zero_le _, beq_eq_false_iff_ne.mpr (Ne.symm (Nat.ne_of_lt hb)), [], .nil, Heap.DictOf.new h⟩
noncomputable def tDNewK : TE := fun _ H Q => ∀ p, H p = none -> Q (.ref p) (upd H p (.dK []))
section
variable {X : Cx} {pos : Pos}
theorem pe_dnewK : PE X (.Dict [] [] pos) tDNewK := fun pins s σ H Q I h =>
  wpAny_Dict_empty ⟨.ref s.heap.objs.size, _, I.laid (a := s.heap.objs.size) (o := .dK []) (t' := s.toks) (fun _ _ q => Heap.get?_push_of_some _ q) (Nat.le_refl _) (dk_empty s.heap I.big), rfl, h _ (I.hok.fresh (Nat.le_refl _))⟩
end
noncomputable def mergeK (kvs more : List (Key × V)) : List (Key × V) := more.foldl (fun acc kv => putK acc kv.1 kv.2) kvs
theorem KV.merge : ∀ {more : List (Key × V)} {rs : List (Key × Value)} {kvs : List (Key × V)} {vs : List (Key × Value)}, KV more rs -> KV kvs vs -> KV (mergeK kvs more) (merged vs rs) := by
  intro more rs kvs vs r
  unfold KV at r
  induction r generalizing kvs vs with
  | nil => intro q; exact q
  | @cons p q ps qs h t ih =>
    intro r0
    have e : KV (putK kvs p.1 p.2) (stored vs q.1 q.2) := by
      have := r0.put p.1 h.2
      rw [<- h.1]; exact this
    exact ih e
structure M1 (X : Cx) (o : Expr) (m : Str) (apos : Pos) (e : Expr) (cpos : Pos) : Prop where
  base : attributeBase o m X.env (eval o X.env) = eval o X.env
  few : ((backTo cpos (starEach [e] X.env)).all (fun x => !x.1) && (backToKw cpos (keywordEach [] X.env)).all (fun x => x.1.isSome)
    && decide (([e] : List Expr).length + ([] : List Keyword).length + (if ([] : List Keyword).isEmpty then 0 else 1) < 30)) = true
  line : (apos.endLine == cpos.line) = true
  trees : backTo cpos (starEach [e] X.env) = [(false, eval e X.env)]
structure M2 (X : Cx) (o : Expr) (m : Str) (apos : Pos) (e f : Expr) (cpos : Pos) : Prop where
  base : attributeBase o m X.env (eval o X.env) = eval o X.env
  few : ((backTo cpos (starEach [e, f] X.env)).all (fun x => !x.1) && (backToKw cpos (keywordEach [] X.env)).all (fun x => x.1.isSome)
    && decide (([e, f] : List Expr).length + ([] : List Keyword).length + (if ([] : List Keyword).isEmpty then 0 else 1) < 30)) = true
  line : (apos.endLine == cpos.line) = true
  trees : backTo cpos (starEach [e, f] X.env) = [(false, eval e X.env), (false, eval f X.env)]
noncomputable def IsD (H : Hp) (a : Addr) : Prop := (∃ kvs, Rd H a (.dK kvs)) \/ ∃ kvs, Rd H a (.dT kvs)
theorem isD_at {X : Cx} {pins : List (Addr × Obj)} {σ : St} {H : Hp} {s : Shared} {a : Addr} (I : Inv X pins σ H s) (d : IsD H a) :
    s.TypeIs (.ref a) "dict" /\ (∀ b, Value.ref a = .ref b -> ∃ ob, s.heap.get? b = some ob /\ ob.dict = none) /\ (a == sysModules) = false := by
  rcases d with ⟨kvs, e⟩ | ⟨kvs, e⟩
  · obtain ⟨_, hd, vs, _, dd⟩ := dk_rd I.hok e
    refine ⟨dd.typeIs, fun b q => ?_, hd⟩
    cases q
    obtain ⟨ob, _, _, h1, h2, _⟩ := dd
    exact ⟨ob, h1, h2.2.1⟩
  · obtain ⟨_, hd, xs, _, dd⟩ := dt_rd I.hok e
    refine ⟨dd.typeIs, fun b q => ?_, hd⟩
    cases q
    obtain ⟨ob, _, _, h1, h2, _⟩ := dd
    exact ⟨ob, h1, h2.2.1⟩
section
variable {X : Cx} {pins : List (Addr × Obj)} {σ : St} {H : Hp} {s : Shared} {a : Addr} {y d : V} {u r : Value} {o : Option V} {A : Around} {E : Value -> Shared -> Prop}
end
noncomputable def tDPop1 (td ty : TE) : TE := fun σ H Q => td σ H fun x H1 => ∃ a, x = .ref a /\ IsD H1 a /\ ty σ H1 fun y H2 => ∃ kvs k v, H2 a = some (.dK kvs) /\ y = kV k /\ valV kvs k = some v /\ Q v (upd H2 a (.dK (dropK kvs k)))
section
variable {X : Cx} {o e f : Expr} {apos cpos : Pos} {td ty tx : TE}
theorem pe_dpop1 (ho : PE X o td) (he : PE X e ty) (m : M1 X o "pop" apos e cpos) : PE X (.Call (.Attribute o "pop" apos) [e] [] cpos) (tDPop1 td ty) := by
  intro pins s σ H Q I h
  refine wpAny_Call_method m.base m.few m.line PySem.F.plainAttrs_dict PySem.F.slot_dict_pop PySem.F.type_dict_pop (thn (ho pins s σ H _ I h) fun u s1 ⟨x, H1, I1, rx, a, ex, d, q1⟩ => ?_)
  subst ex
  obtain rfl : u = Value.ref a := rx
  obtain ⟨t1, t2, _⟩ := isD_at I1 d
  refine ⟨t1, t2, ?_⟩
  rw [m.trees]
  refine Calls.callWith_builtin rfl (Calls.evalArgs_plain (Calls.spliced_cons (thn (he pins s1 σ H1 _ I1 q1) fun iv s2 ⟨y, H2, I2, ry, kvs, k, v, ea, ey, l, q2⟩ => Calls.spliced_nil ?_)))
  subst ey
  exact d_pop I2 ea ry l (.inl rfl) fun w' s3 I3 rw' => ⟨v, _, I3, rw', q2⟩
end
section
variable {X : Cx} {pins : List (Addr × Obj)} {σ : St} {H : Hp} {s : Shared} {a : Addr} {kvs : List (Key × V)} {A : Around} {E : Value -> Shared -> Prop}
end
section
variable {X : Cx} {pins : List (Addr × Obj)} {σ : St} {H : Hp} {s : Shared} {a : Addr} {y : V} {u : Value} {A : Around} {E : Value -> Shared -> Prop}
end
end L2
namespace Att
open PySem PySem.W PySem.Calls PyProof.Rows
theorem ints_of_wellAll {P : Params} {h : Heap} : ∀ (ns : List Int) (vs : List Value), WellAll P h vs (ns.map WData.int) -> IntsAre vs ns := by
  intro ns
  induction ns with
  | nil =>
    intro vs w
    rw [List.map_nil] at w
    cases w
    exact .nil
  | cons n ns ih =>
    intro vs w
    rw [List.map_cons] at w
    cases w with
    | cons a b =>
      cases a
      exact .cons _ _ (ih _ b)
theorem script_of {l : OpenLaw} {n : Nat} (hn : l.most = some n) {P : Params} {h : Heap} {args : List WData} {vals : List Value}
    (hpre : l.row.toRowW.claim.pre args = true) (hwl : WellAll P h vals args) :
    ∃ a vs ns, vals = [Value.ref a] /\ args = [WData.list (ns.map WData.int)] /\ h.get? a = some { cls := .type "list", data := .seq vs.toArray } /\ IntsAre vs ns /\ ns.length <= n := by
  have hsh : WShape.hasAll [] args [.list .int] = true := (pre_splitW hpre).1
  have hc : l.pre.holds [] { args := args } = true := (pre_splitW hpre).2
  obtain ⟨d, r, rfl, h1, h2⟩ := hasAllW_cons hsh
  obtain rfl := hasAllW_nil h2
  obtain ⟨xs, rfl, h3⟩ := hasW_list h1
  obtain ⟨ns, rfl⟩ := items_int h3
  have hlen : ns.length <= n := by
    unfold OpenLaw.pre at hc
    have h4 : (WTm.not (.lt (.lit (.int (n : Int))) (.len (.arg 0)))).holds [] { args := [.list (ns.map .int)] } = true := by
      have h4 := (holds_andW hc).1
      rw [hn] at h4
      exact h4
    have h5 := condW_of h4 (w_not (w_lt w_lit (w_len_list (w_arg rfl))))
    rw [List.length_map] at h5
    refine Nat.le_of_not_lt fun q => ?_
    have q' : (n : Int) < ((ns.length : Nat) : Int) := by omega
    first
      | (rw [decide_eq_true q'] at h5; exact absurd h5 (by decide))
      | (simp at h5; omega)
  cases hwl with
  | cons w1 w2 =>
    cases w2
    cases w1 with
    | list ho hall => exact ⟨_, _, ns, rfl, rfl, ho, ints_of_wellAll ns _ hall, hlen⟩
theorem post_true (l : OpenLaw) (args : List WData) : l.row.toRowW.claim.post args (.bool true) args = true :=
  postW_of (r := l.row.toRowW) (X := (true == true))
    (show WShape.has [] (.bool true) .bool = true by first | rfl | decide | simp [WShape.has, WShape.arms, WShape.armsAll])
    (show (WTm.eq .res (.lit (.bool true))).value [] { args := args, res := some (.bool true), after := args } = some (.bool (true == true)) from w_eq_bool (w_res rfl) w_lit) rfl
theorem attach_call {l : OpenLaw} {n : Nat} {q : Program} {loose : List Str} {XP : (Str -> Option Value) -> Heap -> Prop} {YP : World -> Heap -> Prop} {d : DefRec}
    (hn : l.most = some n) (hdf : d.params.defaults = [])
    (call : ∀ (w : World) (s₀ s₁ : Shared) (mg mb : Str -> Option Value) (fa : Addr) (o : Obj) (pm cd doc : Value) (a : Addr) (vs : List Value) (ns : List Int),
      Ground q loose [] XP w s₀ mg mb s₁.heap -> YP w s₁.heap ->
      s₁.heap.get? fa = some o -> o.data = .func (docDef d.name d.params d.body d.scope pm cd doc) -> s₁.heap.CodeRec cd d.name -> mg d.name = some (.ref fa) ->
      s₁.heap.get? a = some { cls := .type "list", data := .seq vs.toArray } -> IntsAre vs ns -> ns.length <= n -> s₁.gens = #[] ->
      codeAny (model l.prog w) callerA (.call (.ref fa) ⟨[.ref a], []⟩) (fun r s' => r = .ok (.ret (.bool true)) /\ OldK s₁.heap s'.heap /\ s'.os = s₁.os /\ AllBare s'.gens) s₁) :
    WalkO q loose XP YP l.row.toRowW d [] (fun f vs => PySem.call f vs) := by
  intro w s₀ s₁ mg mb G Y fa o pm cd doc dV kV ho hd hcd hD hmg hg args vals as hpre hlay hrd hwl hlo
  obtain rfl : dV = .none := Dflts.none hD hdf
  obtain rfl : kV = .none := Dflts.noKw hD
  obtain ⟨a, vs, ns, rfl, rfl, hobj, hints, hlen⟩ := script_of hn hpre hwl
  refine enter_call (codeAny_mono (call w s₀ s₁ mg mb fa o pm cd doc a vs ns G Y ho (fd_plain hd) hcd hmg hobj hints hlen hg) fun r s' hq => ?_)
  obtain ⟨rfl, h2, h3, h4⟩ := hq
  exact ⟨.inl ⟨.bool true, .bool true, [], rfl, fun _ => rfl, .bool true, post_true l _, fun _ => ⟨List.Pairwise.nil, fun _ hm => (nomatch hm)⟩⟩, h2, h3, h4⟩
section
variable {prog : Program} {w : World} {A : Around} {E : Value -> Shared -> Prop} {s : Shared} {K : Frag}
end
end Att
namespace L2
open PySem PySem.Spec PyProof.Rows
theorem vals_ints : ∀ {vs : List Value} {ns : List Int}, IntsAre vs ns -> Vals (ns.map V.int) vs
  | _, _, .nil => .nil
  | _, _, .cons n t h => .cons ⟨t, rfl⟩ (vals_ints h)
noncomputable def Only (H : Hp) : Prop := ∀ b, H b = none \/ ∃ o xs, H b = some (.frz o (.lst xs))
theorem law_call {P : Program} {w : World} {K : PySem.W.Frag} {mg mb : Str -> Option Value} {CX : CXT} {k : Nat} {fa a : Addr} {fd : FuncData} {x : Str} {sp : Sp} {s₁ : Shared} {vs : List Value} {ns : List Int}
    (KX : K.In s₁.heap) (hns : s₁.heap.Ns mainGlobals mg) (hb : s₁.heap.Ns builtinsNs mb) (hbb : ∀ x : Str, x ≠ "__name__" -> mb x = bootBuiltins x) (hlim : s₁.heap.NoLimit) (hg : s₁.gens = #[])
    (ha : s₁.heap.get? a = some { cls := .type "list", data := .seq vs.toArray }) (hi : IntsAre vs ns) (hl : ns.length <= sizeLine) (hr : Room k callerA)
    (F : ∀ base : Heap, K.In base -> base.Ns mainGlobals mg -> FnOk P w K mg base CX k fa fd [x] sp) (hbind : ∀ (s : Shared) (u : Value), BindsTo s fd ⟨[u], []⟩ [(x, u)])
    (hsp : ∀ H : Hp, Only H -> SqL K H a (ns.map V.int) -> sp [.ref a] H (fun v _ => v = .bl true) fun _ _ _ => False)
    (hCX : ∀ H e s', CX [] H s₁ (fun _ _ _ => False) e s' -> False) :
    codeAny (model P w) callerA (.call (.ref fa) ⟨[.ref a], []⟩) (fun r s' => r = .ok (.ret (.bool true)) /\ OldK s₁.heap s'.heap /\ s'.os = s₁.os /\ AllBare s'.gens) s₁ := by
  have rv := vals_ints hi
  have lenV := hi.length
  have core : ∀ H : Hp, Only H -> SqL K H a (ns.map V.int) -> HOk P w H s₁.heap -> (∀ b, H b ≠ none -> b = a) -> (H a ≠ none -> K.lookup a = none) ->
      codeAny (model P w) callerA (.call (.ref fa) ⟨[.ref a], []⟩) (fun r s' => r = .ok (.ret (.bool true)) /\ OldK s₁.heap s'.heap /\ s'.os = s₁.os /\ AllBare s'.gens) s₁ := by
    intro H hO hS hok hA hK
    have base_of : ∀ {b : Addr} {o : Obj}, s₁.heap.get? b = some o -> H b = none -> (hidT s₁.heap H).get? b = some o := fun e n => hidT_get e n
    have noA : ∀ {b : Addr} {o : Obj} {es : Array DictEntry} {ep : Nat}, s₁.heap.get? b = some o -> o.data = .dict es ep -> H b = none := fun {b o es ep} e d => by
      cases q : H b with
      | none => rfl
      | some u =>
        have e' : b = a := hA b (by rw [q]; simp)
        subst e'
        rw [ha] at e; cases e
        have d' : Data.seq vs.toArray _ = Data.dict es ep := d
        cases d'
    have nsK : ∀ {b : Addr} {m : Str -> Option Value}, s₁.heap.Ns b m -> (hidT s₁.heap H).Ns b m := fun {b m} ⟨o, es, ep, e, d, r⟩ => ⟨o, es, ep, base_of e (noA e d), d, r⟩
    have hKb : K.In (hidT s₁.heap H) := fun b o e => base_of (KX b o e) (by
      cases q : H b with
      | none => rfl
      | some u =>
        have e' : b = a := hA b (by rw [q]; simp)
        subst e'
        rw [hK (by rw [q]; simp)] at e; cases e)
    have hM : Mod K mg (hidT s₁.heap H) := ⟨hKb, nsK hns, ⟨mb, nsK hb, hbb⟩, let ⟨mc, h1, h2⟩ := hlim; ⟨mc, nsK h1, h2⟩⟩
    have e0 : Env0 P w K mg (hidT s₁.heap H) callerA [] s₁ H := ⟨rfl, hM, fun b o e => of_hidT e, Nat.le_of_eq (hidT_size _ _), trivial, fun b hb => absurd (show b ∈ ([] : List Addr) from hb) (by simp), hok, .of_eq hg⟩
    refine codeAny_mono ((F _ hKb (nsK hns)).run callerA [] s₁ H ⟨[.ref a], []⟩ [.ref a] [.ref a] _ _ hr e0 (hbind s₁ (.ref a)) (.cons rfl .nil) (hsp H hO hS)) fun r s' h => ?_
    cases r with
    | error e => exact (hCX H e s' h).elim
    | ok fl =>
      cases fl with
      | next => exact False.elim h
      | brk => exact False.elim h
      | cont => exact False.elim h
      | ret u =>
        obtain ⟨v, H', os, bare, un, hok', r', q⟩ := h
        have q' : v = .bl true := q
        subst q'
        obtain rfl : u = Value.bool true := r'
        refine ⟨rfl, OldK.of_keep fun b o e => ?_, os, bare⟩
        cases q : H b with
        | none => exact un.keep b o e q (by intro z; exact absurd (show b ∈ ([] : List Addr) from z) (by simp)) (by simp)
        | some u =>
          rcases hO b with z | ⟨ob, xs, z⟩
          · rw [q] at z; cases z
          · have z2 := un.frzs b ob _ z
            obtain ⟨e1, _⟩ := hok b _ z
            obtain ⟨e2, _⟩ := hok' b _ z2
            rw [e] at e1; cases e1
            exact e2
  cases hk : K.lookup a with
  | some o =>
    have e := KX a o hk
    rw [ha] at e
    cases e
    refine core (fun _ => none) (fun _ => .inl rfl) (.inr ⟨_, vs.toArray, _, hk, rfl, rfl, rfl, by rw [List.size_toArray, lenV]; exact hl, by simpa using rv⟩) (fun b u z => by have z' : (none : Option HO) = some u := z; cases z') (fun b z => absurd rfl z) fun z => absurd rfl z
  | none =>
    refine core (fun b => if b = a then some (.frz { cls := .type "list", data := .seq vs.toArray } (.lst (ns.map V.int))) else none) (fun b => ?_) (.inl (.inr ⟨{ cls := .type "list", data := .seq vs.toArray }, if_pos rfl⟩)) (fun b u z => ?_) (fun b z => ?_) fun _ => hk
    · by_cases hb : b = a
      · exact .inr ⟨_, _, if_pos hb⟩
      · exact .inl (if_neg hb)
    · by_cases hb : b = a
      · have z' := (if_pos hb).symm.trans z
        cases z'
        subst hb
        exact ⟨ha, by rw [List.length_map]; exact hl, vs, _, rv, ha⟩
      · have z' := (if_neg hb).symm.trans z
        cases z'
    · by_cases hb : b = a
      · exact hb
      · exact absurd (if_neg hb) z
end L2
namespace L2
open PySem PySem.Spec PyProof.Rows
theorem walk_of {l : PySem.W.OpenLaw} {n k : Nat} {q : Program} {loose : List Str} {XP : (Str -> Option Value) -> Heap -> Prop} {YP : World -> Heap -> Prop} {d : DefRec} {K : Params -> PySem.W.Frag} {CX : World -> CXT} {sp : World -> Sp} {x : Str}
    (hn : l.most = some n) (hn2 : n <= sizeLine) (hdf : d.params.defaults = []) (hr : Room k callerA)
    (hY : ∀ (w : World) (h : Heap), YP w h -> (K w.params).In h)
    (F : ∀ (w : World) (mg : Str -> Option Value) (fa : Addr) (h : Heap), (K w.params).In h -> h.Ns mainGlobals mg -> mg d.name = some (.ref fa) ->
      ∃ fd : FuncData, (∀ (s : Shared) (u : Value), BindsTo s fd ⟨[u], []⟩ [(x, u)]) /\
        ∀ base : Heap, (K w.params).In base -> base.Ns mainGlobals mg -> FnOk l.prog w (K w.params) mg base (CX w) k fa fd [x] (sp w))
    (hsp : ∀ (w : World) (H : Hp) (a : Addr) (ns : List Int), ns.length <= n -> Only H -> SqL (K w.params) H a (ns.map V.int) -> sp w [.ref a] H (fun v _ => v = .bl true) fun _ _ _ => False)
    (hCX : ∀ (w : World) (H : Hp) (s : Shared) (e : Value) (s' : Shared), CX w [] H s (fun _ _ _ => False) e s' -> False) :
    PySem.W.WalkO q loose XP YP l.row.toRowW d [] (fun f vs => PySem.call f vs) := by
  refine Att.attach_call hn hdf fun w s₀ s₁ mg mb fa o pm cd doc a vs ns G Y ho hd hcd hmg hobj hints hlen hg => ?_
  have KX := hY w _ Y
  obtain ⟨fd, hb, hF⟩ := F w mg fa _ KX G.T.g hmg
  exact law_call KX G.T.g G.T.b G.T.builtins G.T.nolimit hg hobj hints (Nat.le_trans hlen hn2) hr hF hb (fun H hO hS => hsp w H a ns hlen hO hS) fun H e s' => hCX w H s₁ e s'
end L2
namespace L2
open PySem PySem.Spec PyProof.Rows
noncomputable def defArgs (s : Stmt) : Arguments := match s with
  | .FunctionDef _ a _ _ _ _ _ _ _ _ => a
  | _ => { posonlyargs := [], args := [], vararg := none, kwonlyargs := [], kw_defaults := [], kwarg := none, defaults := [] }
noncomputable def defBody (s : Stmt) : List Stmt := match s with
  | .FunctionDef _ _ b _ _ _ _ _ _ _ => b
  | _ => []
noncomputable def defScope (s : Stmt) : Scope := match s with
  | .FunctionDef _ _ _ _ _ _ sc _ _ _ => sc
  | _ => { kind := .function, names := [], isGenerator := false, isCoroutine := false }
noncomputable abbrev CX0 : CXT := fun _ _ _ _ _ _ => False
structure Fun (K : PySem.W.Frag) (x qual : Str) (st : Stmt) (f : Addr) (fd : FuncData) : Prop where
  ex : ∃ (oc : Value) (od : Option Addr) (kV doc pm : Value) (an : Option Addr) (cdv ct : Value) (osl : Array (Option Value)),
    fd = PySem.W.fnOf x qual (defArgs st) (defBody st) (defScope st) .none kV doc pm an cdv ct /\ K.lookup f = some ⟨oc, od, .func fd, osl⟩ /\ PySem.W.codeIn K cdv qual = true
  kp : PySem.W.keepIn K (.ref f) = true
section
variable {P : Program} {w : World} {K : PySem.W.Frag} {mg : Str -> Option Value} {base : Heap}
theorem Fun.ok {x qual : Str} {st : Stmt} {f : Addr} {fd : FuncData} {N ps : List Str} {k : Nat} {sp : Sp} (F : Fun K x qual st f fd) (S : FnScope N ps (defScope st)) (len : ∀ vs H Q E, sp vs H Q E -> vs.length = ps.length)
    (hbody : ∀ (cdv : Value) (A : Around) (outer : List Env) (s : Shared) (H : Hp) (vs : List V) (Q : VK) (E : XK), Room k (A.deeper (envOfC qual (defScope st) s.heap.objs.size f cdv)) -> sp vs H Q E ->
      ∃ t, PSs (cxOf CX0 P w K mg base N qual (defScope st) f cdv A outer s H E).nox (defBody st) t /\ t { nx := fun _ H' => Q .non H', rt := Q } (start N vs) H) : FnOk P w K mg base CX0 (k + 1) f fd ps sp := by
  obtain ⟨oc, od, kV, doc, pm, an, cdv, ct, osl, rfl, lk, hcd⟩ := F.ex
  refine fn_of lk hcd S len fun A outer s H vs Q E hr hsp => ?_
  obtain ⟨t, h, q⟩ := hbody cdv A outer s H vs Q E hr hsp
  exact ⟨t, h.nox, q⟩
theorem Fun.binds {x qual : Str} {st : Stmt} {f : Addr} {fd : FuncData} {ps : List Str} (F : Fun K x qual st f fd)
    (h : ∀ (kV doc pm : Value) (an : Option Addr) (cdv ct : Value) (us : List Value), us.length = ps.length -> bindArgs (PySem.W.fnOf x qual (defArgs st) (defBody st) (defScope st) .none kV doc pm an cdv ct) ⟨us, []⟩ = pure (ps.zip us)) : Binds K fd ps [] := by
  obtain ⟨oc, od, kV, doc, pm, an, cdv, ct, osl, rfl, lk, hcd⟩ := F.ex
  exact .all (h kV doc pm an cdv ct)
theorem fun_mk {x qual : Str} {st : Stmt} {f : Addr} {oc : Value} {od an : Option Addr} {osl : Array (Option Value)} {kV doc pm cdv ct : Value} (l : K.lookup f = some ⟨oc, od, .func (PySem.W.fnOf x qual (defArgs st) (defBody st) (defScope st) .none kV doc pm an cdv ct), osl⟩)
    (c : PySem.W.codeIn K cdv qual = true) (k : PySem.W.keepIn K (.ref f) = true) : Fun K x qual st f (PySem.W.fnOf x qual (defArgs st) (defBody st) (defScope st) .none kV doc pm an cdv ct) := ⟨⟨oc, od, kV, doc, pm, an, cdv, ct, osl, rfl, l, c⟩, k⟩
end
section
variable {X : Cx}
theorem pv (i : Nat) {x : Str} {pos : Pos} (hN : autoParam (X.N[i]? = some x) L2.au3._auto_1) (hv : autoParam (Vis X.env.scope x) L2.au5._auto_1) (hd : autoParam ((x == ("__debug__" : Str)) = false) L2.au1._auto_1)
    (hcd : autoParam ((x == ("__classdict__" : Str)) = false) L2.au1._auto_1) : PE X (.Name x pos) (tVar i) := pe_var hN hv hd hcd
theorem call_lenD : CallR X (.builtin "len") (fun xs H Q => ∃ a kvs, xs = [V.ref a] /\ H a = some (.dK kvs) /\ Q (.int kvs.length) H) := by
  intro pins s σ H xs us Q I r h
  obtain ⟨a, kvs, rfl, ha, q⟩ := h
  obtain ⟨u, rfl, ru⟩ := vals1 r
  cases ru
  exact d_len I (.inl ha) fun t s' I' => ⟨.int kvs.length, H, I', ⟨t, rfl⟩, q⟩
end
noncomputable def Same (H H' : Hp) : Prop := ∀ b o, H b = some o -> H' b = some o
theorem Same.refl (H : Hp) : Same H H := fun _ _ h => h
theorem Same.trans {H H1 H2 : Hp} (a : Same H H1) (b : Same H1 H2) : Same H H2 := fun c o h => b c o (a c o h)
theorem Same.free {H H' : Hp} (e : Same H H') {l : Addr} (h : H' l = Option.none) : H l = Option.none := by
  cases q : H l with
  | none => rfl
  | some o =>
    rw [e l o q] at h
    cases h
theorem Same.seq {K : PySem.W.Frag} {H H' : Hp} {a : Addr} {xs : List V} (e : Same H H') (h : SqL K H a xs) : SqL K H' a xs := by
  rcases h with (h | ⟨o, h⟩) | h
  · exact .inl (.inl (e _ _ h))
  · exact .inl (.inr ⟨o, e _ _ h⟩)
  · exact .inr h
section
variable {κ : Type} [DecidableEq κ]
end
end L2
set_option maxRecDepth 100000
set_option maxHeartbeats 4000000
namespace L2
open PySem PySem.Spec PyProof.Rows
noncomputable def Flies (fr : List Env) (H : Hp) (old : Addr -> Prop) (e : Addr) (cls : Value) (h : Heap) : Prop :=
  ∃ (B : Heap) (a0 : Value), Heap.FlyingW B fr e cls a0 h /\ ∀ b o, h.get? b = some o -> b ∉ frs fr -> (H b ≠ none \/ old b) -> B.get? b = some o
noncomputable def cxx (P : Program) (w : World) : CXT := fun outer H s E ev s' => ∃ (e : Addr) (cls : Value) (H' : Hp), ev = .ref e /\ s'.os = s.os /\ AllBare s'.gens /\
  Un (frs outer) [] H H' s.heap s'.heap /\ HOk P w H' s'.heap /\ Flies outer H' (fun b => ∃ o, s.heap.get? b = some o) e cls s'.heap /\ E cls none H'
theorem ObjOk.there {P : Program} {w : World} {H : Hp} {h : Heap} {a : Addr} {o : HO} (x : ObjOk P w H h a o) : ∃ ob, h.get? a = some ob := by
  cases o with
  | lst xs => obtain ⟨_, _, _, _, e⟩ := x; exact ⟨_, e⟩
  | tup xs => obtain ⟨_, _, _, _, e, _⟩ := x; exact ⟨_, e⟩
  | dK kvs => obtain ⟨_, _, _, _, o, _, _, e, _⟩ := x; exact ⟨_, e⟩
  | dT kvs => obtain ⟨_, _, _, _, o, _, _, e, _⟩ := x; exact ⟨_, e⟩
  | set S n => obtain ⟨o, _, _, _, e, _⟩ := x; exact ⟨_, e⟩
  | ins C dx fs => obtain ⟨_, _, _, e, _⟩ := x; exact ⟨_, e⟩
  | own y => obtain ⟨_, e⟩ := x; exact ⟨_, e⟩
  | xd fs => obtain ⟨_, ⟨_, _, _, e, _⟩, _⟩ := x; exact ⟨_, e⟩
  | rng lo hi => obtain ⟨_, _, _, e⟩ := x; exact ⟨_, e⟩
  | frz ob u => obtain ⟨e, _⟩ := x; exact ⟨_, e⟩
  | tbl ps => exact ⟨_, (show h.get? a = some _ from x)⟩
  | met f y => exact ⟨_, (show h.get? a = some _ from x)⟩
  | ext φ => obtain ⟨_, ⟨_, e⟩, _⟩ := x; exact ⟨_, e⟩
section
variable {X : Cx} {pins : List (Addr × Obj)} {σ : St} {H : Hp} {s : Shared}
theorem Inv.trkNo (I : Inv X pins σ H s) {b : Addr} {u : HO} (q : H b = some u) : b ∉ frs X.stack := fun m => by
  have z := I.stkFree b m
  rw [q] at z; cases z
theorem Inv.oldNo (I : Inv X pins σ H s) (hst : X.stack = X.env :: X.outer) (hf : X.env.frame = some X.env.locals) {b : Addr} {o : Obj} (q : X.s₀.heap.get? b = some o) (n : b ∉ X.fs) : b ∉ frs X.stack := fun m => by
  rcases List.mem_cons.mp (I.stkSub b m) with z | z
  · exact absurd z (Nat.ne_of_lt (Nat.lt_of_lt_of_le (Heap.lt_size q) I.ok.above))
  · exact n z
theorem end_fly {h' B : Heap} {e : Addr} {cls a0 : Value} {E : XK} (I : Inv X pins σ H s) (hst : X.stack = X.env :: X.outer) (hf : X.env.frame = some X.env.locals) (hex : X.ex = [])
    (fl : Heap.FlyingW B X.outer e cls a0 h') (cov : ∀ b o, s.heap.get? b = some o -> b ∉ frs X.stack -> (H b ≠ none \/ ∃ o, X.s₀.heap.get? b = some o) -> B.get? b = some o)
    (up : s.heap.UpToSlots h') (hE : E cls none H) : cxx X.prog X.w X.outer X.H₀ X.s₀ E (.ref e) { s with heap := h' } := by
  have nex : ∀ b : Addr, b ∉ X.ex := fun b z => by rw [hex] at z; cases z
  have trkd : ∀ b u v, H b = some u -> s.heap.get? b = some v -> h'.get? b = some v := fun b u v q r => fl.1 b v (cov b v r (I.trkNo q) (.inl (by rw [q]; simp)))
  have oldd : ∀ b o v, X.s₀.heap.get? b = some o -> b ∉ X.fs -> s.heap.get? b = some v -> h'.get? b = some v := fun b o v q n r => fl.1 b v (cov b v r (I.oldNo hst hf q n) (.inr ⟨o, q⟩))
  have frms : ∀ b o, b ∈ X.fs -> s.heap.get? b = some o -> ∃ sl, h'.get? b = some { o with slots := sl } := fun b o hb q => by
    obtain ⟨_, o2, ho2, nf⟩ := I.funs.mem hb
    rw [q] at ho2; cases ho2
    exact up b o q nf
  refine ⟨e, cls, H, rfl, I.os, I.bare, ⟨fun b o q n hb hx => ?_, fun b o q n hb hx => ?_, fun b o q n hx => I.base.free b o q n (nex b), fun b o q hx => ?_, I.base.tups, I.base.frzs, I.base.tbls⟩, fun b u q => ?_, ⟨B, a0, fl, fun b o q n hor => ?_⟩, hE⟩
  · exact oldd b o o q hb (I.base.keep b o q n hb (nex b))
  · obtain ⟨sl, e1⟩ := I.base.slot b o q n hb (nex b)
    obtain ⟨sl', e2⟩ := frms b _ hb e1
    exact ⟨sl', e2⟩
  · obtain ⟨o1, e1⟩ := I.base.there b o q (nex b)
    by_cases hb : b ∈ X.fs
    · obtain ⟨sl, e2⟩ := frms b o1 hb e1
      exact ⟨_, e2⟩
    · exact ⟨o1, oldd b o o1 q hb e1⟩
  · refine (I.hok b u q).stay (fun c v hc r => ?_) (fun _ z => z) fun _ _ z => z
    rcases hc with z | z
    · exact trkd c u v (by rw [z]; exact q) r
    · exact trkd c _ v z r
  · have q : h'.get? b = some o := q
    rcases hor with hb | ⟨o0, e0⟩
    · obtain ⟨u, hu⟩ := Option.ne_none_iff_exists'.mp hb
      obtain ⟨o1, e1⟩ := (I.hok b u hu).there
      have := trkd b u o1 hu e1
      rw [q] at this; cases this
      exact cov b _ e1 (I.trkNo hu) (.inl hb)
    · obtain ⟨o1, e1⟩ := I.base.there b o0 e0 (nex b)
      have := oldd b o0 o1 e0 n e1
      rw [q] at this; cases this
      exact cov b _ e1 (I.oldNo hst hf e0 n) (.inr ⟨o0, e0⟩)
end
section
variable {P : Program} {w : World} {K : PySem.W.Frag} {mg : Str -> Option Value} {base : Heap} {N : List Str} {qual : Str} {scope : Scope} {f : Addr} {cd : Value} {A : Around} {outer : List Env} {s : Shared} {H : Hp} {E : XK}
theorem passes_cxx : Passes (cxx P w) (cxOf (cxx P w) P w K mg base N qual scope f cd A outer s H E) E := by
  intro pins σ H1 s1 ev s' I hq
  obtain ⟨e, cls, H', rfl, os, bare, un, hok, ⟨B, a0, fl, cov⟩, hE⟩ := hq
  have I' := I.call' (ch := []) os un hok bare (fun b z => nomatch z)
  have hfr : (A.deeper (envOfC qual scope s.heap.objs.size f cd)).frames = some (envOfC qual scope s.heap.objs.size f cd :: outer) := I.ok.frames
  refine wpAny_leaves_onW (L := s.heap.objs.size) hfr rfl fl fun h' fl' up => ?_
  exact end_fly (E := E) I' rfl rfl rfl fl' (fun b o e1 e2 e3 => cov b o e1 e2 (by
    rcases e3 with z | ⟨o0, z⟩
    · exact .inl z
    · exact .inr (I.base.there b o0 z (fun q => nomatch q)))) up hE
theorem cxx_no {outer : List Env} {H : Hp} {s : Shared} {e : Value} {s' : Shared} (h : cxx P w outer H s (fun _ _ _ => False) e s') : False := let ⟨_, _, _, _, _, _, _, _, _, z⟩ := h; z
end
structure ErrCls (K : PySem.W.Frag) (mg : Str -> Option Value) (x : Str) (C : Addr) (bm : List Value) (newId : String) : Prop where
  gl : mg x = some (.ref C)
  own : ∀ h : Heap, K.In h -> h.Ns mainGlobals mg -> OwnCls x C bm newId mg h
theorem topRead_any {mg mb : Str -> Option Value} {h : Heap} (g : h.Ns mainGlobals mg) (b : h.Ns builtinsNs mb) (bb : ∀ x : Str, x ≠ "__name__" -> mb x = bootBuiltins x) (nl : h.NoLimit) (p : Program) : ∃ loose, PySem.W.TopRead p loose mg mb h := by
  obtain ⟨o, es, ep, ho, hd, hk, hf⟩ := id g
  refine ⟨es.toList.filterMap fun e => match e.key with | .str y _ => some y | _ => none, g, b, nl, bb, fun x _ hx _ _ _ => ?_⟩
  rw [<- hf]
  unfold nsFind findBy
  rw [<- Array.find?_toList]
  cases q : es.toList.find? (fun e => e.key.isStr x) with
  | none => rfl
  | some en =>
    exfalso
    have hm := List.mem_of_find?_eq_some q
    have hp := List.find?_some q
    obtain ⟨y, t, hy⟩ := hk en (by simpa using hm)
    rw [hy] at hp
    have hxy : y = x := by simpa [Value.isStr] using hp
    exact hx (List.mem_filterMap.mpr ⟨en, hm, by rw [hy, hxy]⟩)
end L2
set_option maxRecDepth 100000
set_option maxHeartbeats 4000000
namespace L2
open PySem PySem.Spec PyProof.Rows
structure ErrC (K : PySem.W.Frag) (x : Str) (C : Addr) : Prop where
  ns : PySem.W.nsIn K mainGlobals x = some (some (.ref C))
  ex : PySem.W.excIn K C [.type "ValueError", .type "Exception", .type "BaseException", .type "object"] "ValueError.__new__" = true
theorem ErrC.mg {K : PySem.W.Frag} {x : Str} {C : Addr} {h : Heap} {mg : Str -> Option Value} (e : ErrC K x C) (X : K.In h) (G : h.Ns mainGlobals mg) : mg x = some (.ref C) := PySem.W.mg_of X G e.ns
section
variable {X : Cx} {pins : List (Addr × Obj)} {σ : St} {H : Hp} {s : Shared}
theorem Inv.ownCls {x : Str} {C : Addr} (I : Inv X pins σ H s) (e : ErrC X.K x C) : OwnCls x C [.type "ValueError", .type "Exception", .type "BaseException", .type "object"] "ValueError.__new__" X.mg X.base := by
  obtain ⟨mb, b1, b2⟩ := I.mod.blt
  obtain ⟨loose, T⟩ := topRead_any I.mod.glob b1 b2 I.mod.nolimit X.prog
  exact PySem.W.own_of_in I.mod.kin T e.ns e.ex
theorem made_fly {P : Program} {w : World} {K : PySem.W.Frag} {mg : Str -> Option Value} {base : Heap} {N : List Str} {qual : Str} {scope : Scope} {f : Addr} {cd : Value} {A : Around} {outer : List Env} {s : Shared} {H : Hp} {E : XK}
    {pins : List (Addr × Obj)} {σ : St} {H1 : Hp} {s1 : Shared} {h' : Heap} {e : Addr} {cls : Value} {vs : List Value} (I : Inv (cxOf (cxx P w) P w K mg base N qual scope f cd A outer s H E) pins σ H1 s1)
    (hx : Heap.MadeExcOf s1.heap h' e cls vs) (hE : E cls none H1) : (cxOf (cxx P w) P w K mg base N qual scope f cd A outer s H E).xe (.ref e) { s1 with heap := h' } := by
  have hfr : (A.deeper (envOfC qual scope s.heap.objs.size f cd)).frames = some (envOfC qual scope s.heap.objs.size f cd :: outer) := I.ok.frames
  have fs := I.stack
  have hin : ∀ env ∈ (envOfC qual scope s.heap.objs.size f cd :: outer), ∀ b, env.frame = some b -> b ∈ frs (envOfC qual scope s.heap.objs.size f cd :: outer) := fun env he b hb => List.mem_filterMap.mpr ⟨env, he, hb⟩
  refine wpAny_leaves_madeW (L := s.heap.objs.size) (base := PySem.W.hideAll s1.heap (frs (envOfC qual scope s.heap.objs.size f cd :: outer))) hfr rfl (fun b o q => PySem.W.of_hideAll _ q) (PySem.W.funFrames_hide fs hin) hx fun h2 t fl tup nt up => ?_
  refine end_fly (E := E) (h' := h2) I rfl rfl rfl fl (fun b o q n _ => PySem.W.hideAll_get _ q n) (fun b o q nf => ?_) hE
  exact up b o (hx.keeps b o q) nf
end
noncomputable def tRaise (C : Addr) (E : XK) (ta : TA) : TS := fun _ σ H => ta σ H fun vs H1 => vs.length <= sizeLine /\ E (.ref C) none H1
theorem ps_raise {P : Program} {w : World} {K : PySem.W.Frag} {mg : Str -> Option Value} {base : Heap} {N : List Str} {qual : Str} {scope : Scope} {f : Addr} {cd : Value} {A : Around} {outer : List Env} {s : Shared} {H : Hp} {E : XK}
    {x : Str} {C : Addr} {e₀ : Expr} {rest : List Expr} {ta : TA} {np cpos pos : Pos} (hh : A.handled = none) (hc : ErrC K x C) (hg : Gl (cxOf (cxx P w) P w K mg base N qual scope f cd A outer s H E) x)
    (ha : PA (cxOf (cxx P w) P w K mg base N qual scope f cd A outer s H E) (e₀ :: rest) ta) (hd : autoParam ((x == ("__debug__" : Str)) = false) L2.au1._auto_1)
    (he : autoParam (starEach (e₀ :: rest) (envOfC qual scope s.heap.objs.size f cd) = (false, eval e₀ (envOfC qual scope s.heap.objs.size f cd)) :: starEach rest (envOfC qual scope s.heap.objs.size f cd)) L2.au3._auto_1)
    (hp : autoParam ((backTo cpos (starEach rest (envOfC qual scope s.heap.objs.size f cd))).any (·.1) = false) L2.au3._auto_1) :
    PS (cxOf (cxx P w) P w K mg base N qual scope f cd A outer s H E) (.Raise (some (.Call (.Name x np) (e₀ :: rest) [] cpos)) none pos) (tRaise C E ta) := by
  intro pins s1 σ H1 D I h
  obtain ⟨bm, NN, nm, q, bs, hdct, sn, sub, ab, col, dd, k0, k1, k2, k3, k5, mN, hC, hN, hni, T⟩ := (I.ownCls hc).obj
  have F := PySem.F.excBase_ValueError
  refine wpAny_Raise_call_subT (C := C) (nm := nm) (q := q) (N := NN) (bs := bs) (bm := bm) (hdct := hdct) (sn := sn) (sub := sub) (ab := ab) (col := col) (dd := dd) (k0 := k0) (k1 := k1) (k2 := k2) (k3 := k3) (k5 := k5) F (mN := mN)
    (T.hasType F.hasBase) hh (by show (backTo cpos (starEach (e₀ :: rest) (envOfC qual scope s.heap.objs.size f cd))).any (·.1) = false; rw [he]; exact hp) hni (ld_glob I hg (hc.mg I.mod.kin I.mod.glob) ⟨rfl, ?_⟩ hd)
  have hw := ha cpos pins s1 σ H1 _ I h
  have hw : wpAny (model P w) (A.deeper (envOfC qual scope s.heap.objs.size f cd)) (spliced (backTo cpos (starEach (e₀ :: rest) (envOfC qual scope s.heap.objs.size f cd)))) _ _ s1 := hw
  show wpAny _ _ (evalArgs (.ref C) true (backTo cpos (starEach (e₀ :: rest) (envOfC qual scope s.heap.objs.size f cd))) []) _ _ s1
  rw [he] at hw ⊢
  refine Calls.evalArgs_plain (thn hw fun us s2 ⟨vs, H2, I2, r, z, hE⟩ => ?_)
  refine ⟨rfl, by rw [<- r.length]; exact z, I2.bk _ _ hC, hN.keeps I2.bk, T.keeps I2.bk, fun h' e hx => made_fly I2 hx hE⟩
noncomputable abbrev Cx.within (X : Cx) (e : Addr) (oe : Obj) : Cx := { X with A := X.A.mark (some (.ref e)), calm := false, pn := X.pn ++ [(e, oe)], xe := fun _ _ => False }
section
variable {X : Cx} {pins : List (Addr × Obj)} {σ : St} {H : Hp} {s : Shared} {e : Addr} {oe : Obj}
theorem Cx.Ok.within (ok : X.Ok) : (X.within e oe).Ok :=
  ⟨ok.mod, ok.kind, ok.glob, ok.blt, ok.above, ok.inj, ok.has, ok.cab, (fun z => by cases z), ok.frames, ok.stk, ok.exf, ok.bs, ok.bsz, ok.noex, ok.exfs, ok.funs, ok.frf⟩
theorem Cx.Ok.without (ok : (X.within e oe).Ok) (hd : X.calm = true -> X.A.handled = none) : X.Ok :=
  ⟨ok.mod, ok.kind, ok.glob, ok.blt, ok.above, ok.inj, ok.has, ok.cab, hd, ok.frames, ok.stk, ok.exf, ok.bs, ok.bsz, ok.noex, ok.exfs, ok.funs, ok.frf⟩
theorem Inv.within (I : Inv X pins σ H s) (h1 : s.heap.get? e = some oe) (h2 : H e = none) (h3 : e ≠ X.env.locals) (h4 : e ∉ X.fs) (h5 : ∀ v, oe.data ≠ .cell v) : Inv (X.within e oe) pins σ H s :=
  ⟨I.ok.within, I.os, I.bare, I.base, I.loc, I.cell, I.free, I.freeC, fun p hp => by
    rcases List.mem_append.mp hp with z | z
    · rcases List.mem_append.mp z with z | z
      · exact I.pin p (List.mem_append_left _ z)
      · obtain rfl := List.mem_singleton.mp z
        exact ⟨h1, h2, h3, h4, h5⟩
    · exact I.pin p (List.mem_append_right _ z), I.hok, I.len⟩
theorem Inv.without (I : Inv (X.within e oe) pins σ H s) (hd : X.calm = true -> X.A.handled = none) : Inv X pins σ H s :=
  ⟨I.ok.without hd, I.os, I.bare, I.base, I.loc, I.cell, I.free, I.freeC, fun p hp => by
    rcases List.mem_append.mp hp with z | z
    · exact I.pin p (List.mem_append_left _ (List.mem_append_left _ z))
    · exact I.pin p (List.mem_append_right _ z), I.hok, I.len⟩
theorem SP.without {D : Ends} {f : Flow} (h : SP (X.within e oe) pins D f s) (hd : X.calm = true -> X.A.handled = none) : SP X pins D f s := by
  cases f with
  | next => obtain ⟨σ', H', I, q⟩ := h; exact ⟨σ', H', I.without hd, q⟩
  | brk => obtain ⟨σ', H', I, q⟩ := h; exact ⟨σ', H', I.without hd, q⟩
  | cont => obtain ⟨σ', H', I, q⟩ := h; exact ⟨σ', H', I.without hd, q⟩
  | ret u => obtain ⟨v, σ', H', I, r, q⟩ := h; exact ⟨v, σ', H', I.without hd, r, q⟩
theorem Inv.reframe {h' : Heap} {t' : Nat} {m' : Str -> Option Value} {σ' : St} (I : Inv X pins σ H s) (hn' : h'.Ns X.env.locals m') (hs : Heap.SameBut X.env.locals s.heap h') (hl : σ'.length = σ.length)
    (hv : ∀ m, s.heap.Ns X.env.locals m -> (∀ (i : Nat) (x : Str) (v : V), X.N[i]? = some x -> σ[i]? = some (some v) -> Vis X.env.scope x -> ∃ u, RelV v u /\ Look X.env s.heap m x u) ->
      ∀ (i : Nat) (x : Str) (v : V), X.N[i]? = some x -> σ'[i]? = some (some v) -> Vis X.env.scope x -> ∃ u, RelV v u /\ Look X.env s.heap m' x u) : Inv X pins σ' H { s with heap := h', toks := t' } := by
  obtain ⟨m, hn, hr⟩ := id I.loc
  obtain ⟨oL, _, _, hoL, _⟩ := id hn
  have tracked : HOk X.prog X.w H h' := fun b ob q => by
    refine (I.hok b ob q).stay (fun c v hc r => (hs.2 c ?_).trans r) (fun _ z => z) fun _ _ z => z
    rintro rfl
    rcases hc with rfl | hc
    · rw [I.free] at q; cases q
    · rw [I.free] at hc; cases hc
  have below : ∀ b o, X.s₀.heap.get? b = some o -> b ≠ X.env.locals := fun b o q => Nat.ne_of_lt (Nat.lt_of_lt_of_le (Heap.lt_size q) I.ok.above)
  refine ⟨I.ok, I.os, I.bare, ⟨fun b o q n hb hx => (hs.2 b (below b o q)).trans (I.base.keep b o q n hb hx), fun b o q n hb hx => ?_, I.base.free, fun b o q hx => ?_, I.base.tups, I.base.frzs, I.base.tbls⟩, ⟨m', hn', fun i x v e1 e2 e3 => ?_⟩, fun y c q => ?_, I.free, I.freeC, fun p hp => ?_, tracked, hl.trans I.len⟩
  · obtain ⟨sl, e1⟩ := I.base.slot b o q n hb hx
    exact ⟨sl, (hs.2 b (below b o q)).trans e1⟩
  · obtain ⟨o', e1⟩ := I.base.there b o q hx
    exact ⟨o', (hs.2 b (below b o q)).trans e1⟩
  · obtain ⟨u, r, l⟩ := hv m hn hr i x v e1 e2 e3
    refine ⟨u, r, ?_⟩
    rcases l with l | ⟨k, c, e, z⟩
    · exact .inl l
    · exact .inr ⟨k, c, e, z.sameBut hs (I.cne x c e)⟩
  · obtain ⟨w', z⟩ := I.cell y c q
    exact ⟨w', z.sameBut hs (I.cne y c q)⟩
  · obtain ⟨q, n, ne, nf, d⟩ := I.pin p hp
    exact ⟨(hs.2 p.1 ne).trans q, n, ne, nf, d⟩
theorem name_out {M : Model} {A : Around} {E : Value -> Shared -> Prop} {i : Nat} {n : Str} {pos : Pos} {Q : Unit -> Shared -> Prop} (I : Inv X pins σ H s) (hN : X.N.Nodup) (hi : X.N[i]? = some n) (hx : X.env.scope.names.lookup n = some .local)
    (h : ∀ s', Inv X pins (σ.set i none) H s' -> Q () s') : wpAny M A (do bindName X.env n .none; unbindBehindTheSuite X.env n pos) Q E s := by
  have hcls : (X.env.scope.kind == .class || (X.env.scope.kind == .module && X.env.locals != X.env.globals)) = false := by rw [I.ok.kind]; rfl
  have hl : X.env.kindOf n = some .local := hx
  refine wpAny_bind (wpAny_bindName (store_ok I hN hi (.inl hx) (v := .non) (u := .none) rfl (fun s1 I1 => ?_) (.inr hx)))
  unfold unbindBehindTheSuite
  refine wpAny_onRaise ?_
  unfold unbindName
  refine wpAny_bind (wpAny_point (wpAny_bind ?_))
  unfold deleteName
  simp only [hl, hcls]
  rw [if_neg (by decide)]
  obtain ⟨m, hn, hl'⟩ := id I1.loc
  have hiσ : i < σ.length := by rw [I.len]; exact (List.getElem?_eq_some_iff.mp hi).1
  have hmn : (m n).isSome = true := by
    obtain ⟨u, r, l⟩ := hl' i n .non hi (by rw [List.getElem?_set_self hiσ]) (.inl hx)
    rcases l with ⟨_, z⟩ | ⟨k, _⟩
    · rw [z]; rfl
    · rcases k with k | k
      · rw [hl] at k; cases k
      · rw [hl] at k; cases k
  refine wpAny_bind (wpAny_nsDel_keeps hn fun h2 v hn2 hs2 => ?_)
  rw [hmn]
  simp only [if_true, Bool.not_true, Bool.false_eq_true, if_false]
  refine wpAny_pure (wpAny_point (h _ ?_))
  have I2 : Inv X pins (σ.set i none) H { s1 with heap := h2, toks := s1.toks } := I1.reframe hn2 hs2 (by simp) (fun m0 hn0 hv0 j y v e1 e2 e3 => by
    have em : m0 = m := by
      funext z
      obtain ⟨o1, es1, ep1, a1, b1, _, c1⟩ := hn0
      obtain ⟨o2, es2, ep2, a2, b2, _, c2⟩ := hn
      rw [a1] at a2; cases a2
      rw [b1] at b2; cases b2
      rw [<- c1, <- c2]
    subst em
    have hj : j ≠ i := by
      rintro rfl
      rw [List.getElem?_set_self hiσ] at e2; cases e2
    rw [List.getElem?_set_ne (Ne.symm hj)] at e2
    obtain ⟨u, r, l⟩ := hv0 j y v e1 (by rw [List.getElem?_set_ne (Ne.symm hj)]; exact e2) e3
    refine ⟨u, r, ?_⟩
    have hy : y ≠ n := fun z => hj (nodup_ix hN e1 (z ▸ hi))
    rcases l with ⟨k, z⟩ | l
    · exact .inl ⟨k, by show (if y = n then _ else m0 y) = some u; rw [if_neg hy]; exact z⟩
    · exact .inr l)
  exact I2
end
end L2
set_option maxRecDepth 100000
set_option maxHeartbeats 4000000
namespace L2
open PySem PySem.Spec PyProof.Rows
structure ErrI (K : PySem.W.Frag) (C : Addr) : Prop where
  ga : PySem.W.findIn K (.ref C) "__getattribute__" = some (some (.builtin "BaseException.__getattribute__"))
  gt : PySem.W.findIn K (.ref C) "__getattr__" = some none
  cl : PySem.W.findIn K (.ref C) "__class__" = some (some (.builtin "object.__class__"))
  sp : PySem.W.specialIn K (.builtin "object.__class__") "__get__" = some (some (.builtin "getset_descriptor.__get__"))
  tk : PySem.W.takesIn K (.builtin "object.__class__") = some true
  mo : PySem.W.mroIn K C (.type "object") = some true
  mb : PySem.W.mroIn K C (.type "BaseException") = some true
  it : (PySem.W.clsIn K C).isSome = true
section
open PySem.W Builtin Builtin.ObjectAttr Builtin.Getset_descriptor
variable {prog : Program} {w : World} {A : Around} {E : Value -> Shared -> Prop} {s : Shared} {K : Frag} {e C : Addr}
theorem exc_class {Q : Option Value -> Shared -> Prop} (c : ErrI K C) (X : K.In s.heap) (LT : Looks (model prog w) s.heap (typeOf (.ref e)) (.ref C)) (h : Q (some (.ref C)) { s with toks := s.toks + 1 }) : wpAny (model prog w) A (getAttr? (.ref e) "__class__") Q E s := by
  obtain ⟨hh, g, d, t, os⟩ := s
  have L1 := looks_findIn (M := model prog w) X c.ga
  have L2' := looks_findIn (M := model prog w) X c.gt
  have L3 := looks_findIn (M := model prog w) X c.cl
  have L4 := looks_specialIn (M := model prog w) X c.sp
  have L5 := looks_takesIn (M := model prog w) X c.tk
  have L6 := looks_mroIn (M := model prog w) X c.mo
  have L7 := looks_mroIn (M := model prog w) X c.mb
  have hb := PySem.F.attr_ValueError.ga.bind (.ref e)
  unfold getAttr? getAttrBy? getAttrBy
  refine wpAny_bind (wpAny_mkText (wpAny_bind (wpAny_attempt (wpAny_holding ?_))))
  repeat (first | with_reducible refine wpAny_attempt ?_ | with_reducible refine wpAny_call ?_ | lk)
  refine codeAny_call_builtin PySem.F.attr_ValueError.ga.plain F.entry_bexc_ga ?_
  have hk : builtinKind "BaseException.__getattribute__" = some .slot := by decide +kernel
  have hsp : splitId "BaseException.__getattribute__" = some ("BaseException", "__getattribute__") := by decide +kernel
  have har := F.args_bexc_ga (.ref e) (.str "__class__" t)
  simp only [checkBuiltinCall, hk, hsp]
  unfold isInstance
  repeat (first | with_reducible refine wpAny_attempt ?_ | with_reducible refine wpAny_call ?_ | lk)
  have z : codeAny (model prog w) A.in1 (.call (.builtin "getset_descriptor.__get__") ⟨[.builtin "object.__class__", .ref e, .ref C], []⟩) (fun r s' => r = .ok (.ret (.ref C)) /\ s' = ⟨hh, g, d, t + 1, os⟩) ⟨hh, g, d, t + 1, os⟩ := by
    refine codeAny_call_builtin KF.slot_gs.plain KF.entry_gs ?_
    refine KF.slot_gs.check _ _ _ _ _ _ _ _ KF.type_class (KF.args_gs _ _ _) ?_
    unfold Builtin.«getset_descriptor.__get__»
    unfold descrGet
    rw [dga_obj]
    refine wpAny_bind (wpAny_pure ?_)
    unfold descrGetter descrCheckInstance
    unfold descrNameAndClass isInstance
    simp only [KF.owner_class]
    repeat lk
    refine ⟨Code.quiet_builtin _ (by decide +kernel), ?_⟩
    refine codeAny_builtin KF.entry_class ?_
    unfold Builtin.«object.__class__»
    unfold shownTypeOf
    repeat lk
    exact ⟨rfl, rfl⟩
  refine codeAny_mono z fun r s' q => ?_
  obtain ⟨rfl, rfl⟩ := q
  repeat lk
  exact h
end
end L2
set_option maxRecDepth 100000
set_option maxHeartbeats 4000000
namespace L2
open PySem PySem.Spec PyProof.Rows
section
open PySem.W
variable {K : Frag} {e C : Addr}
theorem errI_isType (c : ErrI K C) {M : Model} {h : Heap} (X : K.In h) : Looks M h (isType (.ref C)) true := by
  have z := c.it
  unfold clsIn at z
  split at z
  · rename_i a b cd sl ho
    intro A' Q' E' s' k q
    unfold isType
    unfold loadHead
    refine wpAny_bind (wpAny_loadPart (k _ _ (X _ _ ho)) ?_)
    exact wpAny_pure q
  · cases z
theorem kitx_exc (c : ErrI K C) : KitX K (.ref e) (.ref C) (fun h => ∃ o, h.get? e = some o /\ o.cls = .ref C) where
  ty := fun M h _ p => by
    obtain ⟨o, h1, h2⟩ := p
    exact h2 ▸ (Looks.ld h1).andThen .now
  it := fun _ _ X _ => errI_isType c X
  ne := fun h tp dd its n sl X htp => by
    refine Bool.eq_false_iff.mpr fun q => ?_
    have ee : C = tp := Value.ref.inj (beq_iff_eq.mp q)
    subst ee
    have z := c.it
    unfold clsIn at z
    split at z
    · rename_i a b cd sl' ho
      rw [X _ _ ho] at htp
      cases htp
    · cases z
  ca := fun {prog w A E Q s} X p k => by
    obtain ⟨o, h1, h2⟩ := p
    exact exc_class c X (h2 ▸ (Looks.ld h1).andThen .now) k
end
inductive IsTy (K : PySem.W.Frag) (pn : List (Addr × Obj)) (H : Hp) : V -> Value -> Prop where
  | of {x : V} {t : Value} (h : TyOf K H x t) : IsTy K pn H x t
  | frd {a : Addr} {o : Obj} {kvs : List (Key × V)} (e : H a = some (.frz o (.dK kvs))) : IsTy K pn H (.ref a) (.type "dict")
  | exc {a C : Addr} {oe : Obj} (hm : (a, oe) ∈ pn) (hc : oe.cls = .ref C) (c : ErrI K C) : IsTy K pn H (.ref a) (.ref C)
inductive ClV : V -> Value -> Prop where
  | ref (a : Addr) : ClV (.ref a) (.ref a)
  | ty (n : String) : ClV (.ty n) (.type n)
noncomputable def rIsi (K : PySem.W.Frag) (pn : List (Addr × Obj)) : List V -> Hp -> VK -> Prop := fun xs H Q => ∃ x c t u b, xs = [x, c] /\ IsTy K pn H x t /\ ClV c u /\ PySem.W.kitOne K t u = some b /\ Q (.bl b) H
theorem call_isi {X : Cx} : CallR X (.builtin "isinstance") (rIsi X.K X.pn) := by
  intro pins s σ H xs us Q I r h
  obtain ⟨x, c, t, u, b, rfl, ht, hc, hk, q⟩ := h
  obtain ⟨u1, u2, rfl, rx, rc⟩ := vals2 r
  have e2 : u2 = u := by cases hc with
    | ref a => exact rc
    | ty n => exact rc
  subst e2
  cases ht with
  | of ht => exact isinst_ok I rx ht hk fun tk => ⟨.bl b, H, I.tok tk, rfl, q⟩
  | @frd a o kvs e =>
    obtain rfl : u1 = Value.ref a := rx
    obtain ⟨_, _, _, vs, _, p⟩ := (show ObjOk X.prog X.w H s.heap a (.frz o (.dK kvs)) from I.hok a _ e)
    obtain ⟨o', es, ep, h1, h2, _⟩ := p
    exact PySem.W.kia_one PySem.W.kitx_dict I.kIn ⟨o', h1, h2.1⟩ hk (fun z => by cases z) fun tk => ⟨.bl b, H, I.tok tk, rfl, q⟩
  | exc hm hcl ci =>
    obtain ⟨e1, _⟩ := I.pin _ (List.mem_append_left _ hm)
    obtain rfl : u1 = Value.ref _ := rx
    exact PySem.W.kia_one (kitx_exc ci) I.kIn ⟨_, e1, hcl⟩ hk (fun z => by cases z) fun tk => ⟨.bl b, H, I.tok tk, rfl, q⟩
end L2
set_option maxRecDepth 100000
set_option maxHeartbeats 4000000
namespace L2
open PySem PySem.Spec PyProof.Rows
section
variable {X : Cx} {pins : List (Addr × Obj)} {σ : St} {H : Hp} {s : Shared}
theorem Inv.flown {h' B : Heap} {old : Addr -> Prop} (I : Inv X pins σ H s) (hst : X.stack = X.env :: X.outer) (hf : X.env.frame = some X.env.locals) (st : B.StaysIn h') (up : s.heap.UpToSlots h')
    (cov : ∀ b o, s.heap.get? b = some o -> b ∉ frs X.stack -> (H b ≠ none \/ old b) -> B.get? b = some o) (o1 : ∀ b o, X.s₀.heap.get? b = some o -> b ∉ X.ex -> old b) (o3 : ∀ p ∈ X.pn ++ pins, old p.1) :
    Inv X pins σ H { s with heap := h' } := by
  have trkd : ∀ b u v, H b = some u -> s.heap.get? b = some v -> h'.get? b = some v := fun b u v q r => st b v (cov b v r (I.trkNo q) (.inl (by rw [q]; simp)))
  have oldd : ∀ b o v, X.s₀.heap.get? b = some o -> b ∉ X.fs -> b ∉ X.ex -> s.heap.get? b = some v -> h'.get? b = some v := fun b o v q n x r => st b v (cov b v r (I.oldNo hst hf q n) (.inr (o1 b o q x)))
  have frms : ∀ b o, b ∈ X.fs -> s.heap.get? b = some o -> ∃ sl, h'.get? b = some { o with slots := sl } := fun b o hb q => by
    obtain ⟨_, o2, ho2, nf⟩ := I.funs.mem hb
    rw [q] at ho2; cases ho2
    exact up b o q nf
  have cellK : ∀ c v, s.heap.IsCell c v -> h'.IsCell c v := fun c v ⟨o, ho, hd⟩ => by
    obtain ⟨sl, e⟩ := up c o ho (fun vs q => by rw [hd] at q; cases q)
    exact ⟨_, e, hd⟩
  refine ⟨I.ok, I.os, I.bare, ⟨fun b o q n hb hx => oldd b o o q hb hx (I.base.keep b o q n hb hx), fun b o q n hb hx => ?_, I.base.free, fun b o q hx => ?_, I.base.tups, I.base.frzs, I.base.tbls⟩, ?_, fun y c q => ?_, I.free, I.freeC, fun p hp => ?_, fun b u q => ?_, I.len⟩
  · obtain ⟨sl, e1⟩ := I.base.slot b o q n hb hx
    obtain ⟨sl', e2⟩ := frms b _ hb e1
    exact ⟨sl', e2⟩
  · obtain ⟨o1', e1⟩ := I.base.there b o q hx
    by_cases hb : b ∈ X.fs
    · obtain ⟨sl, e2⟩ := frms b o1' hb e1
      exact ⟨_, e2⟩
    · exact ⟨o1', oldd b o o1' q hb hx e1⟩
  · obtain ⟨m, hn, hl⟩ := I.loc
    refine ⟨m, up.ns hn, fun i x v e1 e2 e3 => ?_⟩
    obtain ⟨u, r, l⟩ := hl i x v e1 e2 e3
    refine ⟨u, r, ?_⟩
    rcases l with l | ⟨k, c, e, z⟩
    · exact .inl l
    · exact .inr ⟨k, c, e, cellK c _ z⟩
  · obtain ⟨v, z⟩ := I.cell y c q
    exact ⟨v, cellK c v z⟩
  · obtain ⟨q, n, ne, nf, d⟩ := I.pin p hp
    have hns : p.1 ∉ frs X.stack := fun m => by
      rcases List.mem_cons.mp (I.stkSub p.1 m) with z | z
      · exact ne z
      · exact nf z
    exact ⟨st _ _ (cov _ _ q hns (.inr (o3 p hp))), n, ne, nf, d⟩
  · refine (I.hok b u q).stay (fun c v hc r => ?_) (fun _ z => z) fun _ _ z => z
    rcases hc with z | z
    · exact trkd c u v (by rw [z]; exact q) r
    · exact trkd c _ v z r
end
noncomputable def tTry (K : PySem.W.Frag) (CS : Addr) (i : Nat) (sp : Sp) (dvs : List V) (t : TA) (ts : Addr -> Obj -> TS) : TS := fun D σ H => t σ H fun vs H1 => sp (vs ++ dvs) H1 (fun _ H2 => D.nx σ H2)
  (fun cls _ H2 => ∃ C, cls = .ref C /\ PySem.W.exmOne K (.ref C) (.ref CS) = some true /\ ∀ (e : Addr) (oe : Obj), oe.cls = .ref C -> H2 e = none ->
    ts e oe { nx := fun σ' H' => D.nx (σ'.set i none) H', rt := D.rt, bk := fun σ' H' => D.bk (σ'.set i none) H', ct := fun σ' H' => D.ct (σ'.set i none) H' } (σ.set i (some (.ref e))) H2)
theorem ps_try {X : Cx} {k : Nat} {f CS : Addr} {fd : FuncData} {ps : List Str} {sp : Sp} {dvs : List V} {ds : List Value} {x xc n : Str} {p pos pos' pc hpos tpos : Pos} {e : Expr} {es : List Expr} {t : TA} {i : Nat} {b₀ : Stmt} {suite : List Stmt} {ts : Addr -> Obj -> TS}
    (hst : X.stack = X.env :: X.outer) (hf : X.env.frame = some X.env.locals) (hc : X.calm = true) (hN : X.N.Nodup)
    (F : FnOk X.prog X.w X.K X.mg X.base (cxx X.prog X.w) k f fd ps sp) (hr : Room k X.A) (hg : Gl X x) (hm : X.mg x = some (.ref f)) (hk : PySem.W.keepIn X.K (.ref f) = true) (hb : Binds X.K fd ps ds) (hd : Vals dvs ds)
    (ha : PA X.nox (e :: es) t) (hgc : Gl X xc) (hmc : X.mg xc = some (.ref CS)) (hi : X.N[i]? = some n) (hx : X.env.scope.names.lookup n = some .local)
    (hsuite : ∀ (e : Addr) (oe : Obj), PSs (X.within e oe) (b₀ :: suite) (ts e oe))
    (hdb : autoParam ((x == ("__debug__" : Str)) = false) L2.au1._auto_1) (hdc : autoParam ((xc == ("__debug__" : Str)) = false) L2.au1._auto_1)
    (he : autoParam (starEach (e :: es) X.env = (false, eval e X.env) :: starEach es X.env) L2.au3._auto_1) (hpl : autoParam ((backTo pos (starEach es X.env)).any (·.1) = false) L2.au3._auto_1)
    (hsw : autoParam (swapsWith (.Call (.Name x p) (e :: es) [] pos) none pos'.line X.env = pure false) L2.au3._auto_1) :
    PS X (.Try [.Expr (.Call (.Name x p) (e :: es) [] pos) pos'] [.ExceptHandler (some (.Name xc pc)) (some n) (b₀ :: suite) hpos] [] [] tpos) (tTry X.K CS i sp dvs t ts) := by
  intro pins s σ H D I h
  have hhd : X.calm = true -> X.A.handled = none := I.ok.hd
  refine wpAny_Try_except (wpAny_execs_cons (wpAny_Expr_any ?_ I.quiet hsw))
  refine wpAny_Call_Name_kw (ld_glob I hg hm ?_ hdb)
  refine PySem.W.callWith_K (h₀ := X.base) I.ok.mod.kin hk ?_ he hpl
  refine wpAny_mono (ha pos pins s σ H _ (I.wish _) h) (fun us s1 ⟨vs, H1, I1, r, q⟩ => ⟨I1.kIn, ?_⟩) fun _ _ z => z.elim
  have I1 : Inv X pins σ H1 s1 := I1.unwish
  have r2 : Vals (vs ++ dvs) (us ++ ds) := r.append hd
  have hl : (us ++ ds).length = ps.length := by rw [<- r2.length]; exact F.len _ _ _ _ q
  refine wpAny_call (codeAny_mono (F.run X.A X.stack s1 H1 ⟨us, []⟩ (us ++ ds) (vs ++ dvs) _ _ hr I1.env0 (hb s1 us I1.kIn hl) r2 q) fun r s' hq => ?_)
  cases r with
  | ok fl =>
    cases fl with
    | ret u =>
      obtain ⟨v, H2, I2, rv, qn⟩ := I1.after hq
      exact wpAny_execs_nil (wpAny_execs_nil ⟨σ, H2, I2, qn⟩)
    | next => exact False.elim hq
    | brk => exact False.elim hq
    | cont => exact False.elim hq
  | error ev =>
    obtain ⟨e1, cls, H2, rfl, os, bare, un, hok, ⟨B, a0, fl, cov⟩, C, rfl, hex, hsu⟩ := hq
    have I2 : Inv X pins σ H2 s' := I1.call' (ch := []) os un hok bare (fun b z => nomatch z)
    have fl' : Heap.FlyingW B (X.env :: X.outer) e1 (.ref C) a0 s'.heap := by rw [<- hst]; exact fl
    have hfr : X.A.frames = some (X.env :: X.outer) := by rw [<- hst]; exact I.ok.frames
    have o1 : ∀ b o, X.s₀.heap.get? b = some o -> b ∉ X.ex -> ∃ o, s1.heap.get? b = some o := fun b o q x => I1.base.there b o q x
    have o3 : ∀ p ∈ X.pn ++ pins, ∃ o, s1.heap.get? p.1 = some o := fun p hp => ⟨_, (I1.pin p hp).1⟩
    have flown : ∀ h' : Heap, B.StaysIn h' -> s'.heap.UpToSlots h' -> Inv X pins σ H2 { s' with heap := h' } := fun h' st up => I2.flown hst hf st up cov o1 o3
    have he2 : H2 e1 = none := by
      cases q : H2 e1 with
      | none => rfl
      | some u =>
        obtain ⟨o, ho⟩ := (I2.hok e1 u q).there
        have := cov e1 o ho (I2.trkNo q) (.inl (by rw [q]; simp))
        rw [fl.2.1] at this; cases this
    have apart : ∀ (h' : Heap), Heap.FlyingW B (X.env :: X.outer) e1 (.ref C) a0 h' -> ∃ oe, h'.get? e1 = some oe /\ oe.cls = .ref C /\ (∃ vs, oe.data = .fields vs) /\ e1 ≠ X.env.locals /\ e1 ∉ X.fs := fun h' z => by
      obtain ⟨oe, vs, q1, q2, q3, _⟩ := z.first
      have nfr : e1 ∉ frs (X.env :: X.outer) := fun m => by
        obtain ⟨_, o, ho, nf⟩ := z.2.2.1.mem m
        rw [q1] at ho; cases ho
        exact nf vs q3
      refine ⟨oe, q1, q2, ⟨vs, q3⟩, fun q => nfr ?_, fun m => nfr ?_⟩
      · rw [q]
        unfold frs
        rw [List.filterMap_cons, hf]
        exact List.mem_cons_self
      · unfold frs
        rw [List.filterMap_cons, hf]
        exact List.mem_cons_of_mem _ m
    refine wpAny_looks_onW hfr hf fl' fun h4 hd4 up4 => ?_
    refine wpAny_landsW hd4 fun h5 fl5 up5 => ?_
    have up5' : s'.heap.UpToSlots h5 := up4.trans up5
    have I5 := flown h5 fl5.1 up5'
    obtain ⟨oe5, g1, g2, ⟨vs5, g3⟩, g4, g5⟩ := apart h5 fl5
    have I5w : Inv (X.within e1 oe5) pins σ H2 { s' with heap := h5 } := I5.within g1 he2 g4 g5 (fun v q => by rw [g3] at q; cases q)
    refine wpAny_handleBy_cons (codeAny_handlers_test (ld_glob (X := X.within e1 oe5) I5w hgc hmc ?_ hdc)) (by intro q; cases q)
    have LT : PySem.W.Looks (model X.prog X.w) h5 (typeOf (.ref e1)) (.ref C) := g2 ▸ (PySem.W.Looks.ld g1).andThen .now
    refine (PySem.W.exm_one I5.kIn LT hex).here ?_
    refine codeAny_handlers_suite_as ?_
    refine lands_againW fl5 fun h6 fl6 up6 => ?_
    have I6 := flown h6 fl6.1 (up5'.trans up6)
    obtain ⟨oe6, k1, k2, ⟨vs6, k3⟩, k4, k5⟩ := apart h6 fl6
    refine store_ok2 I6 hN hi (.inl hx) (v := .ref e1) (u := .ref e1) rfl (fun s7 I7 sb => ?_) (.inr hx)
    obtain ⟨a7, sb7, ha7⟩ := sb
    have ne7 : e1 ≠ a7 := by
      rcases ha7 with z | z
      · rw [z]; exact k4
      · intro q
        obtain ⟨v, o, ho, hdd⟩ := I6.cell n a7 z
        rw [<- q] at ho
        have ho : h6.get? e1 = some o := ho
        rw [k1] at ho; cases ho
        rw [k3] at hdd; cases hdd
    have e7 : s7.heap.get? e1 = some oe6 := (sb7.2 e1 ne7).trans k1
    have I7w : Inv (X.within e1 oe6) pins (σ.set i (some (.ref e1))) H2 s7 := I7.within e7 he2 k4 k5 (fun v q => by rw [k3] at q; cases q)
    refine wpAny_mono (hsuite e1 oe6 pins s7 _ H2 _ I7w (hsu e1 oe6 k2 he2)) (fun fl8 s8 q8 => ?_) fun _ _ z => z.elim
    have q8 := SP.without q8 hhd
    cases fl8 with
    | next =>
      obtain ⟨σ8, H8, I8, q⟩ := q8
      exact name_out I8 hN hi hx fun s9 I9 => ⟨_, H8, I9, q⟩
    | brk =>
      obtain ⟨σ8, H8, I8, q⟩ := q8
      exact name_out I8 hN hi hx fun s9 I9 => ⟨_, H8, I9, q⟩
    | cont =>
      obtain ⟨σ8, H8, I8, q⟩ := q8
      exact name_out I8 hN hi hx fun s9 I9 => ⟨_, H8, I9, q⟩
    | ret u =>
      obtain ⟨v8, σ8, H8, I8, r8, q⟩ := q8
      exact name_out I8 hN hi hx fun s9 I9 => ⟨v8, _, H8, I9, r8, q⟩
end L2
set_option maxRecDepth 100000
set_option maxHeartbeats 4000000
namespace L2
open PySem PySem.Spec PyProof.Rows
noncomputable def closL (cells : List (Str × Addr)) : List (Str × NameKind) -> List (Str × Addr) -> List (Str × Addr)
  | [], acc => acc
  | (n, k) :: r, acc => closL cells r (if (k == .free) = true then (n, (cells.lookup n).getD 0) :: acc else acc)
theorem closureFor_of {scope : Scope} {env : Env} (h : ∀ y ∈ scope.names, y.2 = .free -> ∃ c, env.cells.lookup y.1 = some c) : closureFor scope env = pure (closL env.cells scope.names []) := by
  have go : ∀ (l : List (Str × NameKind)) (acc : List (Str × Addr)), (∀ y ∈ l, y.2 = .free -> ∃ c, env.cells.lookup y.1 = some c) ->
      (forIn l acc fun (x : Str × NameKind) (r : List (Str × Addr)) => (if (x.2 == .free) = true then (do let a <- cellOf env x.1; pure (ForInStep.yield ((x.1, a) :: r))) else pure (ForInStep.yield r) : Sem (ForInStep (List (Str × Addr))))) = pure (closL env.cells l acc) := by
    intro l
    induction l with
    | nil => intro acc _; rfl
    | cons x r ih =>
      intro acc hx
      obtain ⟨n, k⟩ := x
      rw [List.forIn_cons]
      have hr := fun acc => ih acc fun y hy => hx y (List.mem_cons_of_mem _ hy)
      by_cases hk : (k == NameKind.free) = true
      · obtain ⟨c, hc⟩ := hx (n, k) List.mem_cons_self (by simpa using hk)
        have hc' : env.cells.lookup n = some c := hc
        have e1 : cellOf env n = pure c := by unfold cellOf; rw [hc']
        simp only [hk, if_true, e1, pure_bind]
        unfold closL
        rw [if_pos hk, hc']
        exact hr _
      · simp only [hk, Bool.false_eq_true, if_false, pure_bind]
        unfold closL
        rw [if_neg hk]
        exact hr _
  unfold closureFor
  have e := go scope.names [] h
  simp only [bind_pure_comp, map_pure] at e ⊢
  first | exact e | (simp only [e, bind_pure]; done) | (rw [show (forIn scope.names ([] : List (Str × Addr)) _) = _ from e]; rfl)
theorem closL_lookup {cells : List (Str × Addr)} {x : Str} {c : Addr} : ∀ {names : List (Str × NameKind)} {acc : List (Str × Addr)}, (closL cells names acc).lookup x = some c -> acc.lookup x = some c \/ ((x, NameKind.free) ∈ names /\ c = (cells.lookup x).getD 0)
  | [], acc, h => .inl h
  | (n, k) :: r, acc, h => by
    unfold closL at h
    rcases closL_lookup h with z | ⟨z, e⟩
    · by_cases hk : (k == NameKind.free) = true
      · rw [if_pos hk] at z
        by_cases hx : (x == n) = true
        · rw [List.lookup_cons, hx] at z
          have e1 : x = n := by simpa using hx
          have e2 : k = NameKind.free := by simpa using hk
          subst e1 e2
          exact .inr ⟨List.mem_cons_self, (Option.some.inj z).symm⟩
        · have hx' : (x == n) = false := by simpa using hx
          rw [List.lookup_cons, hx'] at z
          exact .inl z
      · rw [if_neg hk] at z
        exact .inl z
    · exact .inr ⟨List.mem_cons_of_mem _ z, e⟩
theorem closL_has {cells : List (Str × Addr)} {x : Str} : ∀ {names : List (Str × NameKind)} {acc : List (Str × Addr)}, ((x, NameKind.free) ∈ names \/ ∃ c, acc.lookup x = some c) -> ∃ c, (closL cells names acc).lookup x = some c
  | [], acc, h => by
    rcases h with h | h
    · cases h
    · exact h
  | (n, k) :: r, acc, h => by
    unfold closL
    refine closL_has ?_
    rcases h with h | ⟨c, h⟩
    · rcases List.mem_cons.mp h with z | z
      · cases z
        refine .inr ⟨(cells.lookup x).getD 0, ?_⟩
        rw [if_pos (by decide), List.lookup_cons]
        simp only [beq_self_eq_true]
      · exact .inl z
    · by_cases hk : (k == NameKind.free) = true
      · rw [if_pos hk]
        by_cases hx : (x == n) = true
        · exact .inr ⟨_, by rw [List.lookup_cons, hx]⟩
        · have hx' : (x == n) = false := by simpa using hx
          exact .inr ⟨c, by rw [List.lookup_cons, hx']; exact h⟩
      · rw [if_neg hk]
        exact .inr ⟨c, h⟩
theorem lookup_relabel_of {env : Env} {x : Str} {k : NameKind} : ∀ {names : List (Str × NameKind)}, (names.map fun (n, k) => if (k == NameKind.free && env.scope.kind == .function && env.kindOf n == some .cell) then (n, NameKind.cell) else (n, k)).lookup x = some k ->
    ∃ k', names.lookup x = some k' /\ (k = k' \/ (k' = .free /\ k = .cell))
  | [], h => by cases h
  | (n, j) :: r, h => by
    rw [List.map_cons] at h
    by_cases hx : (x == n) = true
    · refine ⟨j, by rw [List.lookup_cons, hx], ?_⟩
      dsimp only at h
      by_cases hc : (j == NameKind.free && env.scope.kind == .function && env.kindOf n == some .cell) = true
      · rw [if_pos hc, List.lookup_cons, hx] at h
        simp only [Bool.and_eq_true] at hc
        exact .inr ⟨by simpa using hc.1.1, (Option.some.inj h).symm⟩
      · rw [if_neg hc, List.lookup_cons, hx] at h
        exact .inl (Option.some.inj h).symm
    · have hx' : (x == n) = false := by simpa using hx
      have e : (r.map fun (n, k) => if (k == NameKind.free && env.scope.kind == .function && env.kindOf n == some .cell) then (n, NameKind.cell) else (n, k)).lookup x = some k := by
        dsimp only at h
        by_cases hc : (j == NameKind.free && env.scope.kind == .function && env.kindOf n == some .cell) = true
        · rw [if_pos hc, List.lookup_cons, hx'] at h; exact h
        · rw [if_neg hc, List.lookup_cons, hx'] at h; exact h
      obtain ⟨k', e1, e2⟩ := lookup_relabel_of e
      exact ⟨k', by rw [List.lookup_cons, hx']; exact e1, e2⟩
structure CompScope (X : Cx) (N' : List Str) (fr : List (Option Nat)) (scope : Scope) : Prop where
  kind : scope.kind = .function
  nocell : ∀ y ∈ scope.names, y.2 ≠ .cell
  loc : ∀ y ∈ scope.names, y.2 = .local -> scope.names.lookup y.1 = some .local
  free : ∀ y ∈ scope.names, y.2 = .free -> ∃ c, X.env.cells.lookup y.1 = some c
  len : fr.length = N'.length
  fre : ∀ (j i : Nat) (x : Str), fr[j]? = some (some i) -> N'[j]? = some x -> X.N[i]? = some x /\ scope.names.lookup x = some .free /\ (X.env.kindOf x = some .cell \/ X.env.kindOf x = some .free)
noncomputable def compSt (fr : List (Option Nat)) (σ : St) : St := fr.map fun o => o.bind fun i => (σ[i]?).join
noncomputable def compCx (X : Cx) (scope : Scope) (N' : List Str) (s₃ : Shared) (H₃ : Hp) (fp : List Addr) (pins : List (Addr × Obj)) : Cx :=
  { X with N := N', s₀ := s₃, H₀ := H₃, env := compEnvC scope (closL X.env.cells scope.names []) s₃.heap.objs.size X.env, outer := X.stack, stack := X.stack, ex := fp, fn := fun _ => false, pn := X.pn ++ pins, xe := fun _ _ => False }
section
variable {X : Cx} {pins : List (Addr × Obj)} {σ : St} {H : Hp} {s : Shared} {N' : List Str} {fr : List (Option Nat)} {scope : Scope} {fp : List Addr}
theorem clos_cells (S : CompScope X N' fr scope) {x : Str} {c : Addr} (h : (closL X.env.cells scope.names []).lookup x = some c) : X.env.cells.lookup x = some c := by
  rcases closL_lookup h with z | ⟨z, e⟩
  · cases z
  · obtain ⟨c', hc⟩ := S.free _ z rfl
    have hc : X.env.cells.lookup x = some c' := hc
    rw [hc] at e
    rw [hc, e]; rfl
theorem comp_ok (I : Inv X pins σ H s) (S : CompScope X N' fr scope) (hf : ∀ b ∈ fp, FpOk X pins H b) (hlt : ∀ b ∈ fp, b < s.heap.objs.size) : (compCx X scope N' s H fp pins).Ok := by
  refine ⟨I.ok.mod, S.kind, I.ok.glob, I.ok.blt, Nat.le_refl _, fun x y c h1 h2 => I.ok.inj x y c (clos_cells S h1) (clos_cells S h2), fun x hx => ?_, (fun x c z => by cases z), I.ok.hd, I.ok.frames, .inl rfl, fun b hb => ⟨Nat.ne_of_lt (hlt b hb), fun x c h => (hf b hb).2.2.2.2.1 x c (clos_cells S h)⟩,
    I.bs, Nat.le_trans I.ok.bsz I.sz, fun b o e hb => ?_, fun b hb hm => ?_, I.stack, I.stkFree⟩
  · have hx : (relabel scope X.env).names.lookup x = some .cell \/ (relabel scope X.env).names.lookup x = some .free := hx
    have key : scope.names.lookup x = some .free := by
      rcases hx with h | h
      · obtain ⟨k', e1, e2⟩ := lookup_relabel_of h
        rcases e2 with z | ⟨z, _⟩
        · exact absurd z.symm (S.nocell _ (PySem.mem_of_lookup e1))
        · rw [e1, z]
      · obtain ⟨k', e1, e2⟩ := lookup_relabel_of h
        rcases e2 with z | ⟨_, z⟩
        · rw [e1, <- z]
        · cases z
    exact closL_has (.inl (PySem.mem_of_lookup key))
  · rcases (hf b hb).2.2.2.1 with z | z
    · exact I.ok.noex b o e z
    · exact absurd (Nat.lt_of_lt_of_le (Heap.lt_size e) (Nat.le_trans I.ok.bsz z)) (Nat.lt_irrefl _)
  · rcases List.mem_cons.mp (I.stkSub b hm) with z | z
    · exact (hf b hb).2.1 z
    · exact (hf b hb).2.2.1 z
theorem comp_in {h' : Heap} {m : Str -> Option Value} {tk : Nat} (I : Inv X pins σ H s) (S : CompScope X N' fr scope) (hf : ∀ b ∈ fp, FpOk X pins H b) (hlt : ∀ b ∈ fp, b < s.heap.objs.size) (hn : h'.Ns s.heap.objs.size m)
    (hk : ∀ b o, s.heap.get? b = some o -> h'.get? b = some o) : Inv (compCx X scope N' s H fp pins) [] (compSt fr σ) H { s with heap := h', toks := tk } := by
  refine ⟨comp_ok I S hf hlt, rfl, I.bare, Un.kept hk, ⟨m, hn, fun j x v e1 e2 e3 => ?_⟩, fun x c h => ?_, I.hok.fresh (Nat.le_refl _), fun x c h => I.freeC x c (clos_cells S h), fun p hp => ?_, I.hok.kept hk, by unfold compSt; rw [List.length_map]; exact S.len⟩
  · have e1 : N'[j]? = some x := e1
    unfold compSt at e2
    rw [List.getElem?_map] at e2
    cases hj : fr[j]? with
    | none => rw [hj] at e2; cases e2
    | some o =>
      rw [hj] at e2
      cases o with
      | none => cases e2
      | some i =>
        have e2 : (σ[i]?).join = some v := Option.some.inj e2
        have e2' : σ[i]? = some (some v) := by
          cases hq : σ[i]? with
          | none => rw [hq] at e2; cases e2
          | some w => rw [hq] at e2; rw [show w = some v from e2]
        obtain ⟨n1, n2, n3⟩ := S.fre j i x hj e1
        obtain ⟨m0, hn0, hl⟩ := I.loc
        have hvis : Vis X.env.scope x := by
          rcases n3 with z | z
          · exact .inr (.inl z)
          · exact .inr (.inr z)
        obtain ⟨u, r, l⟩ := hl i x v n1 e2' hvis
        refine ⟨u, r, .inr ⟨?_, ?_⟩⟩
        · have hh : ∀ {names : List (Str × NameKind)}, names.lookup x = some .free -> (names.map fun (n, k) => if (k == NameKind.free && X.env.scope.kind == .function && X.env.kindOf n == some .cell) then (n, NameKind.cell) else (n, k)).lookup x = some .cell \/
              (names.map fun (n, k) => if (k == NameKind.free && X.env.scope.kind == .function && X.env.kindOf n == some .cell) then (n, NameKind.cell) else (n, k)).lookup x = some .free := by
            intro names
            induction names with
            | nil => intro z; cases z
            | cons y r ih =>
              obtain ⟨n, k⟩ := y
              intro z
              rw [List.map_cons]
              dsimp only
              by_cases hx : (x == n) = true
              · rw [List.lookup_cons, hx] at z
                by_cases hc : (k == NameKind.free && X.env.scope.kind == .function && X.env.kindOf n == some .cell) = true
                · rw [if_pos hc]; exact .inl (by rw [List.lookup_cons, hx])
                · rw [if_neg hc]; exact .inr (by rw [List.lookup_cons, hx]; exact z)
              · have hx' : (x == n) = false := by simpa using hx
                rw [List.lookup_cons, hx'] at z
                have := ih z
                by_cases hc : (k == NameKind.free && X.env.scope.kind == .function && X.env.kindOf n == some .cell) = true
                · rw [if_pos hc, List.lookup_cons, hx']; exact this
                · rw [if_neg hc, List.lookup_cons, hx']; exact this
          exact hh n2
        · rcases l with ⟨k, _⟩ | ⟨k, c, e, z⟩
          · rcases n3 with q | q
            · rw [q] at k; cases k
            · rw [q] at k; cases k
          · obtain ⟨c', hc'⟩ := closL_has (cells := X.env.cells) (x := x) (names := scope.names) (acc := []) (.inl (PySem.mem_of_lookup n2))
            have e' := clos_cells S hc'
            rw [e] at e'; cases e'
            obtain ⟨o, ho, hd⟩ := z
            exact ⟨c, hc', o, hk _ _ ho, hd⟩
  · obtain ⟨v, o, ho, hd⟩ := I.cell x c (clos_cells S h)
    exact ⟨v, o, hk _ _ ho, hd⟩
  · have hp : p ∈ (X.pn ++ pins) ++ [] := hp
    rw [List.append_nil] at hp
    obtain ⟨q, n, ne, nf, d⟩ := I.pin p hp
    refine ⟨hk _ _ q, n, Nat.ne_of_lt (Heap.lt_size q), fun hm => ?_, d⟩
    rcases List.mem_cons.mp (I.stkSub p.1 hm) with z | z
    · exact ne z
    · exact nf z
end
end L2
set_option maxRecDepth 100000
set_option maxHeartbeats 4000000
namespace L2
open PySem PySem.Spec PyProof.Rows
section
variable {X : Cx} {pins : List (Addr × Obj)} {σ τ : St} {H H₃ H5 : Hp} {s₃ s5 : Shared} {N' : List Str} {scope : Scope} {fp : List Addr}
theorem comp_out {h' : Heap} (I : Inv X pins σ H₃ s₃) (J : Inv (compCx X scope N' s₃ H₃ fp pins) [] τ H5 s5) (hf : ∀ b ∈ fp, FpOk X pins H₃ b) (hs : Heap.SameBut s₃.heap.objs.size s5.heap h') : Inv X pins σ H5 { s5 with heap := h' } := by
  have hb : ∀ b o, s₃.heap.get? b = some o -> b ≠ s₃.heap.objs.size := fun b o q => Nat.ne_of_lt (Heap.lt_size q)
  have u : Un (frs X.stack) fp H₃ H5 s₃.heap s5.heap := J.base
  refine I.call' (s' := { s5 with heap := h' }) (ch := fp) J.os ⟨fun b o q n h1 h2 => (hs.2 b (hb b o q)).trans (u.keep b o q n h1 h2), fun b o q n h1 h2 => ?_, u.free, fun b o q h2 => ?_, u.tups, u.frzs, u.tbls⟩ (fun b ob q => ?_) J.bare (fun b m => ⟨(hf b m).2.2.2.1, (hf b m).2.1, (hf b m).2.2.2.2.1, (hf b m).2.2.2.2.2⟩)
  · obtain ⟨sl, e⟩ := u.slot b o q n h1 h2
    exact ⟨sl, (hs.2 b (hb b o q)).trans e⟩
  · obtain ⟨o', e⟩ := u.there b o q h2
    exact ⟨o', (hs.2 b (hb b o q)).trans e⟩
  · have fr : H5 s₃.heap.objs.size = none := J.free
    refine (J.hok b ob q).stay (fun c v hc r => (hs.2 c ?_).trans r) (fun _ z => z) fun _ _ z => z
    rintro rfl
    rcases hc with rfl | hc
    · rw [fr] at q; cases q
    · rw [fr] at hc; cases hc
end
noncomputable def PTs (X : Cx) (ifs : List Expr) (t : TT) : Prop :=
  ∀ (pins : List (Addr × Obj)) (s : Shared) (σ : St) (H : Hp) (Q : Bool -> Hp -> Prop), Inv X pins σ H s -> t σ H Q ->
    wpAny (model X.prog X.w) X.A (forIn ifs true fun c r => if r = true then do let ok <- isTrue c X.env (eval c X.env); pure (ForInStep.yield ok) else pure (ForInStep.yield r)) (TP X pins σ Q) X.xe s
noncomputable def tYes : TT := fun _ H Q => Q true H
theorem pts_nil {X : Cx} : PTs X [] tYes := fun _ _ _ H _ I h => wpAny_tests_nil ⟨H, I, h⟩
noncomputable def tComp (fr : List (Option Nat)) (wi : TI) (g : TG) (tc : TT) (te : TE) : TE := fun σ H Q => wi σ H fun J H1 => ∀ D, H1 D = none ->
  ∃ W : Nat -> Nat -> List V -> St -> Hp -> Prop, (∃ m, W 0 m [] (compSt fr σ) (upd H1 D (.lst []))) /\ ∀ i m ys τ H2, W i m ys τ H2 -> H2 D = some (.lst ys) /\
    ((J.stop i H2 /\ Q (.ref D) H2) \/ (J.go i H2 /\ ∀ x H3, J.yld i H2 x H3 -> g x τ H3 fun τ' H4 => tc τ' H4 fun b H5 => if b = true then te τ' H5 fun y H6 => H6 D = some (.lst ys) /\ ys.length < sizeLine /\ ∃ m', m' < m /\ W (i + 1) m' (ys ++ [y]) τ' (upd H6 D (.lst (ys ++ [y])))
      else ∃ m', m' < m /\ W (i + 1) m' ys τ' H5))
theorem comp_gen {X : Cx} {N' : List Str} {fr : List (Option Nat)} {scope : Scope} {tg iter elt : Expr} {ifs : List Expr} {wi : TI} {g : TG} {tc : TT} {te : TE} {pos cp : Pos} {use : Option (Value -> Sem Unit)} {Qf : Value -> Shared -> Prop} (hc : X.calm = true) (S : CompScope X N' fr scope) (hi : PI X tg iter wi)
    (hg : ∀ s₃ H₃ fp pins, PG (compCx X scope N' s₃ H₃ fp pins) tg g) (ht : ∀ s₃ H₃ fp pins, PTs (compCx X scope N' s₃ H₃ fp pins) ifs tc) (he : ∀ s₃ H₃ fp pins, PE (compCx X scope N' s₃ H₃ fp pins) elt te)
    (hs : ∀ x, foldedSetIterable iter X.env x = pure x) {pins : List (Addr × Obj)} {s : Shared} {σ : St} {H : Hp} {Q : VK} (I : Inv X pins σ H s) (h : tComp fr wi g tc te σ H Q)
    (hfin : ∀ (s₃ : Shared) (H₃ : Hp) (fp : List Addr) (D : Addr) (s6 : Shared) (τ : St) (H5 : Hp) (fl : Flow), Inv X pins σ H₃ s₃ -> (∀ b ∈ fp, FpOk X pins H₃ b) -> Inv (compCx X scope N' s₃ H₃ fp pins) [] τ H5 s6 -> Q (.ref D) H5 ->
      compPost (model X.prog X.w) X.A X.xe use Qf (.ref D) s₃.heap.objs.size (.ok fl) s6) :
    wpAny (model X.prog X.w) X.A (comprehension (.ListComp elt [⟨tg, iter, ifs, 0⟩] scope pos) scope X.env cp (newList []) false (eval iter X.env) use) Qf X.xe s := by
  refine wpAny_comprehension_free (use := use) rfl hs (closureFor_of S.free) S.kind S.loc ?_
  refine thn (hi pins s σ H _ I h) fun v s1 h1 => thn h1 fun itv s2 h2 => ?_
  obtain ⟨it, fp, tn, J, H2, rfl, I2, T, st2, f2, hW⟩ := h2
  refine wpAny_newObj_type ?_ (by size_fits)
  have hD : H2 s2.heap.objs.size = none := I2.hok.fresh (Nat.le_refl _)
  have I3 : Inv X pins σ (upd H2 s2.heap.objs.size (.lst [])) { s2 with heap := s2.heap.push { cls := .type "list", data := .seq ([] : List Value).toArray }, toks := s2.toks } :=
    I2.laid (fun b u e => Heap.get?_push_of_some _ e) (Nat.le_refl _) ⟨Nat.zero_le _, [], 0, .nil, Heap.get?_push_size _ rfl⟩
  generalize eD : s2.heap.objs.size = D at I3 hD ⊢
  generalize eH : upd H2 D (.lst []) = H3 at I3
  have f3 : ∀ b ∈ fp, FpOk X pins H3 b := fun b hb => by
    obtain ⟨g0, g1⟩ := f2 b hb
    refine ⟨?_, g1⟩
    obtain ⟨o, ho, _⟩ := T.obj 0 _ st2 b hb
    rw [<- eH, upd_ne (by rw [<- eD]; exact Nat.ne_of_lt (Heap.lt_size ho))]
    exact g0
  have lt3 : ∀ b ∈ fp, b < (s2.heap.push { cls := .type "list", data := .seq ([] : List Value).toArray }).objs.size := fun b hb => by
    obtain ⟨o, ho, _⟩ := T.obj 0 _ st2 b hb
    rw [Heap.size_push]
    exact Nat.lt_succ_of_lt (Heap.lt_size ho)
  have st3 : tn 0 (s2.heap.push { cls := .type "list", data := .seq ([] : List Value).toArray }) := T.keep _ _ _ st2 fun b _ o e => Heap.get?_push_of_some _ e
  obtain ⟨W, ⟨m0, w0⟩, turn⟩ := hW D hD
  rw [eH] at w0
  generalize es3 : ({ s2 with heap := s2.heap.push { cls := .type "list", data := .seq ([] : List Value).toArray }, toks := s2.toks } : Shared) = s3 at I3
  have lt3 : ∀ b ∈ fp, b < s3.heap.objs.size := by rw [<- es3]; exact lt3
  have st3 : tn 0 s3.heap := by rw [<- es3]; exact st3
  refine wpAny_newFunctionEnv S.nocell (by intro y hy; cases hy) (fun h4 hn4 hsb4 => ?_) S.kind
  have k4 : ∀ b o, s3.heap.get? b = some o -> h4.get? b = some o := fun b o e => (hsb4.2 b (Nat.ne_of_lt (Heap.lt_size e))).trans (Heap.get?_push_of_some _ e)
  have I4 : Inv (compCx X scope N' s3 H3 fp pins) [] (compSt fr σ) H3 { s3 with heap := h4, toks := s3.toks + ([] : List (Str × Value)).length } := comp_in I3 S f3 lt3 hn4 k4
  have st4 : tn 0 h4 := T.keep _ _ _ st3 fun b _ o e => k4 b o e
  have stat : ∀ {H' : Hp} {p' : List (Addr × Obj)}, p' = [] -> (∀ b ∈ fp, H' b = none) -> ∀ b ∈ fp, FpOk (compCx X scope N' s3 H3 fp pins) p' H' b := fun {H' p'} hp hn b hb => by
    subst hp
    obtain ⟨g0, g1, g2, g3, g4, g5⟩ := f3 b hb
    refine ⟨hn b hb, Nat.ne_of_lt (lt3 b hb), fun hm => ?_, .inl hb, fun x c h => g4 x c (clos_cells S h), fun p hp => ?_⟩
    · rcases List.mem_cons.mp (I3.stkSub b hm) with z | z
      · exact g1 z
      · exact g2 z
    · have hp : p ∈ (X.pn ++ pins) ++ [] := hp
      rw [List.append_nil] at hp
      exact g5 p hp
  have loop : ∀ s' : Shared, s' = { s3 with heap := h4, toks := s3.toks + ([] : List (Str × Value)).length } -> codeAny (model X.prog X.w) X.A (.compLoop (.ListComp elt [⟨tg, iter, ifs, 0⟩] scope pos) 0 (.ref it) (.ref D) (compEnvC scope (closL X.env.cells scope.names []) s3.heap.objs.size X.env))
      (compPost (model X.prog X.w) X.A X.xe use Qf (.ref D) s3.heap.objs.size) s' := by
    rintro s' rfl
    refine codeAny_loop rfl (fun n s' => ∃ i ys τ H', Inv (compCx X scope N' s3 H3 fp pins) [] τ H' s' /\ tn i s'.heap /\ (∀ b ∈ fp, H' b = none) /\ W i n ys τ H') ?_ m0 ⟨0, [], _, H3, I4, st4, fun b hb => (f3 b hb).1, w0⟩
    rintro n s5 ⟨i, ys, τ, H5, I5, st5, fr5, w5⟩
    show wpAny _ X.A ((compTurn (.ListComp elt [⟨tg, iter, ifs, 0⟩] scope pos) 0 (.ref it) (.ref D) (compEnvC scope (closL X.env.cells scope.names []) s3.heap.objs.size X.env)).onRaise (fun x => do noteFrame x (compEnvC scope (closL X.env.cells scope.names []) s3.heap.objs.size X.env); theTreesLotGoes x)) _ _ s5
    refine wpAny_noted ?_
    rw [compTurn_list]
    obtain ⟨hDy, hor⟩ := turn i n ys τ H5 w5
    rcases hor with ⟨stop, q⟩ | ⟨go, step⟩
    · refine wpAny_bind (wpAny_standAt (wpAny_bind (thn (T.done (compCx X scope N' s3 H3 fp pins) rfl rfl rfl hc i [] s5 τ H5 _ I5 (stat rfl fr5) st5 stop) fun r s6 ⟨hr, I6⟩ => ?_)))
      subst hr
      exact wpAny_pure (hfin s3 H3 fp D s6 τ H5 _ I3 f3 I6 q)
    · refine wpAny_bind (wpAny_standAt (wpAny_bind (thn (T.item (compCx X scope N' s3 H3 fp pins) rfl rfl rfl hc i [] s5 τ H5 _ I5 (stat rfl fr5) st5 go) fun r s6 ⟨u, hr, h6⟩ => ?_)))
      subst hr
      refine wpAny_bind (thn h6 fun _ s7 ⟨x, H7, I7, r7, y7, st7, fr7⟩ => ?_)
      have I7' := I7.pinned (stat rfl fr7) (T.obj _ _ st7)
      refine wpAny_bind (wpAny_mono (hg s3 H3 fp pins _ s7 τ H7 x u _ I7' r7 (step x H7 y7)) (fun _ s8 ⟨τ8, H8, I8, q8⟩ => ?_) fun _ _ z => False.elim z)
      refine wpAny_bind (wpAny_mono (ht s3 H3 fp pins _ s8 τ8 H8 _ I8 q8) (fun b s9 ⟨H9, I9, q9⟩ => ?_) fun _ _ z => False.elim z)
      have again : ∀ {s' : Shared} {H' : Hp}, Inv (compCx X scope N' s3 H3 fp pins) ([] ++ pinsAt fp s7.heap) τ8 H' s' -> tn (i + 1) s'.heap /\ ∀ b ∈ fp, H' b = none := fun {s' H'} I' => by
        refine ⟨T.keep _ _ _ st7 fun b hb o e => (I'.pin (b, o) (List.mem_append_right _ (List.mem_append_right _ (mem_pinsAt hb e)))).1, fun b hb => ?_⟩
        obtain ⟨o, e, d⟩ := T.obj _ _ st7 b hb
        exact (I'.pin (b, o) (List.mem_append_right _ (List.mem_append_right _ (mem_pinsAt hb e)))).2.1
      cases b with
      | false =>
        rw [if_neg Bool.false_ne_true] at q9
        obtain ⟨m', hm, w9⟩ := q9
        obtain ⟨a1, a2⟩ := again I9
        refine wpAny_pure ⟨rfl, m', hm, i + 1, ys, τ8, H9, I9.unpinned, a1, a2, w9⟩
      | true =>
        rw [if_pos rfl] at q9
        refine wpAny_bind (wpAny_bind (wpAny_mono (he s3 H3 fp pins _ s9 τ8 H9 _ I9 q9) (fun yv s10 ⟨y, H10, I10, r10, hD10, hz, m', hm, w10⟩ => ?_) fun _ _ z => False.elim z))
        refine wpAny_bind (wpAny_mono (mt_append (X := compCx X scope N' s3 H3 fp pins) _ s10 τ8 H10 (.ref D) [y] (.ref D) [yv] (fun _ H11 => H11 = upd H10 D (.lst (ys ++ [y]))) I10 rfl (.cons r10 .nil) ⟨D, ys, y, rfl, rfl, hD10, hz, rfl⟩) (fun _ s11 ⟨_, H11, I11, _, q11⟩ => ?_) fun _ _ z => False.elim z)
        subst q11
        obtain ⟨a1, a2⟩ := again I11
        exact wpAny_pure (wpAny_pure ⟨rfl, m', hm, i + 1, ys ++ [y], τ8, _, I11.unpinned, a1, a2, w10⟩)
  exact codeAny_compStart_list (loop _ rfl) (T.self _ 0 _ _ _ st4 (loop _ rfl))
theorem pe_comp {X : Cx} {N' : List Str} {fr : List (Option Nat)} {scope : Scope} {tg iter elt : Expr} {ifs : List Expr} {wi : TI} {g : TG} {tc : TT} {te : TE} {pos : Pos} (hc : X.calm = true) (S : CompScope X N' fr scope) (hi : PI X tg iter wi)
    (hg : ∀ s₃ H₃ fp pins, PG (compCx X scope N' s₃ H₃ fp pins) tg g) (ht : ∀ s₃ H₃ fp pins, PTs (compCx X scope N' s₃ H₃ fp pins) ifs tc) (he : ∀ s₃ H₃ fp pins, PE (compCx X scope N' s₃ H₃ fp pins) elt te)
    (hs : autoParam (∀ x, foldedSetIterable iter X.env x = pure x) L2.au2._auto_1) : PE X (.ListComp elt [⟨tg, iter, ifs, 0⟩] scope pos) (tComp fr wi g tc te) := by
  intro pins s σ H Q I h
  rw [eval_ListComp]
  refine comp_gen (use := none) hc S hi hg ht he hs I h fun s3 H3 fp D s6 τ H5 fl I3 f3 I6 q => ?_
  obtain ⟨m6, hn6, _⟩ := I6.loc
  exact ⟨m6, hn6, fun h7 hs7 => ⟨.ref D, H5, comp_out I3 I6 f3 hs7, rfl, q⟩⟩
end L2
set_option maxRecDepth 100000
set_option maxHeartbeats 4000000
namespace L2
open PySem PySem.Spec PyProof.Rows
noncomputable def Ite (K : PySem.W.Frag) (a : Addr) : It :=
  ⟨fun i H => ∃ xs x, SqL K H a xs /\ xs[i]? = some x, fun i H x H' => ∃ p y, H p = none /\ x = .ref p /\ H' = upd H p (.tup [.int i, y]) /\ ∀ xs, SqL K H a xs -> xs[i]? = some y, fun i H => ∃ xs, SqL K H a xs /\ xs.length <= i⟩
theorem turn_enum {P : Program} {w : World} {K : PySem.W.Frag} {elts : List Expr} {x1 : Nat} {tpos : Pos} (a e it : Addr) (hne : e ≠ it) : Turn P w K (.Tuple elts x1 tpos) (Ite K a) [e, it] e (fun i h => (∃ old, IsEnum h e it i old) /\ h.IsListIter it a i) where
  mem := by simp
  obj := fun i h st b hb => by
    obtain ⟨⟨old, s1⟩, o, e1, c, d⟩ := st
    have hb : b = e \/ b = it := by simpa using hb
    rcases hb with rfl | rfl
    · exact ⟨_, s1, fun v z => by cases z⟩
    · exact ⟨o, e1, fun v z => by rw [d] at z; cases z⟩
  keep := fun i h h' st k => by
    obtain ⟨⟨old, s1⟩, s2⟩ := st
    exact ⟨⟨old, k e (by simp) _ s1⟩, s2.at fun o q => k it (by simp) o q⟩
  item := by
    intro X hP hw hK hc i pins s σ H E I hf st hg
    subst hP hw hK
    obtain ⟨⟨old, s1⟩, s2⟩ := st
    obtain ⟨xs, x, hq, hx⟩ := hg
    obtain ⟨its, rv, p, hz⟩ := I.list hq
    obtain ⟨u, hu, ru⟩ := rv.get hx
    obtain ⟨f0, f1, f2, f3, f4, f5⟩ := hf e (by simp)
    obtain ⟨g0, g1, g2, g3, g4, g5⟩ := hf it (by simp)
    refine wpAny_pyNext_enum_item s1 s2 p.isList (x := u) (by simpa using hu) hne fun h1 out it1 tup sz kp => ?_
    refine ⟨_, rfl, wpAny_letOwnedTupleGo_enum out fun h2 en2 sb2 => ?_⟩
    have sb2 : Heap.SameBut e h1 h2 := sb2
    have eT : e ≠ s.heap.objs.size := Nat.ne_of_lt (Heap.lt_size s1)
    have iT : it ≠ s.heap.objs.size := by
      obtain ⟨o, q, _⟩ := s2
      exact Nat.ne_of_lt (Heap.lt_size q)
    have hfresh : H s.heap.objs.size = none := I.hok.fresh (Nat.le_refl _)
    have keep2 : ∀ b o, b ≠ e -> b ≠ it -> s.heap.get? b = some o -> h2.get? b = some o := fun b o n1 n2 q => (sb2.2 b n1).trans (kp b o n1 n2 q)
    have nE : ∀ b u, H b = some u -> b ≠ e := fun b u q z => by rw [z, f0] at q; cases q
    have nI : ∀ b u, H b = some u -> b ≠ it := fun b u q z => by rw [z, g0] at q; cases q
    have htup : h2.get? s.heap.objs.size = some { cls := .type "tuple", data := .seq #[.int i s.toks, u] } := (sb2.2 _ (Ne.symm eT)).trans tup
    have hok2 : HOk X.prog X.w (upd H s.heap.objs.size (.tup [.int i, x])) h2 := fun b ob q => by
      by_cases hb : b = s.heap.objs.size
      · subst hb
        rw [upd_same] at q; cases q
        exact ⟨by show 2 <= sizeLine; decide, [.int i s.toks, u], .cons ⟨_, rfl⟩ (.cons ru .nil), ⟨_, htup, rfl, ⟨rfl, rfl⟩, _, rfl⟩⟩
      · rw [upd_ne hb] at q
        refine (I.hok b ob q).stay (fun c v hc r => keep2 c v ?_ ?_ r) (fun c z => ?_) fun c ys z => ?_
        · rcases hc with rfl | hc
          · exact nE c _ q
          · exact nE c _ hc
        · rcases hc with rfl | hc
          · exact nI c _ q
          · exact nI c _ hc
        · rw [upd_ne (ne_of_none z hfresh)]; exact z
        · rw [upd_ne (ne_of_none z hfresh)]; exact z
    have I2 : Inv X pins σ (upd H s.heap.objs.size (.tup [.int i, x])) { s with heap := h2, gens := s.gens, drawn := s.drawn, toks := s.toks + 1 } := by
      refine I.step (ch := [e, it]) (fun b hb => ?_) (fun b o _ _ hc q _ => keep2 b o (fun z => hc (by simp [z])) (fun z => hc (by simp [z])) q) (fun b o _ _ hc q _ => ⟨o.slots, keep2 b o (fun z => hc (by simp [z])) (fun z => hc (by simp [z])) q⟩) (fun b o hc q n => ?_)
        (fun b o hc q => ⟨o, keep2 b o (fun z => hc (by simp [z])) (fun z => hc (by simp [z])) q⟩) (fun b ys z => by rw [upd_ne (ne_of_none z hfresh)]; exact z) (fun b o v z => by rw [upd_ne (ne_of_none z hfresh)]; exact z)
        (fun b ps z => ⟨#[], by rw [upd_ne (ne_of_none z hfresh), z]; simp⟩) (fun m hm => ?_) hok2 I.bare
      · have hb : b = e \/ b = it := by simpa using hb
        rcases hb with rfl | rfl
        · exact ⟨f3, f1, f4, f5⟩
        · exact ⟨g3, g1, g4, g5⟩
      · rw [upd_ne (Nat.ne_of_lt (Heap.lt_size q))]; exact n
      · obtain ⟨o, es, ep, ho, r⟩ := hm
        exact ⟨o, es, ep, keep2 _ o (Ne.symm f1) (Ne.symm g1) ho, r⟩
    refine ⟨.ref s.heap.objs.size, _, I2, rfl, ⟨s.heap.objs.size, x, hfresh, rfl, rfl, fun ys hy => by rw [I.list_inj hy hq]; exact hx⟩, ⟨⟨u, ?_⟩, ?_⟩, fun b hb => ?_⟩
    · exact_mod_cast en2
    · exact it1.at fun o q => (sb2.2 it (Ne.symm hne)).trans q
    · have hb : b = e \/ b = it := by simpa using hb
      rcases hb with rfl | rfl
      · rw [upd_ne eT]; exact f0
      · rw [upd_ne iT]; exact g0
  done := by
    intro X hP hw hK hc i pins s σ H E I hf st hg
    subst hP hw hK
    obtain ⟨⟨old, s1⟩, s2⟩ := st
    obtain ⟨xs, hq, hx⟩ := hg
    obtain ⟨its, rv, p, hz⟩ := I.list hq
    obtain ⟨g0, g1, g2, g3, g4, g5⟩ := hf it (by simp)
    have hl := rv.length
    exact wpAny_pyNext_enum_end (I.ok.hd hc) s1 s2 p.isList (by simp; omega) fun h' eb => ⟨rfl, I.turned (t' := s.toks) (fun b o hb q => eb b o hb q) g0 g1 g3 g4 g5⟩
  self := fun A i s Q E st h => by
    obtain ⟨⟨old, s1⟩, s2⟩ := st
    exact wpAny_pyIter_enum s1 h
noncomputable def iEnum (K : PySem.W.Frag) (ta : TA) : TI := fun σ H R => ta σ H fun vs H1 => ∃ a, vs = [.ref a] /\ (∃ xs, SqL K H1 a xs) /\ R (Ite K a) H1
section
variable {X : Cx}
theorem pi_enum {a : Expr} {ta : TA} {p pos tpos : Pos} {elts : List Expr} {x1 : Nat} (hg : Gl X "enumerate") (hm : X.mg "enumerate" = none) (ha : PA X [a] ta) (hb : autoParam (bootBuiltins "enumerate" = some (.type "enumerate")) L2.au3._auto_1) (hs : autoParam (starEach [a] X.env = [(false, eval a X.env)]) L2.au3._auto_1) :
    PI X (.Tuple elts x1 tpos) (.Call (.Name "enumerate" p) [a] [] pos) (iEnum X.K ta) := by
  intro pins s σ H R I h
  refine Call_ (ld_blt I hg hm hb (PyProof.Rows.callWith_type1 (thn (ha pos pins s σ H _ I h) fun us s1 ⟨vs, H1, I1, r1, q1⟩ => ?_) hs rfl))
  obtain ⟨a, e, ⟨xs, hq⟩, q⟩ := q1
  subst e
  obtain ⟨u, rfl, ru⟩ := r1.one
  cases ru
  obtain ⟨its, rv, pl, hz⟩ := I1.list hq
  refine call_enumerate_list pl.isList fun h' en it sz kp => ?_
  refine wpAny_pyIter_enum en ?_
  have I2 : Inv X pins σ H1 { s1 with heap := h', toks := s1.toks } := I1.kept kp
  refine ⟨s1.heap.objs.size + 1, [s1.heap.objs.size + 1, s1.heap.objs.size], _, _, H1, rfl, I2, turn_enum a _ _ (Nat.succ_ne_self _), ⟨⟨.none, en⟩, it⟩, fun b hb => ?_, q⟩
  have hb : b = s1.heap.objs.size + 1 \/ b = s1.heap.objs.size := by simpa using hb
  rcases hb with rfl | rfl
  · exact I1.fpOk (Nat.le_succ _) (I1.hok.fresh (Nat.le_succ _))
  · exact I1.fpOk (Nat.le_refl _) (I1.hok.fresh (Nat.le_refl _))
end
noncomputable def signAt (x : Str) (i : Nat) (v : V) : Prop := ∃ c, x.cps[i]? = some c /\ v = .str ⟨#[c]⟩
noncomputable def Its (x : Str) : It := ⟨fun i _ => i < x.cps.size, fun i H v H' => H' = H /\ signAt x i v, fun i _ => x.cps.size <= i⟩
theorem turn_ascii {P : Program} {w : World} {K : PySem.W.Frag} {tg : Expr} (x : Str) (t : Tok) (it : Addr) : Turn P w K tg (Its x) [it] it (fun i h => h.IsStrIter it "str_ascii_iterator" x t i) where
  mem := by simp
  obj := fun i h st b hb => by
    have e : b = it := by simpa using hb
    subst e
    obtain ⟨o, e, c, d⟩ := st
    exact ⟨o, e, fun v z => by rw [d] at z; cases z⟩
  keep := fun i h h' st k => let ⟨o, ho, r⟩ := st; ⟨o, k it (by simp) o ho, r⟩
  item := by
    intro X hP hw hK hc i pins s σ H E I hf st hg
    subst hP hw hK
    have hg : i < x.cps.size := hg
    obtain ⟨f0, f1, f2, f3, f4, f5⟩ := hf it (by simp)
    refine wpAny_pyNext_ascii_item st (c := x.cps[i]) (by simp [hg]) fun h' st' sb => ?_
    have I1 : Inv X pins σ H { s with heap := h', toks := s.toks + 1 } := I.turned (fun b o hb e => (sb.2 b hb).trans e) f0 f1 f3 f4 f5
    obtain ⟨o, e, c, d⟩ := id st'
    exact ⟨_, rfl, go_of (s := { s with heap := h', toks := s.toks + 1 }) e c d (by decide) ⟨.str ⟨#[x.cps[i]]⟩, H, I1, ⟨_, rfl⟩, ⟨rfl, _, by simp [hg], rfl⟩, st', fun b hb => (hf b hb).1⟩⟩
  done := by
    intro X hP hw hK hc i pins s σ H E I hf st hg
    subst hP hw hK
    have hg : x.cps.size <= i := hg
    obtain ⟨f0, f1, f2, f3, f4, f5⟩ := hf it (by simp)
    exact wpAny_pyNext_ascii_end (I.ok.hd hc) st (by simp [hg]) fun h' eb => ⟨rfl, I.turned (t' := s.toks) (fun b o hb e => eb b o hb e) f0 f1 f3 f4 f5⟩
  self := fun _ _ _ _ _ st h => wpAny_pyIter_striter_ascii st h
theorem turn_wide {P : Program} {w : World} {K : PySem.W.Frag} {tg : Expr} (x : Str) (t : Tok) (it : Addr) : Turn P w K tg (Its x) [it] it (fun i h => h.IsStrIter it "str_iterator" x t i) where
  mem := by simp
  obj := fun i h st b hb => by
    have e : b = it := by simpa using hb
    subst e
    obtain ⟨o, e, c, d⟩ := st
    exact ⟨o, e, fun v z => by rw [d] at z; cases z⟩
  keep := fun i h h' st k => let ⟨o, ho, r⟩ := st; ⟨o, k it (by simp) o ho, r⟩
  item := by
    intro X hP hw hK hc i pins s σ H E I hf st hg
    subst hP hw hK
    have hg : i < x.cps.size := hg
    obtain ⟨f0, f1, f2, f3, f4, f5⟩ := hf it (by simp)
    refine wpAny_pyNext_wide_item st (c := x.cps[i]) (by simp [hg]) fun h' st' sb => ?_
    have I1 : Inv X pins σ H { s with heap := h', toks := s.toks + 1 } := I.turned (fun b o hb e => (sb.2 b hb).trans e) f0 f1 f3 f4 f5
    obtain ⟨o, e, c, d⟩ := id st'
    exact ⟨_, rfl, go_of (s := { s with heap := h', toks := s.toks + 1 }) e c d (by decide) ⟨.str ⟨#[x.cps[i]]⟩, H, I1, ⟨_, rfl⟩, ⟨rfl, _, by simp [hg], rfl⟩, st', fun b hb => (hf b hb).1⟩⟩
  done := by
    intro X hP hw hK hc i pins s σ H E I hf st hg
    subst hP hw hK
    have hg : x.cps.size <= i := hg
    obtain ⟨f0, f1, f2, f3, f4, f5⟩ := hf it (by simp)
    exact wpAny_pyNext_wide_end (I.ok.hd hc) st (by simp [hg]) fun h' eb => ⟨rfl, I.turned (t' := s.toks) (fun b o hb e => eb b o hb e) f0 f1 f3 f4 f5⟩
  self := fun _ _ _ _ _ st h => wpAny_pyIter_striter_wide st h
noncomputable def iStr (te : TE) : TI := fun σ H R => te σ H fun v H1 => ∃ x, v = .str x /\ R (Its x) H1
theorem pi_str {X : Cx} {tg e : Expr} {te : TE} (he : PE X e te) : PI X tg e (iStr te) := by
  intro pins s σ H R I h
  refine thn (he pins s σ H _ I h) fun v s1 ⟨y, H1, I1, r1, q1⟩ => ?_
  obtain ⟨x, rfl, q⟩ := q1
  obtain ⟨t, rfl⟩ := r1
  cases ha : x.cps.all (· < 128)
  · refine wpAny_pyIter_wide ha ?_
    refine ⟨s1.heap.objs.size, [s1.heap.objs.size], _, _, H1, rfl, I1.kept (t' := s1.toks) fun b o e => Heap.get?_push_of_some _ e, turn_wide x t _, ⟨_, Heap.get?_push_size _ rfl, rfl, rfl⟩, fun b hb => ?_, q⟩
    have e : b = s1.heap.objs.size := by simpa using hb
    subst e
    exact I1.fpOk (Nat.le_refl _) (I1.hok.fresh (Nat.le_refl _))
  · refine wpAny_pyIter_ascii ha ?_
    refine ⟨s1.heap.objs.size, [s1.heap.objs.size], _, _, H1, rfl, I1.kept (t' := s1.toks) fun b o e => Heap.get?_push_of_some _ e, turn_ascii x t _, ⟨_, Heap.get?_push_size _ rfl, rfl, rfl⟩, fun b hb => ?_, q⟩
    have e : b = s1.heap.objs.size := by simpa using hb
    subst e
    exact I1.fpOk (Nat.le_refl _) (I1.hok.fresh (Nat.le_refl _))
noncomputable def Itd (d : Addr) (o : Obj) (kvs : List (Key × V)) : It :=
  ⟨fun i H => H d = some (.frz o (.dK kvs)) /\ i < kvs.length, fun i H v H' => H' = H /\ ∃ k y, kvs[i]? = some (k, y) /\ v = kV k, fun i H => H d = some (.frz o (.dK kvs)) /\ kvs.length <= i⟩
theorem kV_rel {P : Program} {w : World} {k : Key} {u : Value} (h : (mixKind P w).is k u = true) : RelV (kV k) u := by
  rcases keyIs_shape h with ⟨i, t, rfl, rfl⟩ | ⟨x, t, rfl, rfl⟩ | ⟨rfl, rfl⟩
  · exact ⟨t, rfl⟩
  · exact ⟨t, rfl⟩
  · rfl
theorem turn_keys {P : Program} {w : World} {K : PySem.W.Frag} {tg : Expr} {o : Obj} {es : Array DictEntry} {ep : Nat} (hod : o.data = .dict es ep) (d : Addr) (kvs : List (Key × V)) (it : Addr) :
    Turn P w K tg (Itd d o kvs) [it] it (fun i h => h.IsKeyIter it d i kvs.length ep) where
  mem := by simp
  obj := fun i h st b hb => by
    have e : b = it := by simpa using hb
    subst e
    obtain ⟨o, e, c, d⟩ := st
    exact ⟨o, e, fun v z => by rw [d] at z; cases z⟩
  keep := fun i h h' st k => let ⟨o, ho, r⟩ := st; ⟨o, k it (by simp) o ho, r⟩
  item := by
    intro X hP hw hK hc i pins s σ H E I hf st hg
    subst hP hw hK
    obtain ⟨hd, hi⟩ := hg
    obtain ⟨f0, f1, f2, f3, f4, f5⟩ := hf it (by simp)
    obtain ⟨e1, z, y, vs, rel, oo, es', ep', e2, r⟩ := I.hok d _ hd
    rw [e1] at e2; cases e2
    have hat : s.heap.DictAt (mixKind X.prog X.w) d vs ep := by
      obtain ⟨r1, r2, r3⟩ := r
      rw [hod] at r2; cases r2
      exact ⟨o, es, e1, r1, hod, r3⟩
    have hl := rel.length
    have hx : vs[i]? = some (vs[i]'(by omega)) := by simp
    obtain ⟨k, y', hk⟩ : ∃ k y', vs[i]'(by omega) = (k, y') := ⟨_, _, rfl⟩
    rw [hk] at hx
    have kk : ∃ yv, kvs[i]? = some (k, yv) := by
      have hkk := congrArg (fun l => l[i]?) rel.keys
      simp only [List.getElem?_map, hx, Option.map_some] at hkk
      cases hq : kvs[i]? with
      | none => rw [hq] at hkk; simp at hkk
      | some p =>
        rw [hq] at hkk
        simp only [Option.map_some, Option.some.injEq] at hkk
        exact ⟨p.2, by rw [<- hkk]⟩
    obtain ⟨yv, hyv⟩ := kk
    have st : s.heap.IsKeyIter it d i vs.length ep := by rw [<- hl]; exact st
    refine wpAny_pyNext_dict_item st hat hx fun key h' hkey st' sb => ?_
    have I1 : Inv X pins σ H { s with heap := h', toks := s.toks } := I.turned (fun b o hb e => (sb.2 b hb).trans e) f0 f1 f3 f4 f5
    obtain ⟨o', e', c', d'⟩ := id st'
    exact ⟨key, rfl, go_of (s := { s with heap := h' }) e' c' d' (by decide) ⟨kV k, H, I1, kV_rel hkey, ⟨rfl, k, yv, hyv, rfl⟩, by rw [hl]; exact st', fun b hb => (hf b hb).1⟩⟩
  done := by
    intro X hP hw hK hc i pins s σ H E I hf st hg
    subst hP hw hK
    obtain ⟨hd, hi⟩ := hg
    obtain ⟨f0, f1, f2, f3, f4, f5⟩ := hf it (by simp)
    obtain ⟨e1, z, y, vs, rel, oo, es', ep', e2, r⟩ := I.hok d _ hd
    rw [e1] at e2; cases e2
    have hat : s.heap.DictAt (mixKind X.prog X.w) d vs ep := by
      obtain ⟨r1, r2, r3⟩ := r
      rw [hod] at r2; cases r2
      exact ⟨o, es, e1, r1, hod, r3⟩
    have hl := rel.length
    have st : s.heap.IsKeyIter it d i vs.length ep := by rw [<- hl]; exact st
    exact wpAny_pyNext_dict_end (I.ok.hd hc) st hat (by simp; omega) fun h' eb => ⟨rfl, I.turned (t' := s.toks) (fun b o hb e => eb b o hb e) f0 f1 f3 f4 f5⟩
  self := fun _ _ _ _ _ st h => wpAny_pyIter_keyiter st h
noncomputable def iKeys (te : TE) : TI := fun σ H R => te σ H fun v H1 => ∃ a kvs, v = .ref a /\ Rd H1 a (.dK kvs) /\ ∀ o, R (Itd a o kvs) (upd H1 a (.frz o (.dK kvs)))
theorem Inv.freeze {X : Cx} {pins : List (Addr × Obj)} {σ : St} {H : Hp} {s : Shared} {a : Addr} {kvs : List (Key × V)} (I : Inv X pins σ H s) (e : Rd H a (.dK kvs)) :
    ∃ o es ep, s.heap.get? a = some o /\ o.data = .dict es ep /\ Inv X pins σ (upd H a (.frz o (.dK kvs))) s := by
  obtain ⟨z, y, vs, rel, o, es, ep, h1, h2, h3, h4⟩ := e.ok I.hok
  have hok : HOk X.prog X.w (upd H a (.frz o (.dK kvs))) s.heap := fun b u q => by
    have keepT : ∀ c xs, H c = some (.tup xs) -> upd H a (.frz o (.dK kvs)) c = some (.tup xs) := fun c xs r => by
      rw [upd_ne (fun w => by subst w; rcases e with e | ⟨_, e⟩ <;> (rw [r] at e; cases e))]; exact r
    have keepO : ∀ c x, H c = some (.own x) -> upd H a (.frz o (.dK kvs)) c = some (.own x) := fun c x r => by
      rw [upd_ne (fun w => by subst w; rcases e with e | ⟨_, e⟩ <;> (rw [r] at e; cases e))]; exact r
    by_cases hb : b = a
    · subst hb
      rw [upd_same] at q; cases q
      exact ⟨h1, z, y, vs, rel, o, es, ep, h1, h2, h3, h4⟩
    · rw [upd_ne hb] at q
      exact (I.hok b u q).stay (fun c v _ r => r) (fun c r => keepO c b r) fun c xs r => keepT c xs r
  refine ⟨o, es, ep, h1, h3, ?_⟩
  have nn : H a ≠ none := by rcases e with e | ⟨_, e⟩ <;> (rw [e]; simp)
  have J : Inv X pins σ (upd H a (.frz o (.dK kvs))) { s with heap := s.heap, toks := s.toks } := I.un ⟨fun b ob q _ _ _ => q, fun b ob q _ _ _ => ⟨ob.slots, q⟩, fun b ob q n _ => (by rw [upd_ne (show b ≠ a from fun w => nn (by rw [<- w]; exact n))]; exact n), fun b ob q _ => ⟨ob, q⟩,
    fun b xs r => by rw [upd_ne (fun w => by subst w; rcases e with e | ⟨_, e⟩ <;> (rw [r] at e; cases e))]; exact r,
    fun b ob u r => by
      by_cases hb : b = a
      · subst hb
        rcases e with e | ⟨o', e⟩
        · rw [r] at e; cases e
        · have e1 := (I.hok b _ e).1
          rw [h1] at e1; cases e1
          rw [e] at r; cases r
          exact upd_same
      · rw [upd_ne hb]; exact r,
    fun b ps r => ⟨#[], by rw [upd_ne (fun w => by subst w; rcases e with e | ⟨_, e⟩ <;> (rw [r] at e; cases e)), r]; simp⟩⟩ hok
  exact J
theorem pi_keys {X : Cx} {tg e : Expr} {te : TE} (he : PE X e te) : PI X tg e (iKeys te) := by
  intro pins s σ H R I h
  refine thn (he pins s σ H _ I h) fun v s1 ⟨y, H1, I1, r1, q1⟩ => ?_
  obtain ⟨a, kvs, rfl, hr, q⟩ := q1
  obtain rfl : v = Value.ref a := r1
  obtain ⟨o, es, ep, h1, h2, I2⟩ := I1.freeze hr
  obtain ⟨e1, z, y, vs, rel, oo, es', ep', e2, r0, r2, r3⟩ := I2.hok a _ upd_same
  rw [e1] at e2; cases e2
  rw [h2] at r2; cases r2
  have hat : s1.heap.DictAt (mixKind X.prog X.w) a vs ep := ⟨o, es, h1, r0, h2, r3⟩
  refine wpAny_pyIter_dict y hat ?_
  have I3 : Inv X pins σ (upd H1 a (.frz o (.dK kvs))) { s1 with heap := s1.heap.push { cls := .type "dict_keyiterator", data := .fields #[.ref a, .int 0 0, .int vs.length 0, .int ep 0] }, toks := s1.toks } := I2.kept fun b ob e => Heap.get?_push_of_some _ e
  have hl := rel.length
  refine ⟨s1.heap.objs.size, [s1.heap.objs.size], _, _, _, rfl, I3, turn_keys h2 a kvs s1.heap.objs.size, ⟨_, Heap.get?_push_size _ rfl, rfl, by rw [hl]; rfl⟩, fun b hb => ?_, q o⟩
  have e : b = s1.heap.objs.size := by simpa using hb
  subst e
  exact I2.fpOk (Nat.le_refl _) (I2.hok.fresh (Nat.le_refl _))
end L2
set_option maxRecDepth 100000
set_option maxHeartbeats 4000000
namespace L2
open PySem PySem.Spec PyProof.Rows
section
variable {X : Cx}
noncomputable def rSlS : V -> Option Int -> Option Int -> Hp -> VK -> Prop := fun x lo hi H Q => ∃ z, x = .str z /\ z.length <= sizeLine /\ Q (.str (Txt.slice z lo hi)) H
theorem sl_str : SlR X rSlS := by
  intro pins s σ H x v vl vu lo hi sl Q I rx hs pl pu h
  obtain ⟨z, rfl, hz, q⟩ := h
  obtain ⟨t, rfl⟩ := rx
  refine ⟨"str", _, F.slot_str_getitem.lookup, typeIs_str _ _ _, ?_⟩
  have fin : ∀ (l u : Option (Int × Tok)), vl = partValue l -> vu = partValue u -> l.map (·.1) = lo -> u.map (·.1) = hi -> wpAny (model X.prog X.w) X.A (getItem (.str z t) (.ref sl)) (EP X pins σ Q) X.xe s := by
    intro l u e1 e2 e3 e4
    subst e1 e2 e3 e4
    refine wpAny_getItem_str_slice (st := none) hs rfl (post_val_or_str ⟨Nat.le_trans (Txt.slice_le z _ _) hz, fun t' k => ?_⟩)
    exact ⟨.str _, H, I.tok k, ⟨t', rfl⟩, q⟩
  cases pl with
  | none =>
    cases pu with
    | none => exact fin none none rfl rfl rfl rfl
    | int j tj => exact fin none (some (j, tj)) rfl rfl rfl rfl
  | int i ti =>
    cases pu with
    | none => exact fin (some (i, ti)) none rfl rfl rfl rfl
    | int j tj => exact fin (some (i, ti)) (some (j, tj)) rfl rfl rfl rfl
noncomputable def rUpper : V -> List V -> Hp -> VK -> Prop := fun x xs H Q => ∃ z, x = .str z /\ xs = [] /\ z.length <= 5592405 /\ Q (.str (Txt.upper z)) H
theorem mt_upper : MtM X "str.upper" rUpper := by
  intro pins s σ H x vs v us Q I rx rv h
  obtain ⟨z, rfl, rfl, hz, q⟩ := h
  obtain ⟨t, rfl⟩ := rx
  cases rv
  exact SCL.upper hz fun _ => ⟨.str _, H, I.tok _, ⟨_, rfl⟩, q⟩
end
end L2
set_option maxRecDepth 100000
set_option maxHeartbeats 4000000
namespace L2
open PySem PySem.Spec PyProof.Rows
section
variable {prog : Program} {w : World} {A : Around} {E : Value -> Shared -> Prop} {s : Shared} {K : Type} [DecidableEq K] {knd : KeyKind prog w K} {d : Addr} {kvs : List (K × Value)} {ep : Nat}
end
section
variable {X : Cx}
end
end L2
set_option maxRecDepth 100000
set_option maxHeartbeats 4000000
namespace L2
open PySem PySem.Spec PyProof.Rows
structure DefIn (K : PySem.W.Frag) (mg : Str -> Option Value) (x : Str) (st : Stmt) (ps : List Str) : Prop where
  ex : ∃ f fd, Fun K x x st f fd /\ mg x = some (.ref f) /\ Binds K fd ps []
theorem defIn_mk {K : PySem.W.Frag} {mg : Str -> Option Value} {x : Str} {st : Stmt} {ps : List Str} {h : Heap} {f : Addr} {oc : Value} {od an : Option Addr} {osl : Array (Option Value)} {kV doc pm cdv ct : Value} (X : K.In h) (G : h.Ns mainGlobals mg)
    (hb : ∀ (kV doc pm : Value) (an : Option Addr) (cdv ct : Value) (us : List Value), us.length = ps.length -> bindArgs (PySem.W.fnOf x x (defArgs st) (defBody st) (defScope st) .none kV doc pm an cdv ct) ⟨us, []⟩ = pure (ps.zip us))
    (a : PySem.W.nsIn K mainGlobals x = some (some (.ref f))) (l : K.lookup f = some ⟨oc, od, .func (PySem.W.fnOf x x (defArgs st) (defBody st) (defScope st) .none kV doc pm an cdv ct), osl⟩)
    (c : PySem.W.codeIn K cdv x = true) (k : PySem.W.keepIn K (.ref f) = true) : DefIn K mg x st ps :=
  ⟨f, _, fun_mk l c k, PySem.W.mg_of X G a, (fun_mk (st := st) l c k).binds hb⟩
structure Own (P : Program) (w : World) (K : PySem.W.Frag) (mg : Str -> Option Value) (base : Heap) (x : Str) (k : Nat) (ps : List Str) (sp : Sp) : Prop where
  ex : ∃ f fd, FnOk P w K mg base (cxx P w) k f fd ps sp /\ mg x = some (.ref f) /\ PySem.W.keepIn K (.ref f) = true /\ Binds K fd ps []
section
variable {P : Program} {w : World} {K : PySem.W.Frag} {mg : Str -> Option Value} {base : Heap} {x : Str} {st : Stmt} {N ps : List Str} {k : Nat} {sp : Sp}
theorem DefIn.own (D : DefIn K mg x st ps) (S : FnScope N ps (defScope st)) (len : ∀ vs H Q E, sp vs H Q E -> vs.length = ps.length)
    (hbody : ∀ (f : Addr) (cdv : Value) (A : Around) (outer : List Env) (s : Shared) (H : Hp) (vs : List V) (Q : VK) (E : XK), Room k (A.deeper (envOfC x (defScope st) s.heap.objs.size f cdv)) -> sp vs H Q E ->
      ∃ t, PSs (cxOf (cxx P w) P w K mg base N x (defScope st) f cdv A outer s H E) (defBody st) t /\ t { nx := fun _ H' => Q .non H', rt := Q } (start N vs) H) : Own P w K mg base x (k + 1) ps sp := by
  obtain ⟨f, fd, F, hm, hb⟩ := D.ex
  obtain ⟨oc, od, kV, doc, pm, an, cdv, ct, osl, rfl, lk, hcd⟩ := F.ex
  exact ⟨f, _, fn_of lk hcd S len fun A outer s H vs Q E hr hsp => hbody f cdv A outer s H vs Q E hr hsp, hm, F.kp, hb⟩
theorem Own.mono {j : Nat} (O : Own P w K mg base x j ps sp) (h : j <= k) : Own P w K mg base x k ps sp := by
  obtain ⟨f, fd, F, a, b, c⟩ := O.ex
  exact ⟨f, fd, F.mono h, a, b, c⟩
end
section
variable {X : Cx} {x : Str} {k : Nat} {ps : List Str} {sp : Sp} {E : XK} {e : Expr} {es : List Expr} {t : TA} {p pos : Pos}
theorem pe_own (O : Own X.prog X.w X.K X.mg X.base x k ps sp) (hr : Room k X.A) (hg : Gl X x) (hx : Passes (cxx X.prog X.w) X E) (ha : PA X (e :: es) t) (hdb : autoParam ((x == ("__debug__" : Str)) = false) L2.au1._auto_1)
    (he : autoParam (starEach (e :: es) X.env = (false, eval e X.env) :: starEach es X.env) L2.au3._auto_1) (hpl : autoParam ((backTo pos (starEach es X.env)).any (·.1) = false) L2.au3._auto_1) : PE X (.Call (.Name x p) (e :: es) [] pos) (tCall sp [] E t) := by
  obtain ⟨f, fd, F, hm, hk, hb⟩ := O.ex
  exact pe_call F hr hg hm hk hb .nil hx ha hdb he hpl
theorem pe_own0 (O : Own X.prog X.w X.K X.mg X.base x k ps sp) (hr : Room k X.A) (hg : Gl X x) (hx : Passes (cxx X.prog X.w) X E) (hdb : autoParam ((x == ("__debug__" : Str)) = false) L2.au1._auto_1) : PE X (.Call (.Name x p) [] [] pos) (tCall sp [] E tNil) := by
  obtain ⟨f, fd, F, hm, hk, hb⟩ := O.ex
  exact pe_call0 F hr hg hm hk hb .nil hx hdb
theorem ps_tryO {CS : Addr} {xc n : Str} {pos' pc hpos tpos : Pos} {i : Nat} {b₀ : Stmt} {suite : List Stmt} {ts : Addr -> Obj -> TS} (O : Own X.prog X.w X.K X.mg X.base x k ps sp) (hst : X.stack = X.env :: X.outer) (hf : X.env.frame = some X.env.locals) (hc : X.calm = true) (hN : X.N.Nodup) (hr : Room k X.A) (hg : Gl X x)
    (ha : PA X.nox (e :: es) t) (hgc : Gl X xc) (hmc : X.mg xc = some (.ref CS)) (hi : X.N[i]? = some n) (hx : X.env.scope.names.lookup n = some .local) (hsuite : ∀ (e : Addr) (oe : Obj), PSs (X.within e oe) (b₀ :: suite) (ts e oe))
    (hdb : autoParam ((x == ("__debug__" : Str)) = false) L2.au1._auto_1) (hdc : autoParam ((xc == ("__debug__" : Str)) = false) L2.au1._auto_1)
    (he : autoParam (starEach (e :: es) X.env = (false, eval e X.env) :: starEach es X.env) L2.au3._auto_1) (hpl : autoParam ((backTo pos (starEach es X.env)).any (·.1) = false) L2.au3._auto_1)
    (hsw : autoParam (swapsWith (.Call (.Name x p) (e :: es) [] pos) none pos'.line X.env = pure false) L2.au3._auto_1) :
    PS X (.Try [.Expr (.Call (.Name x p) (e :: es) [] pos) pos'] [.ExceptHandler (some (.Name xc pc)) (some n) (b₀ :: suite) hpos] [] [] tpos) (tTry X.K CS i sp [] t ts) := by
  obtain ⟨f, fd, F, hm, hk, hb⟩ := O.ex
  exact ps_try hst hf hc hN F hr hg hm hk hb .nil ha hgc hmc hi hx hsuite hdb hdc he hpl hsw
end
noncomputable def kinds : List String := ["NoneType", "bool", "int", "str", "list", "tuple", "dict"]
section
variable {K : PySem.W.Frag}
theorem kit_int : ∀ {T : String}, T ∈ kinds -> PySem.W.kitOne K (.type T) (.type "int") = some (T == "int" || T == "bool") := by
  intro T h
  simp only [kinds, List.mem_cons, List.not_mem_nil, or_false] at h
  rcases h with rfl | rfl | rfl | rfl | rfl | rfl | rfl <;> kernel_rfl
theorem kit_bool : ∀ {T : String}, T ∈ kinds -> PySem.W.kitOne K (.type T) (.type "bool") = some (T == "bool") := by
  intro T h
  simp only [kinds, List.mem_cons, List.not_mem_nil, or_false] at h
  rcases h with rfl | rfl | rfl | rfl | rfl | rfl | rfl <;> kernel_rfl
theorem kit_self : ∀ {T U : String}, T ∈ kinds -> U ∈ (["str", "list", "tuple", "dict"] : List String) -> PySem.W.kitOne K (.type T) (.type U) = some (T == U) := by
  intro T U h g
  simp only [kinds, List.mem_cons, List.not_mem_nil, or_false] at h g
  rcases g with rfl | rfl | rfl | rfl <;> rcases h with rfl | rfl | rfl | rfl | rfl | rfl | rfl <;> kernel_rfl
end
noncomputable def tIsi (K : PySem.W.Frag) (pn : List (Addr × Obj)) (u : V) (te : TE) : TE := fun σ H Q => te σ H fun v H1 => rIsi K pn [v, u] H1 Q
theorem pe_isi {X : Cx} {u : V} {te : TE} {e c : Expr} {p pos : Pos} (hg : Gl X "isinstance") (hm : X.mg "isinstance" = none) (he : PE X e te) (hc : PE X c (tC u)) (hs : autoParam (starEach [e, c] X.env = (false, eval e X.env) :: starEach [c] X.env) L2.au3._auto_1) (hs2 : autoParam (starEach [c] X.env = (false, eval c X.env) :: starEach [] X.env) L2.au3._auto_1)
    (hpl : autoParam ((backTo pos (starEach [c] X.env)).any (·.1) = false) L2.au3._auto_1) : PE X (.Call (.Name "isinstance" p) [e, c] [] pos) (tIsi X.K X.pn u te) := by
  have key := pe_callB (X := X) (x := "isinstance") (p := p) (pos := pos) call_isi hg hm Boot.«isinstance» (pa_cons he (pa_cons hc pa_nil hs2) hs) (by decide) (by decide) hs hpl
  intro pins s σ H Q I h
  exact key pins s σ H Q I h
end L2
set_option maxRecDepth 100000
set_option maxHeartbeats 4000000
namespace L2
open PySem PySem.Spec PyProof.Rows
inductive D where
  | non | bl (b : Bool) | int (i : Int) | str (x : Str) | tup (xs : List D) | lst (xs : List D) | dic (ks : List Key) (xs : List D) | frl (xs : List D)
inductive R (α : Type) where
  | ok (a : α) | err (c : Str) | bad
noncomputable def R.bind {α β : Type} (r : R α) (f : α -> R β) : R β := match r with
  | .ok a => f a
  | .err c => .err c
  | .bad => .bad
theorem R.ok_bind {α β : Type} (a : α) (f : α -> R β) : (R.ok a).bind f = f a := rfl
theorem R.err_bind {α β : Type} (c : Str) (f : α -> R β) : (R.err c : R α).bind f = .err c := rfl
mutual
noncomputable def D.imm : D -> Bool
  | .tup xs => D.imms xs
  | .lst _ => false
  | .dic _ _ => false
  | _ => true
noncomputable def D.imms : List D -> Bool
  | [] => true
  | d :: ds => D.imm d && D.imms ds
end
noncomputable def SqF (K : PySem.W.Frag) (H : Hp) (a : Addr) (vs : List V) : Prop := (∃ o, H a = some (.frz o (.lst vs))) \/
  ∃ (o : Obj) (its : Array Value) (n : Nat), K.lookup a = some o /\ o.cls = .type "list" /\ o.dict = none /\ o.data = .seq its n /\ its.size <= sizeLine /\ Vals vs its.toList
theorem SqF.sq {K : PySem.W.Frag} {H : Hp} {a : Addr} {vs : List V} (h : SqF K H a vs) : SqL K H a vs := by
  rcases h with ⟨o, h⟩ | h
  · exact .inl (.inr ⟨o, h⟩)
  · exact .inr h
mutual
noncomputable def Rep (K : PySem.W.Frag) (H : Hp) : D -> V -> List Addr -> Prop
  | .non, v, L => v = .non /\ L = []
  | .bl b, v, L => v = .bl b /\ L = []
  | .int i, v, L => v = .int i /\ L = []
  | .str x, v, L => v = .str x /\ L = []
  | .tup ds, v, L => ∃ a vs, v = .ref a /\ SqT K H a vs /\ Reps K H ds vs L
  | .lst ds, v, L => ∃ a vs L', v = .ref a /\ H a = some (.lst vs) /\ L = a :: L' /\ Reps K H ds vs L'
  | .dic ks ds, v, L => ∃ a kvs L', v = .ref a /\ H a = some (.dK kvs) /\ L = a :: L' /\ kvs.map (·.1) = ks /\ ks.Nodup /\ Reps K H ds (kvs.map (·.2)) L'
  | .frl ds, v, L => ∃ a vs, v = .ref a /\ SqF K H a vs /\ L = [] /\ D.imms ds = true /\ Reps K H ds vs []
noncomputable def Reps (K : PySem.W.Frag) (H : Hp) : List D -> List V -> List Addr -> Prop
  | [], vs, L => vs = [] /\ L = []
  | d :: ds, vs, L => ∃ v vs' L1 L2, vs = v :: vs' /\ L = L1 ++ L2 /\ Rep K H d v L1 /\ Reps K H ds vs' L2
end
structure TF (H H' : Hp) : Prop where
  tup : ∀ a xs, H a = some (.tup xs) -> H' a = some (.tup xs)
  frz : ∀ a o u, H a = some (.frz o u) -> H' a = some (.frz o u)
theorem Same.tf {H H' : Hp} (h : Same H H') : TF H H' := ⟨fun a xs e => h a _ e, fun a o u e => h a _ e⟩
theorem Same.non {H H1 : Hp} (s : Same H H1) {a : Addr} (h : H1 a = none) : H a = none := by
  cases e : H a with
  | none => rfl
  | some o => rw [s a o e] at h; cases h
theorem Same.new {H : Hp} {p : Addr} {o : HO} (h : H p = none) : Same H (upd H p o) := fun b u e => by
  rw [upd_ne (ne_of_none e h)]; exact e
theorem SqF.tf {K : PySem.W.Frag} {H H' : Hp} {a : Addr} {vs : List V} (h : SqF K H a vs) (s : TF H H') : SqF K H' a vs := by
  rcases h with ⟨o, h⟩ | h
  · exact .inl ⟨o, s.frz _ _ _ h⟩
  · exact .inr h
theorem SqT.tf {K : PySem.W.Frag} {H H' : Hp} {a : Addr} {vs : List V} (h : SqT K H a vs) (s : TF H H') : SqT K H' a vs := by
  rcases h with h | h
  · rcases h with h | ⟨o, h⟩
    · exact .inl (.inl (s.tup _ _ h))
    · exact .inl (.inr ⟨o, s.frz _ _ _ h⟩)
  · exact .inr h
section
variable {K : PySem.W.Frag} {H H' : Hp}
mutual
theorem Rep.keep (s : TF H H') : ∀ (d : D) (v : V) (L : List Addr), Rep K H d v L -> (∀ a ∈ L, H' a = H a) -> Rep K H' d v L
  | .non, _, _, h, _ => h
  | .bl _, _, _, h, _ => h
  | .int _, _, _, h, _ => h
  | .str _, _, _, h, _ => h
  | .tup ds, _, L, hq3, k => by
    obtain ⟨a, vs, e, h, r⟩ := hq3
    exact ⟨a, vs, e, h.tf s, Reps.keep s ds vs L r k⟩
  | .lst ds, _, L, hq3, k => by
      obtain ⟨a, vs, L', e, h1, h2, h3⟩ := hq3
      subst h2
      exact ⟨a, vs, L', e, by rw [k a List.mem_cons_self]; exact h1, rfl, Reps.keep s ds vs L' h3 fun b hb => k b (List.mem_cons_of_mem _ hb)⟩
  | .frl ds, _, L, hq3, k => by
    obtain ⟨a, vs, e, h1, h2, h3, h4⟩ := hq3
    exact ⟨a, vs, e, h1.tf s, h2, h3, Reps.keep s ds vs [] h4 (fun _ hb => nomatch hb)⟩
  | .dic ks ds, _, L, hq3, k => by
      obtain ⟨a, kvs, L', e, h1, h2, h3, h4, h5⟩ := hq3
      subst h2
      exact ⟨a, kvs, L', e, by rw [k a List.mem_cons_self]; exact h1, rfl, h3, h4, Reps.keep s ds _ L' h5 fun b hb => k b (List.mem_cons_of_mem _ hb)⟩
theorem Reps.keep (s : TF H H') : ∀ (ds : List D) (vs : List V) (L : List Addr), Reps K H ds vs L -> (∀ a ∈ L, H' a = H a) -> Reps K H' ds vs L
  | [], _, _, h, _ => h
  | d :: ds, _, _, hq3, k => by
    obtain ⟨v, vs', L1, L2, e1, e2, h1, h2⟩ := hq3
    subst e2
    exact ⟨v, vs', L1, L2, e1, rfl, Rep.keep s d v L1 h1 fun a ha => k a (List.mem_append_left _ ha), Reps.keep s ds vs' L2 h2 fun a ha => k a (List.mem_append_right _ ha)⟩
end
mutual
theorem Rep.dom : ∀ (d : D) (v : V) (L : List Addr), Rep K H d v L -> ∀ a ∈ L, (∃ vs, H a = some (.lst vs)) \/ ∃ kvs, H a = some (.dK kvs)
  | .non, _, _, h, a, ha => by rw [h.2] at ha; cases ha
  | .bl _, _, _, h, a, ha => by rw [h.2] at ha; cases ha
  | .int _, _, _, h, a, ha => by rw [h.2] at ha; cases ha
  | .str _, _, _, h, a, ha => by rw [h.2] at ha; cases ha
  | .tup ds, _, L, hq3, b, hb => by
    obtain ⟨a, vs, e, h, r⟩ := hq3
    exact Reps.dom ds vs L r b hb
  | .lst ds, _, L, hq3, b, hb => by
      obtain ⟨a, vs, L', e, h1, h2, h3⟩ := hq3
      subst h2
      rcases List.mem_cons.mp hb with z | z
      · subst z; exact .inl ⟨vs, h1⟩
      · exact Reps.dom ds vs L' h3 b z
  | .frl ds, _, L, hq3, b, hb => by
    obtain ⟨a, vs, e, h1, h2, h3, h4⟩ := hq3
    rw [h2] at hb; cases hb
  | .dic ks ds, _, L, hq3, b, hb => by
      obtain ⟨a, kvs, L', e, h1, h2, h3, h4, h5⟩ := hq3
      subst h2
      rcases List.mem_cons.mp hb with z | z
      · subst z; exact .inr ⟨kvs, h1⟩
      · exact Reps.dom ds _ L' h5 b z
theorem Reps.dom : ∀ (ds : List D) (vs : List V) (L : List Addr), Reps K H ds vs L -> ∀ a ∈ L, (∃ vs, H a = some (.lst vs)) \/ ∃ kvs, H a = some (.dK kvs)
  | [], _, _, h, a, ha => by rw [h.2] at ha; cases ha
  | d :: ds, _, _, hq3, a, ha => by
    obtain ⟨v, vs', L1, L2, e1, e2, h1, h2⟩ := hq3
    subst e2
    rcases List.mem_append.mp ha with z | z
    · exact Rep.dom d v L1 h1 a z
    · exact Reps.dom ds vs' L2 h2 a z
end
mutual
theorem Rep.imm : ∀ (d : D) (v : V) (L : List Addr), Rep K H d v L -> d.imm = true -> L = []
  | .non, _, _, h, _ => h.2
  | .bl _, _, _, h, _ => h.2
  | .int _, _, _, h, _ => h.2
  | .str _, _, _, h, _ => h.2
  | .tup ds, _, L, hq3, h => by
    obtain ⟨_, vs, _, _, r⟩ := hq3
    exact Reps.imm ds vs L r h
  | .lst _, _, _, _, h => nomatch h
  | .dic _ _, _, _, _, h => nomatch h
  | .frl _, _, _, hq3, _ => by
    obtain ⟨_, _, _, _, h, _⟩ := hq3
    exact h
theorem Reps.imm : ∀ (ds : List D) (vs : List V) (L : List Addr), Reps K H ds vs L -> D.imms ds = true -> L = []
  | [], _, _, h, _ => h.2
  | d :: ds, _, _, hq3, h => by
    obtain ⟨v, vs', L1, L2, _, e2, h1, h2⟩ := hq3
    have h : (d.imm && D.imms ds) = true := h
    rw [Bool.and_eq_true] at h
    rw [e2, Rep.imm d v L1 h1 h.1, Reps.imm ds vs' L2 h2 h.2]; rfl
end
theorem Rep.there {d : D} {v : V} {L : List Addr} (h : Rep K H d v L) {a : Addr} (ha : a ∈ L) : H a ≠ none := by
  rcases Rep.dom d v L h a ha with ⟨_, e⟩ | ⟨_, e⟩ <;> rw [e] <;> simp
theorem Reps.there {d : List D} {v : List V} {L : List Addr} (h : Reps K H d v L) {a : Addr} (ha : a ∈ L) : H a ≠ none := by
  rcases Reps.dom d v L h a ha with ⟨_, e⟩ | ⟨_, e⟩ <;> rw [e] <;> simp
theorem Same.at {a : Addr} (s : Same H H') (h : H a ≠ none) : H' a = H a := by
  cases e : H a with
  | none => exact absurd e h
  | some o => exact s a o e
theorem Rep.same {d : D} {v : V} {L : List Addr} (h : Rep K H d v L) (s : Same H H') : Rep K H' d v L := Rep.keep s.tf d v L h fun _ ha => s.at (h.there ha)
theorem Reps.same {d : List D} {v : List V} {L : List Addr} (h : Reps K H d v L) (s : Same H H') : Reps K H' d v L := Reps.keep s.tf d v L h fun _ ha => s.at (h.there ha)
theorem Reps.length : ∀ {ds : List D} {vs : List V} {L : List Addr}, Reps K H ds vs L -> vs.length = ds.length
  | [], _, _, hq3 => by
    obtain ⟨e, _⟩ := hq3
    rw [e]; rfl
  | d :: ds, _, _, hq3 => by
    obtain ⟨v, vs', L1, L2, e1, e2, h1, h2⟩ := hq3
    rw [e1, List.length_cons, List.length_cons, Reps.length h2]
theorem Reps.nil : Reps K H [] [] [] := ⟨rfl, rfl⟩
theorem Reps.cons {d : D} {v : V} {L1 : List Addr} {ds : List D} {vs : List V} {L2 : List Addr} (h : Rep K H d v L1) (t : Reps K H ds vs L2) : Reps K H (d :: ds) (v :: vs) (L1 ++ L2) := ⟨v, vs, L1, L2, rfl, rfl, h, t⟩
theorem Reps.get : ∀ {ds : List D} {vs : List V} {L : List Addr} {i : Nat} {d : D}, Reps K H ds vs L -> ds[i]? = some d -> ∃ v L1, vs[i]? = some v /\ Rep K H d v L1 /\ List.Sublist L1 L
  | [], _, _, _, _, _, e => by simp at e
  | d :: ds, _, _, 0, _, hq5, e => by
    obtain ⟨v, vs', L1, L2, e1, e2, h1, h2⟩ := hq5
    subst e1 e2
    simp at e
    subst e
    exact ⟨v, L1, rfl, h1, List.sublist_append_left _ _⟩
  | d :: ds, _, _, i + 1, d', hq5, e => by
    obtain ⟨v, vs', L1, L2, e1, e2, h1, h2⟩ := hq5
    subst e1 e2
    obtain ⟨v', L', a, b, c⟩ := Reps.get (i := i) (d := d') h2 (by simpa using e)
    exact ⟨v', L', by simpa using a, b, c.trans (List.sublist_append_right _ _)⟩
theorem Reps.append : ∀ {ds ds' : List D} {vs vs' : List V} {L L' : List Addr}, Reps K H ds vs L -> Reps K H ds' vs' L' -> Reps K H (ds ++ ds') (vs ++ vs') (L ++ L')
  | [], _, _, _, _, _, hq6, h => by
    obtain ⟨e1, e2⟩ := hq6
    subst e1 e2; exact h
  | d :: ds, _, _, _, _, _, hq6, h => by
    obtain ⟨v, vs', L1, L2, e1, e2, h1, h2⟩ := hq6
    subst e1 e2
    have := Reps.cons h1 (Reps.append h2 h)
    rw [<- List.append_assoc] at this
    exact this
theorem Reps.take : ∀ {ds : List D} {vs : List V} {L : List Addr} (n : Nat), Reps K H ds vs L -> ∃ L', Reps K H (ds.take n) (vs.take n) L' /\ List.Sublist L' L
  | _, _, _, 0, _ => ⟨[], by simpa using Reps.nil, List.nil_sublist _⟩
  | [], _, _, n + 1, hq4 => by
    obtain ⟨e1, e2⟩ := hq4
    subst e1 e2; exact ⟨[], by simpa using Reps.nil, List.nil_sublist _⟩
  | d :: ds, _, _, n + 1, hq4 => by
    obtain ⟨v, vs', L1, L2, e1, e2, h1, h2⟩ := hq4
    subst e1 e2
    obtain ⟨L', a, b⟩ := Reps.take n h2
    exact ⟨L1 ++ L', by simpa using Reps.cons h1 a, List.Sublist.append (List.Sublist.refl _) b⟩
theorem Reps.drop : ∀ {ds : List D} {vs : List V} {L : List Addr} (n : Nat), Reps K H ds vs L -> ∃ L', Reps K H (ds.drop n) (vs.drop n) L' /\ List.Sublist L' L
  | _, _, L, 0, h => ⟨L, by simpa using h, List.Sublist.refl _⟩
  | [], _, _, n + 1, hq4 => by
    obtain ⟨e1, e2⟩ := hq4
    subst e1 e2; exact ⟨[], by simpa using Reps.nil, List.nil_sublist _⟩
  | d :: ds, _, _, n + 1, hq4 => by
    obtain ⟨v, vs', L1, L2, e1, e2, h1, h2⟩ := hq4
    subst e1 e2
    obtain ⟨L', a, b⟩ := Reps.drop n h2
    exact ⟨L', by simpa using a, b.trans (List.sublist_append_right _ _)⟩
end
end L2
set_option maxRecDepth 100000
set_option maxHeartbeats 4000000
namespace L2
open PySem PySem.Spec PyProof.Rows
noncomputable abbrev Tn := List (Option D)
inductive Cl where
  | own | shr | brw | dead
  deriving DecidableEq
inductive Rc where
  | fresh | shr | bor
  deriving DecidableEq
structure EOk (K : PySem.W.Frag) (Γ : List Cl) (O : Addr -> Prop) (H : Hp) (σ : St) (τ : Tn) : Prop where
  dom : ∀ a, O a -> H a ≠ none
  slot : ∀ (i : Nat) (c : Cl), Γ[i]? = some c -> c ≠ .dead -> ∃ v d L, σ[i]? = some (some v) /\ τ[i]? = some (some d) /\ Rep K H d v L /\ (c = .shr -> ∀ a ∈ L, ¬ O a)
noncomputable def RcOk (c : Rc) (O : Addr -> Prop) (H : Hp) (L : List Addr) : Prop := match c with
  | .fresh => L.Nodup /\ ∀ a ∈ L, H a = none
  | .shr => ∀ a ∈ L, ¬ O a
  | .bor => True
noncomputable def post (K : PySem.W.Frag) (E : XK) (O : Addr -> Prop) (c : Rc) (H : Hp) (Q : VK) : R D -> Prop
  | .ok d => ∀ v H' L, Same H H' -> Rep K H' d v L -> RcOk c O H L -> Q v H'
  | .err n => ∀ C H', ErrC K n C -> Same H H' -> E (.ref C) none H'
  | .bad => False
noncomputable def postL (K : PySem.W.Frag) (E : XK) (O : Addr -> Prop) (c : Rc) (H : Hp) (Q : List V -> Hp -> Prop) : R (List D) -> Prop
  | .ok ds => ∀ vs H' L, Same H H' -> Reps K H' ds vs L -> RcOk c O H L -> Q vs H'
  | .err n => ∀ C H', ErrC K n C -> Same H H' -> E (.ref C) none H'
  | .bad => False
noncomputable def postB (K : PySem.W.Frag) (E : XK) (H : Hp) (Q : Bool -> Hp -> Prop) : R Bool -> Prop
  | .ok b => ∀ H', Same H H' -> Q b H'
  | .err n => ∀ C H', ErrC K n C -> Same H H' -> E (.ref C) none H'
  | .bad => False
section
variable {K : PySem.W.Frag} {Γ : List Cl} {O : Addr -> Prop} {H H1 : Hp} {σ : St} {τ : Tn} {E : XK} {c : Rc} {Q : VK}
theorem EOk.same (e : EOk K Γ O H σ τ) (s : Same H H1) : EOk K Γ O H1 σ τ :=
  ⟨fun a h => by rw [s.at (e.dom a h)]; exact e.dom a h, fun i c h1 h2 => by
    obtain ⟨v, d, L, a1, a2, a3, a4⟩ := e.slot i c h1 h2
    exact ⟨v, d, L, a1, a2, a3.same s, a4⟩⟩
theorem RcOk.same {L : List Addr} (h : RcOk c O H1 L) (s : Same H H1) : RcOk c O H L := by
  cases c with
  | fresh => exact ⟨h.1, fun a ha => s.non (h.2 a ha)⟩
  | shr => exact h
  | bor => exact h
theorem RcOk.shr {L : List Addr} (dom : ∀ a, O a -> H a ≠ none) (hc : c ≠ .bor) (h : RcOk c O H L) : ∀ a ∈ L, ¬ O a := by
  cases c with
  | fresh => exact fun a ha ho => dom a ho (h.2 a ha)
  | shr => exact h
  | bor => exact absurd rfl hc
theorem RcOk.nil : RcOk c O H [] := by
  cases c with
  | fresh => exact ⟨List.nodup_nil, fun a ha => by cases ha⟩
  | shr => exact fun a ha => by cases ha
  | bor => trivial
theorem post.same {r : R D} (h : post K E O c H Q r) (s : Same H H1) : post K E O c H1 Q r := by
  cases r with
  | ok d => exact fun v H' L s' r' c' => h v H' L (s.trans s') r' (c'.same s)
  | err n => exact fun C H' e s' => h C H' e (s.trans s')
  | bad => exact h
theorem postL.same {Q : List V -> Hp -> Prop} {r : R (List D)} (h : postL K E O c H Q r) (s : Same H H1) : postL K E O c H1 Q r := by
  cases r with
  | ok d => exact fun v H' L s' r' c' => h v H' L (s.trans s') r' (c'.same s)
  | err n => exact fun C H' e s' => h C H' e (s.trans s')
  | bad => exact h
theorem postB.same {Q : Bool -> Hp -> Prop} {r : R Bool} (h : postB K E H Q r) (s : Same H H1) : postB K E H1 Q r := by
  cases r with
  | ok d => exact fun H' s' => h H' (s.trans s')
  | err n => exact fun C H' e s' => h C H' e (s.trans s')
  | bad => exact h
end
noncomputable def ME (X : Cx) (E : XK) (Γ : List Cl) (e : Expr) (t : Tn -> R D) (c : Rc) : Prop :=
  ∃ te, PE X e te /\ ∀ O σ H τ Q, EOk X.K Γ O H σ τ -> post X.K E O c H Q (t τ) -> te σ H Q
noncomputable def MA (X : Cx) (E : XK) (Γ : List Cl) (es : List Expr) (t : Tn -> R (List D)) (c : Rc) : Prop :=
  (∀ τ ds, t τ = .ok ds -> ds.length = es.length) /\ ∃ ta, PA X es ta /\ ∀ O σ H τ Q, EOk X.K Γ O H σ τ -> postL X.K E O c H Q (t τ) -> ta σ H Q
noncomputable def MT (X : Cx) (E : XK) (Γ : List Cl) (e : Expr) (t : Tn -> R Bool) : Prop :=
  ∃ te, PT X e te /\ ∀ O σ H τ Q, EOk X.K Γ O H σ τ -> postB X.K E H Q (t τ) -> te σ H Q
noncomputable def MW (X : Cx) (E : XK) (Γ : List Cl) (e : Expr) (t : Tn -> R Bool) : Prop :=
  ∃ te, PW X e te /\ ∀ O σ H τ Q, EOk X.K Γ O H σ τ -> postB X.K E H Q (t τ) -> te σ H Q
theorem MW.mt {X : Cx} {E : XK} {Γ : List Cl} {e : Expr} {t : Tn -> R Bool} (h : MW X E Γ e t) : MT X E Γ e t := by
  obtain ⟨te, p, q⟩ := h
  exact ⟨te, p.pt, q⟩
noncomputable def Rc.of : Cl -> Rc
  | .shr => .shr
  | _ => .bor
noncomputable def Rc.both : Rc -> Rc -> Rc
  | .fresh, .fresh => .fresh
  | .bor, _ => .bor
  | _, .bor => .bor
  | _, _ => .shr
noncomputable def eVar (i : Nat) : Tn -> R D := fun τ => match τ[i]? with
  | some (some d) => .ok d
  | _ => .bad
noncomputable def eC (d : D) : Tn -> R D := fun _ => .ok d
noncomputable def eImm (t : Tn -> R D) : Tn -> R D := fun τ => (t τ).bind fun d => if d.imm = true then .ok d else .bad
noncomputable def eBin (g : D -> D -> R D) (a b : Tn -> R D) : Tn -> R D := fun τ => (a τ).bind fun x => (b τ).bind fun y => g x y
noncomputable def eUn (g : D -> R D) (a : Tn -> R D) : Tn -> R D := fun τ => (a τ).bind g
noncomputable def aNil : Tn -> R (List D) := fun _ => .ok []
noncomputable def aCons (a : Tn -> R D) (b : Tn -> R (List D)) : Tn -> R (List D) := fun τ => (a τ).bind fun x => (b τ).bind fun xs => .ok (x :: xs)
noncomputable def eL (g : List D -> R D) (a : Tn -> R (List D)) : Tn -> R D := fun τ => (a τ).bind g
noncomputable def asB : D -> R Bool
  | .bl b => .ok b
  | _ => .bad
noncomputable def eTest (a : Tn -> R D) : Tn -> R Bool := fun τ => (a τ).bind asB
noncomputable def bOr (a b : Tn -> R Bool) : Tn -> R Bool := fun τ => (a τ).bind fun x => if x = true then .ok true else b τ
noncomputable def bNot (a : Tn -> R Bool) : Tn -> R Bool := fun τ => (a τ).bind fun x => .ok (!x)
noncomputable def eAnd (a b : Tn -> R D) : Tn -> R D := fun τ => (a τ).bind fun x => (asB x).bind fun k => if k = true then b τ else .ok (.bl false)
noncomputable def eNot (a : Tn -> R D) : Tn -> R D := fun τ => (a τ).bind fun x => (asB x).bind fun k => .ok (.bl (!k))
noncomputable def eChain (g g' : D -> D -> R D) (a b c : Tn -> R D) : Tn -> R D := fun τ => (a τ).bind fun x => (b τ).bind fun y => (g x y).bind fun z => (asB z).bind fun k => if k = true then (c τ).bind fun w => g' y w else .ok (.bl false)
section
variable {X : Cx} {E : XK} {Γ : List Cl} {e a b : Expr} {t ta tb tc : Tn -> R D} {c ca cb : Rc} {pos : Pos}
theorem me_name {i : Nat} {x : Str} {k : Cl} (hN : X.N[i]? = some x) (hk : Γ[i]? = some k) (hd : k ≠ .dead) (hv : Vis X.env.scope x) (hb : autoParam ((x == ("__debug__" : Str)) = false) L2.au1._auto_1) (hcd : autoParam ((x == ("__classdict__" : Str)) = false) L2.au1._auto_1) :
    ME X E Γ (.Name x pos) (eVar i) (Rc.of k) := by
  refine ⟨tVar i, pe_var hN hv hb hcd, fun O σ H τ Q ok h => ?_⟩
  obtain ⟨v, d, L, e1, e2, e3, e4⟩ := ok.slot i k hk hd
  unfold eVar at h
  rw [e2] at h
  refine ⟨v, e1, h v H L (Same.refl H) e3 ?_⟩
  cases k with
  | shr => exact e4 rfl
  | own => trivial
  | brw => trivial
  | dead => trivial
theorem me_c {d : D} {v : V} (hp : PE X e (tC v)) (hr : ∀ H, Rep X.K H d v []) : ME X E Γ e (eC d) .fresh :=
  ⟨tC v, hp, fun O σ H τ Q ok h => h v H [] (Same.refl H) (hr H) RcOk.nil⟩
theorem me_int {i : Int} {j} : ME X E Γ (.Constant (.int i) j pos) (eC (.int i)) .fresh := me_c pe_int fun _ => ⟨rfl, rfl⟩
theorem me_bl {i : Bool} {j} : ME X E Γ (.Constant (.bool i) j pos) (eC (.bl i)) .fresh := me_c pe_bl fun _ => ⟨rfl, rfl⟩
theorem me_non {j} : ME X E Γ (.Constant .none j pos) (eC .non) .fresh := me_c pe_non fun _ => ⟨rfl, rfl⟩
theorem me_str {x : Str} {j} : ME X E Γ (.Constant (.str x) j pos) (eC (.str x)) .fresh := me_c pe_str fun _ => ⟨rfl, rfl⟩
theorem me_imm (h : ME X E Γ e t c) : ME X E Γ e (eImm t) .fresh := by
  obtain ⟨te, p, q⟩ := h
  refine ⟨te, p, fun O σ H τ Q ok h => q O σ H τ Q ok ?_⟩
  unfold eImm at h
  cases ht : t τ with
  | ok d =>
    rw [ht] at h
    refine fun v H' L s r k => ?_
    rw [R.ok_bind] at h
    by_cases hi : d.imm = true
    · rw [if_pos hi] at h
      have := Rep.imm d v L r hi
      subst this
      exact h v H' [] s r RcOk.nil
    · rw [if_neg hi] at h; exact h.elim
  | err n => rw [ht] at h; exact h
  | bad => rw [ht] at h; exact h
theorem post.bind {K : PySem.W.Frag} {O : Addr -> Prop} {H : Hp} {Q Q' : VK} {r : R D} {f : D -> R D} (h : post K E O c H Q (r.bind f)) (hf : ∀ d, r = .ok d -> post K E O c H Q (f d) -> ∀ v H' L, Same H H' -> Rep K H' d v L -> RcOk ca O H L -> Q' v H') : post K E O ca H Q' r := by
  cases r with
  | ok d => exact hf d rfl h
  | err n => exact h
  | bad => exact h
theorem ma_nil : MA X E Γ [] aNil .fresh := ⟨fun τ ds h => by cases h; rfl, tNil, pa_nil, fun O σ H τ Q ok h => h [] H [] (Same.refl H) Reps.nil RcOk.nil⟩
theorem RcOk.append {K : PySem.W.Frag} {O : Addr -> Prop} {H H1 : Hp} {d : D} {v : V} {L1 L2 : List Addr} (dom : ∀ a, O a -> H a ≠ none) (s : Same H H1) (r : Rep K H1 d v L1) (h1 : RcOk ca O H L1) (h2 : RcOk cb O H1 L2) : RcOk (Rc.both ca cb) O H (L1 ++ L2) := by
  have dom1 : ∀ a, O a -> H1 a ≠ none := fun a h => by rw [s.at (dom a h)]; exact dom a h
  by_cases hf : ca = .fresh /\ cb = .fresh
  · obtain ⟨rfl, rfl⟩ := hf
    refine ⟨List.nodup_append.mpr ⟨h1.1, h2.1, fun a ha b hb z => ?_⟩, fun a ha => ?_⟩
    · subst z
      exact r.there ha (h2.2 a hb)
    · rcases List.mem_append.mp ha with z | z
      · exact h1.2 a z
      · exact s.non (h2.2 a z)
  · have key : ca ≠ .bor -> cb ≠ .bor -> ∀ a ∈ L1 ++ L2, ¬ O a := fun n1 n2 a ha => by
      rcases List.mem_append.mp ha with z | z
      · exact h1.shr dom n1 a z
      · exact h2.shr dom1 n2 a z
    cases ca <;> cases cb <;> first | exact absurd ⟨rfl, rfl⟩ hf | trivial | exact key (by simp) (by simp)
theorem ma_cons {es : List Expr} {u : Tn -> R (List D)} (h : ME X E Γ e t ca) (r : MA X E Γ es u cb) (hs : autoParam (starEach (e :: es) X.env = (false, eval e X.env) :: starEach es X.env) L2.au3._auto_1) : MA X E Γ (e :: es) (aCons t u) (Rc.both ca cb) := by
  obtain ⟨te, p1, q1⟩ := h
  obtain ⟨hl, ta, p2, q2⟩ := r
  refine ⟨fun τ ds h => ?_, tCons te ta, pa_cons p1 p2 hs, fun O σ H τ Q ok h => ?_⟩
  · unfold aCons at h
    cases h1 : t τ with
    | ok d =>
      rw [h1, R.ok_bind] at h
      cases h2 : u τ with
      | ok xs =>
        rw [h2, R.ok_bind] at h
        cases h
        rw [List.length_cons, List.length_cons, hl τ xs h2]
      | err n => rw [h2] at h; cases h
      | bad => rw [h2] at h; cases h
    | err n => rw [h1] at h; cases h
    | bad => rw [h1] at h; cases h
  · unfold aCons at h
    refine q1 O σ H τ _ ok ?_
    cases h1 : t τ with
    | ok d =>
      rw [h1, R.ok_bind] at h
      refine fun v H1 L1 s1 r1 k1 => q2 O σ H1 τ _ (ok.same s1) ?_
      cases h2 : u τ with
      | ok xs =>
        rw [h2, R.ok_bind] at h
        exact fun vs H2 L2 s2 r2 k2 => h (v :: vs) H2 (L1 ++ L2) (s1.trans s2) (Reps.cons (r1.same s2) r2) (RcOk.append ok.dom s1 r1 k1 k2)
      | err n => rw [h2] at h; exact fun C H' e s' => h C H' e (s1.trans s')
      | bad => rw [h2] at h; exact h
    | err n => rw [h1] at h; exact h
    | bad => rw [h1] at h; exact h
theorem me_tup {es : List Expr} {u : Tn -> R (List D)} {x1} (h : MA X E Γ es u c) (hz : autoParam (es.length <= 1000) L2.au1._auto_1) : ME X E Γ (.Tuple es x1 pos) (eL (fun ds => .ok (.tup ds)) u) c := by
  obtain ⟨hl, ta, p, q⟩ := h
  refine ⟨tTup ta, pe_tup p, fun O σ H τ Q ok h => q O σ H τ _ ok ?_⟩
  unfold eL at h
  have hs : sizeLine = 16777216 := sizeLine_eq
  cases hu : u τ with
  | ok ds =>
    rw [hu, R.ok_bind] at h
    refine fun vs H1 L s r k => ⟨by rw [r.length, hl τ ds hu]; lia, fun p hp => ?_⟩
    refine h _ _ L (s.trans (Same.new hp)) ⟨p, vs, rfl, SqT.of upd_same, r.same (Same.new hp)⟩ k
  | err n => rw [hu] at h; exact h
  | bad => rw [hu] at h; exact h
theorem me_lst {es : List Expr} {u : Tn -> R (List D)} (h : MA X E Γ es u c) (hz : autoParam (es.length <= 1000) L2.au1._auto_1) : ME X E Γ (.List es pos) (eL (fun ds => .ok (.lst ds)) u) c := by
  obtain ⟨hl, ta, p, q⟩ := h
  refine ⟨tLst ta, pe_lst p, fun O σ H τ Q ok h => q O σ H τ _ ok ?_⟩
  unfold eL at h
  have hs : sizeLine = 16777216 := sizeLine_eq
  cases hu : u τ with
  | ok ds =>
    rw [hu, R.ok_bind] at h
    refine fun vs H1 L s r k => ⟨by rw [r.length, hl τ ds hu]; lia, fun p hp => ?_⟩
    refine h _ _ (p :: L) (s.trans (Same.new hp)) ⟨p, vs, L, rfl, upd_same, rfl, r.same (Same.new hp)⟩ ?_
    have np : H p = none := s.non hp
    cases c with
    | fresh =>
      refine ⟨List.nodup_cons.mpr ⟨fun z => r.there z hp, k.1⟩, fun a ha => ?_⟩
      rcases List.mem_cons.mp ha with z | z
      · rw [z]; exact np
      · exact k.2 a z
    | shr =>
      intro a ha
      rcases List.mem_cons.mp ha with z | z
      · rw [z]; exact fun o => ok.dom p o np
      · exact k a z
    | bor => trivial
  | err n => rw [hu] at h; exact h
  | bad => rw [hu] at h; exact h
theorem mt_val (h : ME X E Γ e t c) (he : autoParam (∀ whole, isTrue e X.env whole = (do let v <- whole; standAt e.pos; holding [v] (truthy v))) L2.au2._auto_1) : MT X E Γ e (eTest t) := by
  obtain ⟨te, p, q⟩ := h
  refine ⟨tB te, pt_val p he, fun O σ H τ Q ok h => q O σ H τ _ ok ?_⟩
  unfold eTest at h
  cases ht : t τ with
  | ok d =>
    rw [ht, R.ok_bind] at h
    refine fun v H' L s r _ => ?_
    cases d with
    | bl k => exact ⟨k, r.1, h H' s⟩
    | _ => exact h.elim
  | err n => rw [ht] at h; exact h
  | bad => rw [ht] at h; exact h
variable {u v : Tn -> R Bool} {rest : List Expr}
theorem mt_not (h : MT X E Γ a u) : MT X E Γ (.UnaryOp .Not a pos) (bNot u) := by
  obtain ⟨te, p, q⟩ := h
  refine ⟨tNot te, pt_not p, fun O σ H τ Q ok h => q O σ H τ _ ok ?_⟩
  unfold bNot at h
  cases ht : u τ with
  | ok d => rw [ht, R.ok_bind] at h; exact h
  | err n => rw [ht] at h; exact h
  | bad => rw [ht] at h; exact h
theorem mw_or1 (h : MT X E Γ a u) : MW X E Γ (.BoolOp .Or [a] pos) u := by
  obtain ⟨te, p, q⟩ := h
  exact ⟨te, pw_or1 p, q⟩
theorem mw_or (h : MT X E Γ a u) (r : MW X E Γ (.BoolOp .Or (b :: rest) pos) v) : MW X E Γ (.BoolOp .Or (a :: b :: rest) pos) (bOr u v) := by
  obtain ⟨te, p, q⟩ := h
  obtain ⟨te', p', q'⟩ := r
  refine ⟨tOr te te', pw_or p p', fun O σ H τ Q ok h => q O σ H τ _ ok ?_⟩
  unfold bOr at h
  cases ht : u τ with
  | ok d =>
    rw [ht, R.ok_bind] at h
    refine fun H1 s1 => ?_
    cases d with
    | true => rw [if_pos rfl] at h ⊢; exact h H1 s1
    | false => rw [if_neg Bool.false_ne_true] at h ⊢; exact q' O σ H1 τ Q (ok.same s1) (h.same s1)
  | err n => rw [ht] at h; exact h
  | bad => rw [ht] at h; exact h
theorem me_one {op} (h : ME X E Γ a t c) : ME X E Γ (.BoolOp op [a] pos) t c := by
  obtain ⟨te, p, q⟩ := h
  exact ⟨te, pe_one p, q⟩
theorem asB_post {K : PySem.W.Frag} {O : Addr -> Prop} {H : Hp} {Q : VK} {d : D} {f : Bool -> R D} (h : post K E O c H Q ((asB d).bind f)) {v : V} {H' : Hp} {L : List Addr} (r : Rep K H' d v L) : ∃ k, v = .bl k /\ d = .bl k /\ post K E O c H Q (f k) := by
  cases d with
  | bl k => exact ⟨k, r.1, rfl, h⟩
  | _ => exact h.elim
theorem me_and (ha : ME X E Γ a ta ca) (hb : ME X E Γ (.BoolOp .And (b :: rest) pos) tb c) : ME X E Γ (.BoolOp .And (a :: b :: rest) pos) (eAnd ta tb) c := by
  obtain ⟨te, p, q⟩ := ha
  obtain ⟨te', p', q'⟩ := hb
  refine ⟨tAndV te te', pe_and p p', fun O σ H τ Q ok h => q O σ H τ _ ok (post.bind h fun d _ h v H1 L s r _ => ?_)⟩
  obtain ⟨k, e1, e2, h⟩ := asB_post h r
  refine ⟨k, e1, ?_⟩
  cases k with
  | true => rw [if_pos rfl] at h ⊢; exact q' O σ H1 τ Q (ok.same s) (h.same s)
  | false => rw [if_neg Bool.false_ne_true] at h ⊢; exact h _ H1 [] s ⟨rfl, rfl⟩ RcOk.nil
theorem me_not (ha : ME X E Γ a ta ca) : ME X E Γ (.UnaryOp .Not a pos) (eNot ta) .fresh := by
  obtain ⟨te, p, q⟩ := ha
  refine ⟨tNotV te, pe_not p, fun O σ H τ Q ok h => q O σ H τ _ ok (post.bind h fun d _ h v H1 L s r _ => ?_)⟩
  obtain ⟨k, e1, e2, h⟩ := asB_post h r
  exact ⟨k, e1, h _ H1 [] s ⟨rfl, rfl⟩ RcOk.nil⟩
noncomputable def OpB (K : PySem.W.Frag) (r : R2) (g : D -> D -> R D) : Prop :=
  ∀ H x y dx dy Lx Ly (Q : VK), Rep K H dx x Lx -> Rep K H dy y Ly -> (∃ d, g dx dy = .ok d /\ ∀ v H' L, Same H H' -> Rep K H' d v L -> L.Nodup -> (∀ a ∈ L, H a = none) -> Q v H') -> r x y H Q
noncomputable def NoErr (g : D -> D -> R D) : Prop := ∀ x y n, g x y ≠ .err n
theorem bin_go {r : R2} {g : D -> D -> R D} {te te' : TE} (hB : OpB X.K r g) (hn : NoErr g) (q : ∀ O σ H τ Q, EOk X.K Γ O H σ τ -> post X.K E O ca H Q (ta τ) -> te σ H Q) (q' : ∀ O σ H τ Q, EOk X.K Γ O H σ τ -> post X.K E O cb H Q (tb τ) -> te' σ H Q)
    {O : Addr -> Prop} {σ : St} {H : Hp} {τ : Tn} {Q : VK} (ok : EOk X.K Γ O H σ τ) (h : post X.K E O .fresh H Q (eBin g ta tb τ)) : tOp r te te' σ H Q := by
  unfold eBin at h
  refine q O σ H τ _ ok (post.bind h fun dx _ h x H1 Lx s1 rx _ => q' O σ H1 τ _ (ok.same s1) (post.bind (h.same s1) fun dy _ h y H2 Ly s2 ry _ => ?_))
  cases hg : g dx dy with
  | ok d =>
    rw [hg] at h
    exact hB H2 x y dx dy Lx Ly Q (rx.same s2) ry ⟨d, hg, fun v H' L s r n1 n2 => h v H' L (s2.trans s) r ⟨n1, fun a ha => s2.non (n2 a ha)⟩⟩
  | err n => exact absurd hg (hn _ _ _)
  | bad => rw [hg] at h; exact h.elim
theorem me_op {op : Operator} {r : R2} {g : D -> D -> R D} (ho : OpR X (binaryOp op) r) (hB : OpB X.K r g) (hn : NoErr g) (ha : ME X E Γ a ta ca) (hb : ME X E Γ b tb cb) : ME X E Γ (.BinOp a op b pos) (eBin g ta tb) .fresh := by
  obtain ⟨te, p, q⟩ := ha
  obtain ⟨te', p', q'⟩ := hb
  exact ⟨_, pe_op ho p p', fun O σ H τ Q ok h => bin_go hB hn q q' ok h⟩
theorem me_cmp {op : CmpOp} {r : R2} {g : D -> D -> R D} (ho : OpR X (compareOp op) r) (hB : OpB X.K r g) (hn : NoErr g) (ha : ME X E Γ a ta ca) (hb : ME X E Γ b tb cb) (hm : behindInMarks op b = false) : ME X E Γ (.Compare a [op] [b] pos) (eBin g ta tb) .fresh := by
  obtain ⟨te, p, q⟩ := ha
  obtain ⟨te', p', q'⟩ := hb
  exact ⟨_, pe_cmpR ho p p' hm, fun O σ H τ Q ok h => bin_go hB hn q q' ok h⟩
theorem test_post {K : PySem.W.Frag} {O : Addr -> Prop} {H : Hp} {Q : Bool -> Hp -> Prop} {r : R D} (h : postB K E H Q (r.bind asB)) : post K E O c H (fun x H' => ∃ k, x = .bl k /\ Q k H') r := by
  cases r with
  | ok d =>
    refine fun v H' L s r _ => ?_
    cases d with
    | bl k => exact ⟨k, r.1, h H' s⟩
    | _ => exact h.elim
  | err n => exact h
  | bad => exact h
theorem mt_cmp {op : CmpOp} {r : R2} {g : D -> D -> R D} (ho : OpR X (compareOp op) r) (hB : OpB X.K r g) (hn : NoErr g) (ha : ME X E Γ a ta ca) (hb : ME X E Γ b tb cb) (hm : behindInMarks op b = false) : MT X E Γ (.Compare a [op] [b] pos) (eTest (eBin g ta tb)) := by
  obtain ⟨te, p, q⟩ := ha
  obtain ⟨te', p', q'⟩ := hb
  exact ⟨_, pt_cmpR ho p p' hm, fun O σ H τ Q ok h => bin_go (O := O) hB hn q q' ok (test_post h)⟩
theorem chain_go {c' : Expr} {cc : Rc} {r r' : R2} {g g' : D -> D -> R D} {te te' te2 : TE} (hB : OpB X.K r g) (hn : NoErr g) (hB' : OpB X.K r' g') (hn' : NoErr g') (q : ∀ O σ H τ Q, EOk X.K Γ O H σ τ -> post X.K E O ca H Q (ta τ) -> te σ H Q) (q' : ∀ O σ H τ Q, EOk X.K Γ O H σ τ -> post X.K E O cb H Q (tb τ) -> te' σ H Q)
    (q2 : ∀ O σ H τ Q, EOk X.K Γ O H σ τ -> post X.K E O cc H Q (tc τ) -> te2 σ H Q) {O : Addr -> Prop} {σ : St} {H : Hp} {τ : Tn} {Q : VK} (ok : EOk X.K Γ O H σ τ) (h : post X.K E O .fresh H Q (eChain g g' ta tb tc τ)) : tChain r r' te te' te2 σ H Q := by
  unfold eChain at h
  refine q O σ H τ _ ok (post.bind h fun dx _ h x H1 Lx s1 rx _ => q' O σ H1 τ _ (ok.same s1) (post.bind (h.same s1) fun dy _ h y H2 Ly s2 ry _ => ?_))
  cases hg : g dx dy with
  | ok d =>
    rw [hg, R.ok_bind] at h
    refine hB H2 x y dx dy Lx Ly _ (rx.same s2) ry ⟨d, hg, fun z H3 L s3 r3 n1 n2 => ?_⟩
    obtain ⟨k, e1, e2, h⟩ := asB_post (h.same s2) r3
    refine ⟨k, e1, ?_⟩
    cases k with
    | true =>
      rw [if_pos rfl] at h ⊢
      have ok3 := ((ok.same s1).same s2).same s3
      refine q2 O σ H3 τ _ ok3 (post.bind (h.same s3) fun dw _ h w H4 Lw s4 rw4 _ => ?_)
      cases hg' : g' dy dw with
      | ok d' =>
        rw [hg'] at h
        exact hB' H4 y w dy dw Ly Lw Q ((ry.same s3).same s4) rw4 ⟨d', hg', fun v H' L s r n1 n2 => h v H' L (s4.trans s) r ⟨n1, fun a ha => s4.non (n2 a ha)⟩⟩
      | err n => exact absurd hg' (hn' _ _ _)
      | bad => rw [hg'] at h; exact h.elim
    | false => rw [if_neg Bool.false_ne_true] at h ⊢; exact h _ H3 [] s3 ⟨rfl, rfl⟩ RcOk.nil
  | err n => exact absurd hg (hn _ _ _)
  | bad => rw [hg] at h; exact h.elim
theorem me_chain {op op' : CmpOp} {c' : Expr} {cc : Rc} {r r' : R2} {g g' : D -> D -> R D} (ho : OpR X (compareOp op) r) (hB : OpB X.K r g) (hn : NoErr g) (ho' : OpR X (compareOp op') r') (hB' : OpB X.K r' g') (hn' : NoErr g')
    (ha : ME X E Γ a ta ca) (hb : ME X E Γ b tb cb) (hc : ME X E Γ c' tc cc) (hm : autoParam (lastMarks [op, op'] [b, c'] = false) L2.au4._auto_1) : ME X E Γ (.Compare a [op, op'] [b, c'] pos) (eChain g g' ta tb tc) .fresh := by
  obtain ⟨te, p, q⟩ := ha
  obtain ⟨te', p', q'⟩ := hb
  obtain ⟨te2, p2, q2⟩ := hc
  exact ⟨_, pe_chain ho ho' p p' p2 hm, fun O σ H τ Q ok h => chain_go (c' := c') hB hn hB' hn' q q' q2 ok h⟩
noncomputable def ClB (K : PySem.W.Frag) (r : List V -> Hp -> VK -> Prop) (g : List D -> R D) : Prop :=
  ∀ H xs ds L (Q : VK), Reps K H ds xs L -> (∃ d, g ds = .ok d /\ ∀ v H' L', Same H H' -> Rep K H' d v L' -> L'.Nodup -> (∀ a ∈ L', H a = none) -> Q v H') -> r xs H Q
noncomputable def NoErrL (g : List D -> R D) : Prop := ∀ ds n, g ds ≠ .err n
variable {uL : Tn -> R (List D)} {es : List Expr}
theorem cb_go {r : List V -> Hp -> VK -> Prop} {g : List D -> R D} {ta' : TA} (hB : ClB X.K r g) (hn : NoErrL g) (q : ∀ O σ H τ Q, EOk X.K Γ O H σ τ -> postL X.K E O ca H Q (uL τ) -> ta' σ H Q)
    {O : Addr -> Prop} {σ : St} {H : Hp} {τ : Tn} {Q : VK} (ok : EOk X.K Γ O H σ τ) (h : post X.K E O .fresh H Q (eL g uL τ)) : tCB r ta' σ H Q := by
  refine q O σ H τ _ ok ?_
  unfold eL at h
  cases hu : uL τ with
  | ok ds =>
    rw [hu, R.ok_bind] at h
    refine fun vs H1 L s1 r1 _ => ?_
    cases hg : g ds with
    | ok d =>
      rw [hg] at h
      exact hB H1 vs ds L Q r1 ⟨d, hg, fun v H' L s r n1 n2 => h v H' L (s1.trans s) r ⟨n1, fun a ha => s1.non (n2 a ha)⟩⟩
    | err n => exact absurd hg (hn _ _)
    | bad => rw [hg] at h; exact h.elim
  | err n => rw [hu] at h; exact h
  | bad => rw [hu] at h; exact h
variable {x : Str} {id T : String} {p : Pos}
theorem me_callB {r : List V -> Hp -> VK -> Prop} {g : List D -> R D} (hc : CallR X (.builtin id) r) (hB : ClB X.K r g) (hn : NoErrL g) (hg : Gl X x) (hm : X.mg x = none) (hv : bootBuiltins x = some (.builtin id)) (ha : MA X E Γ (e :: es) uL ca) (hx : autoParam (x ≠ "__name__") L2.au1._auto_1) (hdb : autoParam ((x == ("__debug__" : Str)) = false) L2.au1._auto_1)
    (he : autoParam (starEach (e :: es) X.env = (false, eval e X.env) :: starEach es X.env) L2.au3._auto_1) (hpl : autoParam ((backTo pos (starEach es X.env)).any (·.1) = false) L2.au3._auto_1) : ME X E Γ (.Call (.Name x p) (e :: es) [] pos) (eL g uL) .fresh := by
  obtain ⟨_, ta', p', q⟩ := ha
  exact ⟨_, pe_callB hc hg hm hv p' hx hdb he hpl, fun O σ H τ Q ok h => cb_go hB hn q ok h⟩
theorem me_callTy {r : List V -> Hp -> VK -> Prop} {g : List D -> R D} (hc : CallR X (.type T) r) (hB : ClB X.K r g) (hn : NoErrL g) (hg : Gl X x) (hm : X.mg x = none) (hv : bootBuiltins x = some (.type T)) (ha : MA X E Γ (e :: es) uL ca) (hx : autoParam (x ≠ "__name__") L2.au1._auto_1) (hdb : autoParam ((x == ("__debug__" : Str)) = false) L2.au1._auto_1)
    (he : autoParam (starEach (e :: es) X.env = (false, eval e X.env) :: starEach es X.env) L2.au3._auto_1) (hpl : autoParam ((backTo pos (starEach es X.env)).any (·.1) = false) L2.au3._auto_1) : ME X E Γ (.Call (.Name x p) (e :: es) [] pos) (eL g uL) .fresh := by
  obtain ⟨_, ta', p', q⟩ := ha
  exact ⟨_, pe_callTy hc hg hm hv p' hx hdb he hpl, fun O σ H τ Q ok h => cb_go hB hn q ok h⟩
end
end L2
set_option maxRecDepth 100000
set_option maxHeartbeats 4000000
namespace L2
open PySem PySem.Spec PyProof.Rows
noncomputable def wpT (K : PySem.W.Frag) (E : XK) (Γ : List Cl) (t : Tn -> R Bool) : TT := fun σ H Q => ∃ O τ, EOk K Γ O H σ τ /\ postB K E H Q (t τ)
theorem MT.pt {X : Cx} {E : XK} {Γ : List Cl} {e : Expr} {t : Tn -> R Bool} (h : MT X E Γ e t) : PT X e (wpT X.K E Γ t) := by
  obtain ⟨te, p, q⟩ := h
  rintro pins s σ H Q I ⟨O, τ, ok, z⟩
  exact p pins s σ H Q I (q O σ H τ Q ok z)
structure SOk (K : PySem.W.Frag) (Γ : List Cl) (B H : Hp) (σ : St) (τ : Tn) (T : List Addr) : Prop where
  ext : Same B H
  lσ : σ.length = Γ.length
  lτ : τ.length = Γ.length
  ex : ∃ Ls : Nat -> List Addr,
    (∀ i c, Γ[i]? = some c -> c ≠ .dead -> ∃ v d, σ[i]? = some (some v) /\ τ[i]? = some (some d) /\ Rep K H d v (Ls i)) /\
    (∀ i, Γ[i]? = some .own -> (Ls i).Nodup /\ ∀ a ∈ Ls i, B a = none) /\
    (∀ i j c, i ≠ j -> Γ[i]? = some .own -> Γ[j]? = some c -> c ≠ .dead -> ∀ a ∈ Ls i, a ∉ Ls j) /\
    T.Nodup /\ (∀ a ∈ T, B a = none /\ H a ≠ none) /\ (∀ i c, Γ[i]? = some c -> c ≠ .dead -> ∀ a ∈ Ls i, a ∉ T)
inductive Fl where
  | nx (τ : Tn) | rt (d : D) | bk (τ : Tn) | ct (τ : Tn)
noncomputable def postV (K : PySem.W.Frag) (E : XK) (B : Hp) (Γ' : List Cl) (σ : St) (τ : Tn) (T : List Addr) (H : Hp) (Q : VK) : R D -> Prop
  | .ok d => ∀ v H' L, Same H H' -> Rep K H' d v L -> SOk K Γ' B H' σ τ (L ++ T) -> Q v H'
  | .err n => ∀ C H', ErrC K n C -> Same B H' -> E (.ref C) none H'
  | .bad => False
noncomputable def postS (K : PySem.W.Frag) (E : XK) (B : Hp) (Γl Γ' : List Cl) (Z : Ends) : R Fl -> Prop
  | .ok (.nx τ') => ∀ σ' H', SOk K Γ' B H' σ' τ' [] -> Z.nx σ' H'
  | .ok (.rt d) => ∀ v H' L, Same B H' -> Rep K H' d v L -> L.Nodup -> (∀ a ∈ L, B a = none) -> Z.rt v H'
  | .ok (.bk τ') => ∀ σ' H', SOk K Γl B H' σ' τ' [] -> Z.bk σ' H'
  | .ok (.ct τ') => ∀ σ' H', SOk K Γl B H' σ' τ' [] -> Z.ct σ' H'
  | .err n => ∀ C H', ErrC K n C -> Same B H' -> E (.ref C) none H'
  | .bad => False
noncomputable def MV (X : Cx) (E : XK) (Γ : List Cl) (e : Expr) (t : Tn -> R D) (Γ' : List Cl) : Prop :=
  ∃ te, PE X e te /\ ∀ B σ H τ T Q, SOk X.K Γ B H σ τ T -> postV X.K E B Γ' σ τ T H Q (t τ) -> te σ H Q
noncomputable def MS (X : Cx) (E : XK) (Γl Γ : List Cl) (s : Stmt) (t : Tn -> R Fl) (Γ' : List Cl) : Prop :=
  ∃ ts, PS X s ts /\ ∀ B σ H τ Z, SOk X.K Γ B H σ τ [] -> postS X.K E B Γl Γ' Z (t τ) -> ts Z σ H
noncomputable def MSs (X : Cx) (E : XK) (Γl Γ : List Cl) (s : List Stmt) (t : Tn -> R Fl) (Γ' : List Cl) : Prop :=
  ∃ ts, PSs X s ts /\ ∀ B σ H τ Z, SOk X.K Γ B H σ τ [] -> postS X.K E B Γl Γ' Z (t τ) -> ts Z σ H
section
variable {K : PySem.W.Frag} {Γ Γ' : List Cl} {B H H1 : Hp} {σ : St} {τ : Tn} {T : List Addr}
theorem SOk.eok (h : SOk K Γ B H σ τ T) : ∃ O : Addr -> Prop, EOk K Γ O H σ τ /\ (∀ L : List Addr, (∀ a ∈ L, ¬ O a) -> ∃ Ls : Nat -> List Addr,
    (∀ i c, Γ[i]? = some c -> c ≠ .dead -> ∃ v d, σ[i]? = some (some v) /\ τ[i]? = some (some d) /\ Rep K H d v (Ls i)) /\
    (∀ i, Γ[i]? = some .own -> (Ls i).Nodup /\ ∀ a ∈ Ls i, B a = none) /\
    (∀ i j c, i ≠ j -> Γ[i]? = some .own -> Γ[j]? = some c -> c ≠ .dead -> ∀ a ∈ Ls i, a ∉ Ls j) /\
    T.Nodup /\ (∀ a ∈ T, B a = none /\ H a ≠ none) /\ (∀ i c, Γ[i]? = some c -> c ≠ .dead -> ∀ a ∈ Ls i, a ∉ T) /\ ∀ i, Γ[i]? = some .own -> ∀ a ∈ Ls i, a ∉ L) := by
  obtain ⟨Ls, h1, h2, h3, h4, h5, h6⟩ := h.ex
  refine ⟨fun a => ∃ i, Γ[i]? = some .own /\ a ∈ Ls i, ⟨fun a ⟨i, e, ha⟩ => ?_, fun i c e hc => ?_⟩, fun L hL => ⟨Ls, h1, h2, h3, h4, h5, h6, fun i e a ha hm => hL a hm ⟨i, e, ha⟩⟩⟩
  · obtain ⟨v, d, _, _, r⟩ := h1 i _ e (by simp)
    exact r.there ha
  · obtain ⟨v, d, e1, e2, r⟩ := h1 i c e hc
    refine ⟨v, d, Ls i, e1, e2, r, fun z a ha ⟨j, ej, hj⟩ => ?_⟩
    subst z
    have hij : j ≠ i := fun z => by subst z; rw [e] at ej; cases ej
    exact h3 j i _ hij ej e (by simp) a hj ha
theorem SOk.same (h : SOk K Γ B H σ τ T) (s : Same H H1) : SOk K Γ B H1 σ τ T := by
  obtain ⟨Ls, h1, h2, h3, h4, h5, h6⟩ := h.ex
  refine ⟨h.ext.trans s, h.lσ, h.lτ, Ls, fun i c e hc => ?_, h2, h3, h4, fun a ha => ⟨(h5 a ha).1, by rw [s.at (h5 a ha).2]; exact (h5 a ha).2⟩, h6⟩
  obtain ⟨v, d, e1, e2, r⟩ := h1 i c e hc
  exact ⟨v, d, e1, e2, r.same s⟩
theorem SOk.aside {L : List Addr} (h : SOk K Γ B H σ τ T) (s : Same H H1) (r : ∀ a ∈ L, H1 a ≠ none) (n1 : L.Nodup) (n2 : ∀ a ∈ L, H a = none) : SOk K Γ B H1 σ τ (L ++ T) := by
  obtain ⟨Ls, h1, h2, h3, h4, h5, h6⟩ := h.ex
  refine ⟨h.ext.trans s, h.lσ, h.lτ, Ls, fun i c e hc => ?_, h2, h3, List.nodup_append.mpr ⟨n1, h4, fun a ha b hb z => ?_⟩, fun a ha => ?_, fun i c e hc a ha hm => ?_⟩
  · obtain ⟨v, d, e1, e2, r⟩ := h1 i c e hc
    exact ⟨v, d, e1, e2, r.same s⟩
  · subst z; exact (h5 a hb).2 (n2 a ha)
  · rcases List.mem_append.mp ha with z | z
    · exact ⟨h.ext.non (n2 a z), r a z⟩
    · exact ⟨(h5 a z).1, by rw [s.at (h5 a z).2]; exact (h5 a z).2⟩
  · obtain ⟨v, d, e1, e2, r'⟩ := h1 i c e hc
    rcases List.mem_append.mp hm with z | z
    · exact r'.there ha (n2 a z)
    · exact h6 i c e hc a ha z
theorem SOk.perm {T' : List Addr} (h : SOk K Γ B H σ τ T) (p : T.Perm T') : SOk K Γ B H σ τ T' := by
  obtain ⟨Ls, h1, h2, h3, h4, h5, h6⟩ := h.ex
  exact ⟨h.ext, h.lσ, h.lτ, Ls, h1, h2, h3, p.nodup_iff.mp h4, fun a ha => h5 a (p.mem_iff.mpr ha), fun i c e hc a ha hm => h6 i c e hc a ha (p.mem_iff.mpr hm)⟩
noncomputable def wk1 : Cl -> Cl -> Bool
  | _, .dead => true
  | .own, .own => true
  | .own, .shr => true
  | .shr, .shr => true
  | _, _ => false
noncomputable def wk : List Cl -> List Cl -> Bool
  | [], [] => true
  | a :: r, b :: q => wk1 a b && wk r q
  | _, _ => false
theorem wk_len : ∀ {Γ Γ' : List Cl}, wk Γ Γ' = true -> Γ.length = Γ'.length
  | [], [], _ => rfl
  | a :: r, b :: q, h => by
    have h : (wk1 a b && wk r q) = true := h
    rw [Bool.and_eq_true] at h
    rw [List.length_cons, List.length_cons, wk_len h.2]
theorem wk_at : ∀ {Γ Γ' : List Cl} {i : Nat} {c : Cl}, wk Γ Γ' = true -> Γ'[i]? = some c -> ∃ k, Γ[i]? = some k /\ wk1 k c = true
  | [], [], _, _, _, e => by simp at e
  | a :: r, b :: q, 0, c, h, e => by
    have h : (wk1 a b && wk r q) = true := h
    rw [Bool.and_eq_true] at h
    simp at e; subst e
    exact ⟨a, rfl, h.1⟩
  | a :: r, b :: q, i + 1, c, h, e => by
    have h : (wk1 a b && wk r q) = true := h
    rw [Bool.and_eq_true] at h
    obtain ⟨k, h1, h2⟩ := wk_at (i := i) (c := c) h.2 (by simpa using e)
    exact ⟨k, by simpa using h1, h2⟩
theorem SOk.weak (h : SOk K Γ B H σ τ T) (w : wk Γ Γ' = true) : SOk K Γ' B H σ τ T := by
  obtain ⟨Ls, h1, h2, h3, h4, h5, h6⟩ := h.ex
  have live : ∀ (i : Nat) (c : Cl), Γ'[i]? = some c -> c ≠ Cl.dead -> ∃ k, Γ[i]? = some k /\ k ≠ Cl.dead /\ (c = Cl.own -> k = Cl.own) := fun i c e hc => by
    obtain ⟨k, e', w'⟩ := wk_at w e
    refine ⟨k, e', fun z => ?_, fun z => ?_⟩
    · subst z; cases c <;> first | exact absurd rfl hc | cases w'
    · subst z; cases k <;> first | rfl | cases w'
  refine ⟨h.ext, by rw [<- wk_len w]; exact h.lσ, by rw [<- wk_len w]; exact h.lτ, Ls, fun i c e hc => ?_, fun i e => ?_, fun i j c hij ei ej hc => ?_, h4, h5, fun i c e hc => ?_⟩
  · obtain ⟨k, e', n, _⟩ := live i c e hc
    exact h1 i k e' n
  · obtain ⟨k, e', n, o⟩ := live i _ e (by simp)
    rw [o rfl] at e'
    exact h2 i e'
  · obtain ⟨k, e', n, o⟩ := live i _ ei (by simp)
    obtain ⟨k2, e2, n2, _⟩ := live j c ej hc
    rw [o rfl] at e'
    exact h3 i j k2 hij e' e2 n2
  · obtain ⟨k, e', n, _⟩ := live i c e hc
    exact h6 i k e' n
theorem SOk.out {i : Nat} (h : SOk K Γ B H σ τ T) (e : Γ[i]? = some .own) : ∃ v d L, σ[i]? = some (some v) /\ τ[i]? = some (some d) /\ Rep K H d v L /\ SOk K (Γ.set i .dead) B H σ τ (L ++ T) := by
  obtain ⟨Ls, h1, h2, h3, h4, h5, h6⟩ := h.ex
  obtain ⟨v, d, e1, e2, r⟩ := h1 i _ e (by simp)
  have hi : i < Γ.length := (List.getElem?_eq_some_iff.mp e).1
  have at' : ∀ (j : Nat) (c : Cl), (Γ.set i .dead)[j]? = some c -> c ≠ .dead -> j ≠ i /\ Γ[j]? = some c := fun j c ej hc => by
    by_cases z : i = j
    · subst z; rw [List.getElem?_set_self hi] at ej; exact absurd (Option.some.inj ej).symm hc
    · rw [List.getElem?_set_ne z] at ej; exact ⟨Ne.symm z, ej⟩
  refine ⟨v, d, Ls i, e1, e2, r, ⟨h.ext, by rw [List.length_set]; exact h.lσ, by rw [List.length_set]; exact h.lτ, Ls, fun j c ej hc => h1 j c (at' j c ej hc).2 hc, fun j ej => h2 j (at' j _ ej (by simp)).2, fun j k c hjk ej ek hc => h3 j k c hjk (at' j _ ej (by simp)).2 (at' k c ek hc).2 hc,
    List.nodup_append.mpr ⟨(h2 i e).1, h4, fun a ha b hb z => ?_⟩, fun a ha => ?_, fun j c ej hc a ha hm => ?_⟩⟩
  · subst z; exact h6 i _ e (by simp) a ha hb
  · rcases List.mem_append.mp ha with z | z
    · exact ⟨(h2 i e).2 a z, r.there z⟩
    · exact h5 a z
  · obtain ⟨n, ej'⟩ := at' j c ej hc
    rcases List.mem_append.mp hm with z | z
    · exact h3 i j c (Ne.symm n) e ej' hc a z ha
    · exact h6 j c ej' hc a ha z
noncomputable def putL (Ls : Nat -> List Addr) (i : Nat) (L : List Addr) : Nat -> List Addr := fun j => if j = i then L else Ls j
theorem putL_self {Ls : Nat -> List Addr} {i : Nat} {L : List Addr} : putL Ls i L i = L := if_pos rfl
theorem putL_eq {Ls : Nat -> List Addr} {i j : Nat} {L : List Addr} (h : j = i) : putL Ls i L j = L := if_pos h
theorem putL_ne {Ls : Nat -> List Addr} {i j : Nat} {L : List Addr} (h : j ≠ i) : putL Ls i L j = Ls j := if_neg h
theorem SOk.into {i : Nat} {d : D} {v : V} {L : List Addr} (h : SOk K Γ B H σ τ (L ++ T)) (r : Rep K H d v L) (hi : i < Γ.length) : SOk K (Γ.set i .own) B H (σ.set i (some v)) (τ.set i (some d)) T := by
  obtain ⟨Ls, h1, h2, h3, h4, h5, h6⟩ := h.ex
  have hσ : i < σ.length := by rw [h.lσ]; exact hi
  have hτ : i < τ.length := by rw [h.lτ]; exact hi
  obtain ⟨n1, n2, n3⟩ := List.nodup_append.mp h4
  have at' : ∀ (j : Nat) (c : Cl), j ≠ i -> (Γ.set i .own)[j]? = some c -> Γ[j]? = some c := fun j c hj e => by rw [List.getElem?_set_ne (Ne.symm hj)] at e; exact e
  refine ⟨h.ext, by rw [List.length_set, List.length_set]; exact h.lσ, by rw [List.length_set, List.length_set]; exact h.lτ, putL Ls i L, fun j c e hc => ?_, fun j e => ?_, fun j k c hjk ej ek hc a ha hm => ?_, n2, fun a ha => h5 a (List.mem_append_right _ ha), fun j c e hc a ha hm => ?_⟩
  · by_cases z : j = i
    · subst z
      refine ⟨v, d, by rw [List.getElem?_set_self hσ], by rw [List.getElem?_set_self hτ], ?_⟩
      rw [putL_self]; exact r
    · obtain ⟨v', d', e1, e2, r'⟩ := h1 j c (at' j c z e) hc
      refine ⟨v', d', by rw [List.getElem?_set_ne (Ne.symm z)]; exact e1, by rw [List.getElem?_set_ne (Ne.symm z)]; exact e2, ?_⟩
      rw [putL_ne z]; exact r'
  · by_cases z : j = i
    · subst z; rw [putL_self]; exact ⟨n1, fun a ha => (h5 a (List.mem_append_left _ ha)).1⟩
    · rw [putL_ne z]; exact h2 j (at' j _ z e)
  · by_cases z : j = i
    · subst z
      rw [putL_self] at ha
      rw [putL_ne (Ne.symm hjk)] at hm
      exact h6 k c (at' k c (Ne.symm hjk) ek) hc a hm (List.mem_append_left _ ha)
    · rw [putL_ne z] at ha
      by_cases z2 : k = i
      · subst z2
        rw [putL_self] at hm
        exact h6 j _ (at' j _ z ej) (by simp) a ha (List.mem_append_left _ hm)
      · rw [putL_ne z2] at hm
        exact h3 j k c hjk (at' j _ z ej) (at' k c z2 ek) hc a ha hm
  · by_cases z : j = i
    · subst z; rw [putL_self] at ha; exact n3 a ha a hm rfl
    · rw [putL_ne z] at ha; exact h6 j c (at' j c z e) hc a ha (List.mem_append_right _ hm)
end
end L2
set_option maxRecDepth 100000
set_option maxHeartbeats 4000000
namespace L2
open PySem PySem.Spec PyProof.Rows
section
variable {K : PySem.W.Frag} {Γ Γ' : List Cl} {B H H1 : Hp} {σ : St} {τ : Tn} {T : List Addr}
theorem SOk.intoS {i : Nat} {d : D} {v : V} {L : List Addr} {Ls : Nat -> List Addr} (e0 : Same B H) (l1 : σ.length = Γ.length) (l2 : τ.length = Γ.length)
    (h1 : ∀ i c, Γ[i]? = some c -> c ≠ .dead -> ∃ v d, σ[i]? = some (some v) /\ τ[i]? = some (some d) /\ Rep K H d v (Ls i)) (h2 : ∀ i, Γ[i]? = some .own -> (Ls i).Nodup /\ ∀ a ∈ Ls i, B a = none)
    (h3 : ∀ i j c, i ≠ j -> Γ[i]? = some .own -> Γ[j]? = some c -> c ≠ .dead -> ∀ a ∈ Ls i, a ∉ Ls j) (h7 : ∀ i, Γ[i]? = some .own -> ∀ a ∈ Ls i, a ∉ L) (r : Rep K H d v L) (hi : i < Γ.length) :
    SOk K (Γ.set i .shr) B H (σ.set i (some v)) (τ.set i (some d)) [] := by
  have hσ : i < σ.length := by rw [l1]; exact hi
  have hτ : i < τ.length := by rw [l2]; exact hi
  have at' : ∀ (j : Nat) (c : Cl), j ≠ i -> (Γ.set i .shr)[j]? = some c -> Γ[j]? = some c := fun j c hj e => by rw [List.getElem?_set_ne (Ne.symm hj)] at e; exact e
  have nown : ∀ j : Nat, (Γ.set i .shr)[j]? = some .own -> j ≠ i := fun j e z => by subst z; rw [List.getElem?_set_self hi] at e; cases e
  refine ⟨e0, by rw [List.length_set, List.length_set]; exact l1, by rw [List.length_set, List.length_set]; exact l2, putL Ls i L, fun j c e hc => ?_, fun j e => ?_, fun j k c hjk ej ek hc a ha hm => ?_, List.nodup_nil, fun a ha => (nomatch ha), fun j c e hc a ha hm => (nomatch hm)⟩
  · by_cases z : j = i
    · subst z
      refine ⟨v, d, by rw [List.getElem?_set_self hσ], by rw [List.getElem?_set_self hτ], ?_⟩
      rw [putL_self]; exact r
    · obtain ⟨v', d', e1, e2, r'⟩ := h1 j c (at' j c z e) hc
      refine ⟨v', d', by rw [List.getElem?_set_ne (Ne.symm z)]; exact e1, by rw [List.getElem?_set_ne (Ne.symm z)]; exact e2, ?_⟩
      rw [putL_ne z]; exact r'
  · have z := nown j e
    rw [putL_ne z]; exact h2 j (at' j _ z e)
  · have z := nown j ej
    rw [putL_ne z] at ha
    by_cases z2 : k = i
    · rw [putL_eq z2] at hm; exact h7 j (at' j _ z ej) a ha hm
    · rw [putL_ne z2] at hm; exact h3 j k c hjk (at' j _ z ej) (at' k c z2 ek) hc a ha hm
end
section
variable {X : Cx} {E : XK} {Γ Γ1 Γ' Γl : List Cl} {e a b : Expr} {es : List Expr} {t : Tn -> R D} {u : Tn -> R (List D)} {c : Rc} {pos : Pos}
theorem mv_fresh (h : ME X E Γ e t .fresh) : MV X E Γ e t Γ := by
  obtain ⟨te, p, q⟩ := h
  refine ⟨te, p, fun B σ H τ T Q ok h => ?_⟩
  obtain ⟨O, eo, _⟩ := ok.eok
  refine q O σ H τ Q eo ?_
  cases ht : t τ with
  | ok d =>
    rw [ht] at h
    exact fun v H' L s r k => h v H' L s r (ok.aside s (fun a ha => r.there ha) k.1 k.2)
  | err n => rw [ht] at h; exact fun C H' e s => h C H' e (ok.ext.trans s)
  | bad => rw [ht] at h; exact h
theorem mv_name {i : Nat} {x : Str} (hN : X.N[i]? = some x) (hk : Γ[i]? = some .own) (hv : Vis X.env.scope x) (hb : autoParam ((x == ("__debug__" : Str)) = false) L2.au1._auto_1) (hcd : autoParam ((x == ("__classdict__" : Str)) = false) L2.au1._auto_1) : MV X E Γ (.Name x pos) (eVar i) (Γ.set i .dead) := by
  refine ⟨tVar i, pe_var hN hv hb hcd, fun B σ H τ T Q ok h => ?_⟩
  obtain ⟨v, d, L, e1, e2, r, ok'⟩ := ok.out hk
  unfold eVar at h
  rw [e2] at h
  exact ⟨v, e1, h v H L (Same.refl H) r ok'⟩
noncomputable def sSkip : Tn -> R Fl := fun τ => .ok (.nx τ)
noncomputable def sSeq (a b : Tn -> R Fl) : Tn -> R Fl := fun τ => (a τ).bind fun f => match f with
  | .nx τ' => b τ'
  | f => .ok f
noncomputable def sRet (t : Tn -> R D) : Tn -> R Fl := fun τ => (t τ).bind fun d => .ok (.rt d)
noncomputable def sSet (i : Nat) (t : Tn -> R D) : Tn -> R Fl := fun τ => (t τ).bind fun d => .ok (.nx (τ.set i (some d)))
noncomputable def sIf (k : Tn -> R Bool) (a b : Tn -> R Fl) : Tn -> R Fl := fun τ => (k τ).bind fun x => if x = true then a τ else b τ
theorem mss_nil : MSs X E Γl Γ [] sSkip Γ := ⟨tNext, pss_nil, fun B σ H τ Z ok h => h σ H ok⟩
theorem mss_one {s : Stmt} {t : Tn -> R Fl} (h : MS X E Γl Γ s t Γ') : MSs X E Γl Γ [s] t Γ' := by
  obtain ⟨ts, p, q⟩ := h
  exact ⟨ts, pss_one p, q⟩
theorem mss_cons {s : Stmt} {r : List Stmt} {t1 t2 : Tn -> R Fl} (h : MS X E Γl Γ s t1 Γ1) (k : MSs X E Γl Γ1 r t2 Γ') : MSs X E Γl Γ (s :: r) (sSeq t1 t2) Γ' := by
  obtain ⟨ts, p, q⟩ := h
  obtain ⟨ts', p', q'⟩ := k
  refine ⟨tSeq ts ts', pss_cons p p', fun B σ H τ Z ok h => q B σ H τ _ ok ?_⟩
  unfold sSeq at h
  cases ht : t1 τ with
  | ok f =>
    rw [ht, R.ok_bind] at h
    cases f with
    | nx τ' => exact fun σ' H' ok' => q' B σ' H' τ' Z ok' h
    | rt d => exact h
    | bk τ' => exact h
    | ct τ' => exact h
  | err n => rw [ht] at h; exact h
  | bad => rw [ht] at h; exact h
theorem mss_weak {s : List Stmt} {t : Tn -> R Fl} (h : MSs X E Γl Γ s t Γ1) (w : wk Γ1 Γ' = true) : MSs X E Γl Γ s t Γ' := by
  obtain ⟨ts, p, q⟩ := h
  refine ⟨ts, p, fun B σ H τ Z ok h => q B σ H τ Z ok ?_⟩
  cases ht : t τ with
  | ok f =>
    rw [ht] at h
    cases f with
    | nx τ' => exact fun σ' H' ok' => h σ' H' (ok'.weak w)
    | rt d => exact h
    | bk τ' => exact h
    | ct τ' => exact h
  | err n => rw [ht] at h; exact h
  | bad => rw [ht] at h; exact h
theorem ms_ret (h : MV X E Γ e t Γ1) : MS X E Γl Γ (.Return (some e) pos) (sRet t) Γ' := by
  obtain ⟨te, p, q⟩ := h
  refine ⟨tRet te, ps_ret p, fun B σ H τ Z ok h => q B σ H τ [] _ ok ?_⟩
  unfold sRet at h
  cases ht : t τ with
  | ok d =>
    rw [ht, R.ok_bind] at h
    refine fun v H' L s r ok' => ?_
    obtain ⟨Ls, _, _, _, h4, h5, _⟩ := ok'.ex
    rw [List.append_nil] at h4 h5
    exact h v H' L ok'.ext r h4 fun a ha => (h5 a ha).1
  | err n => rw [ht] at h; exact h
  | bad => rw [ht] at h; exact h
theorem ms_if {k : Expr} {u : Tn -> R Bool} {sa sb : List Stmt} {t1 t2 : Tn -> R Fl} (hk : MT X E Γ k u) (ha : MSs X E Γl Γ sa t1 Γ') (hb : MSs X E Γl Γ sb t2 Γ') : MS X E Γl Γ (.If k sa sb pos) (sIf u t1 t2) Γ' := by
  obtain ⟨te, p, q⟩ := hk
  obtain ⟨ts1, p1, q1⟩ := ha
  obtain ⟨ts2, p2, q2⟩ := hb
  refine ⟨tIfS te ts1 ts2, ps_if p p1 p2, fun B σ H τ Z ok h => ?_⟩
  obtain ⟨O, eo, _⟩ := ok.eok
  refine q O σ H τ _ eo ?_
  unfold sIf at h
  cases ht : u τ with
  | ok x =>
    rw [ht, R.ok_bind] at h
    refine fun H1 s1 => ?_
    cases x with
    | true => rw [if_pos rfl] at h ⊢; exact q1 B σ H1 τ Z (ok.same s1) h
    | false => rw [if_neg Bool.false_ne_true] at h ⊢; exact q2 B σ H1 τ Z (ok.same s1) h
  | err n => rw [ht] at h; exact fun C H' e s => h C H' e (ok.ext.trans s)
  | bad => rw [ht] at h; exact h
theorem ms_set {i : Nat} {x : Str} {pos' : Pos} (hN : X.N.Nodup) (hi : X.N[i]? = some x) (hl : i < Γ1.length) (h : MV X E Γ e t Γ1) (hx : Loc X.env.scope x) (hs : autoParam (swapsWith e (some (.Name x pos')) pos.line X.env = pure false) L2.au3._auto_1) (hf : autoParam (X.fn x = true \/ X.env.scope.names.lookup x = some .local) L2.au0._auto_1) :
    MS X E Γl Γ (.Assign [.Name x pos'] e pos) (sSet i t) (Γ1.set i .own) := by
  obtain ⟨te, p, q⟩ := h
  refine ⟨_, ps_set hN hi hx p hs hf, fun B σ H τ Z ok h => q B σ H τ [] _ ok ?_⟩
  unfold sSet at h
  cases ht : t τ with
  | ok d =>
    rw [ht, R.ok_bind] at h
    exact fun v H' L s r ok' => h _ _ (ok'.into r hl)
  | err n => rw [ht] at h; exact h
  | bad => rw [ht] at h; exact h
end
end L2
set_option maxRecDepth 100000
set_option maxHeartbeats 4000000
namespace L2
open PySem PySem.Spec PyProof.Rows
section
variable {K : PySem.W.Frag} {Γ Γ' : List Cl} {B H H1 : Hp} {σ : St} {τ : Tn} {T : List Addr}
theorem SOk.slot {i : Nat} (h : SOk K Γ B H σ τ T) (e : Γ[i]? = some .own) : ∃ v d L, σ[i]? = some (some v) /\ τ[i]? = some (some d) /\ Rep K H d v L /\ L.Nodup /\ (∀ a ∈ L, B a = none /\ a ∉ T) /\
    ∀ (H2 : Hp) (d2 : D) (L2 Le T' : List Addr), T = Le ++ T' -> TF H H2 -> (∀ b, b ∉ L -> H b ≠ none -> H2 b = H b) -> Rep K H2 d2 v L2 -> (∀ a ∈ L2, a ∈ L \/ a ∈ Le) -> L2.Nodup -> SOk K Γ B H2 σ (τ.set i (some d2)) T' := by
  obtain ⟨Ls, h1, h2, h3, h4, h5, h6⟩ := h.ex
  obtain ⟨v, d, e1, e2, r⟩ := h1 i _ e (by simp)
  refine ⟨v, d, Ls i, e1, e2, r, (h2 i e).1, fun a ha => ⟨(h2 i e).2 a ha, h6 i _ e (by simp) a ha⟩, ?_⟩
  rintro H2 d2 L2 Le T' rfl tf kp r2 sub nd
  obtain ⟨n1, n2, n3⟩ := List.nodup_append.mp h4
  have hτ : i < τ.length := (List.getElem?_eq_some_iff.mp e2).1
  have notL : ∀ b, B b ≠ none -> b ∉ Ls i := fun b hb hm => hb ((h2 i e).2 b hm)
  refine ⟨fun b o q => ?_, h.lσ, by rw [List.length_set]; exact h.lτ, putL Ls i L2, fun j c ej hc => ?_, fun j ej => ?_, fun j k c hjk ej ek hc a ha hm => ?_, n2, fun a ha => ⟨(h5 a (List.mem_append_right _ ha)).1, ?_⟩, fun j c ej hc a ha hm => ?_⟩
  · have hq := h.ext b o q
    rw [kp b (notL b (by rw [q]; simp)) (by rw [hq]; simp)]; exact hq
  · by_cases z : j = i
    · subst z
      refine ⟨v, d2, e1, by rw [List.getElem?_set_self hτ], ?_⟩
      rw [putL_self]; exact r2
    · obtain ⟨v', d', q1, q2, r'⟩ := h1 j c ej hc
      refine ⟨v', d', q1, by rw [List.getElem?_set_ne (Ne.symm z)]; exact q2, ?_⟩
      rw [putL_ne z]
      exact Rep.keep tf d' v' _ r' fun a ha => kp a (fun hm => h3 i j c (Ne.symm z) e ej hc a hm ha) (r'.there ha)
  · by_cases z : j = i
    · subst z
      rw [putL_self]
      refine ⟨nd, fun a ha => ?_⟩
      rcases sub a ha with m | m
      · exact (h2 _ e).2 a m
      · exact (h5 a (List.mem_append_left _ m)).1
    · rw [putL_ne z]; exact h2 j ej
  · by_cases z : j = i
    · subst z
      rw [putL_self] at ha
      rw [putL_ne (Ne.symm hjk)] at hm
      rcases sub a ha with m | m
      · exact h3 _ k c hjk e ek hc a m hm
      · exact h6 k c ek hc a hm (List.mem_append_left _ m)
    · rw [putL_ne z] at ha
      by_cases z2 : k = i
      · subst z2
        rw [putL_self] at hm
        rcases sub a hm with m | m
        · exact h3 j _ _ hjk ej e (by simp) a ha m
        · exact h6 j _ ej (by simp) a ha (List.mem_append_left _ m)
      · rw [putL_ne z2] at hm; exact h3 j k c hjk ej ek hc a ha hm
  · have q := (h5 a (List.mem_append_right _ ha)).2
    rw [kp a (fun hm => h6 i _ e (by simp) a hm (List.mem_append_right _ ha)) q]; exact q
  · by_cases z : j = i
    · rw [putL_eq z] at ha
      rcases sub a ha with m | m
      · exact h6 i _ e (by simp) a m (List.mem_append_right _ hm)
      · exact n3 a m a hm rfl
    · rw [putL_ne z] at ha
      exact h6 j c ej hc a ha (List.mem_append_right _ hm)
theorem TF.upd {a : Addr} {o : HO} (h : (∃ vs, H a = some (.lst vs)) \/ ∃ kvs, H a = some (.dK kvs)) : TF H (upd H a o) := by
  refine ⟨fun b xs e => ?_, fun b p u e => ?_⟩
  · rw [upd_ne]
    · exact e
    · rintro rfl
      rcases h with ⟨_, h⟩ | ⟨_, h⟩ <;> rw [h] at e <;> cases e
  · rw [upd_ne]
    · exact e
    · rintro rfl
      rcases h with ⟨_, h⟩ | ⟨_, h⟩ <;> rw [h] at e <;> cases e
theorem Rep.upd {d : D} {v : V} {L : List Addr} {a : Addr} {o : HO} (r : Rep K H d v L) (h : (∃ vs, H a = some (.lst vs)) \/ ∃ kvs, H a = some (.dK kvs)) (n : a ∉ L) : Rep K (L2.upd H a o) d v L :=
  Rep.keep (TF.upd h) d v L r fun b hb => upd_ne fun z => n (z ▸ hb)
theorem Reps.upd {d : List D} {v : List V} {L : List Addr} {a : Addr} {o : HO} (r : Reps K H d v L) (h : (∃ vs, H a = some (.lst vs)) \/ ∃ kvs, H a = some (.dK kvs)) (n : a ∉ L) : Reps K (L2.upd H a o) d v L :=
  Reps.keep (TF.upd h) d v L r fun b hb => upd_ne fun z => n (z ▸ hb)
theorem Reps.set : ∀ {ds : List D} {vs : List V} {L : List Addr} {d : D} {v : V} {Le : List Addr} (j : Nat), Reps K H ds vs L -> Rep K H d v Le -> j < ds.length -> ∃ L2, Reps K H (ds.set j d) (vs.set j v) L2 /\ (∀ a ∈ L2, a ∈ L \/ a ∈ Le) /\ ((L ++ Le).Nodup -> L2.Nodup)
  | [], _, _, _, _, _, _, _, _, h => by simp at h
  | d :: ds, _, _, d', v', Le, 0, hq7, r, _ => by
    obtain ⟨v, vs', L1, L2, e1, e2, h1, h2⟩ := hq7
    subst e1 e2
    refine ⟨Le ++ L2, by simpa using Reps.cons r h2, fun a ha => ?_, fun n => ?_⟩
    · rcases List.mem_append.mp ha with z | z
      · exact .inr z
      · exact .inl (List.mem_append_right _ z)
    · obtain ⟨n1, n2, n3⟩ := List.nodup_append.mp n
      obtain ⟨m1, m2, m3⟩ := List.nodup_append.mp n1
      exact List.nodup_append.mpr ⟨n2, m2, fun a ha b hb z => n3 b (List.mem_append_right _ hb) a ha z.symm⟩
  | d :: ds, _, _, d', v', Le, j + 1, hq7, r, hj => by
    obtain ⟨v, vs', L1, L2, e1, e2, h1, h2⟩ := hq7
    subst e1 e2
    obtain ⟨L3, a1, a2, a3⟩ := Reps.set j h2 r (by simpa using hj)
    refine ⟨L1 ++ L3, by simpa using Reps.cons h1 a1, fun a ha => ?_, fun n => ?_⟩
    · rcases List.mem_append.mp ha with z | z
      · exact .inl (List.mem_append_left _ z)
      · rcases a2 a z with m | m
        · exact .inl (List.mem_append_right _ m)
        · exact .inr m
    · rw [List.append_assoc] at n
      obtain ⟨n1, n2, n3⟩ := List.nodup_append.mp n
      refine List.nodup_append.mpr ⟨n1, a3 n2, fun a ha b hb z => ?_⟩
      rcases a2 b hb with m | m
      · exact n3 a ha b (List.mem_append_left _ m) z
      · exact n3 a ha b (List.mem_append_right _ m) z
end
section
variable {X : Cx} {E : XK} {Γ Γ1 Γ' Γl : List Cl} {e a b : Expr} {es : List Expr} {t t' : Tn -> R D} {u : Tn -> R (List D)} {c : Rc} {pos : Pos}
noncomputable def setD (ds : List D) (k : Int) (d : D) : R D := match ixN ds.length k with
  | some j => .ok (.lst (ds.set j d))
  | none => .bad
noncomputable def sPut (i : Nat) (t ti : Tn -> R D) : Tn -> R Fl := fun τ => (t τ).bind fun d => (eVar i τ).bind fun l => (ti τ).bind fun k => match l, k with
  | .lst ds, .int k => (setD ds k d).bind fun l' => .ok (.nx (τ.set i (some l')))
  | _, _ => .bad
theorem ms_put {i : Nat} {x : Str} {p0 p1 : Pos} {ix : Expr} {ti : Tn -> R D} (hN : X.N[i]? = some x) (h : MV X E Γ e t Γ1) (hi : ME X E Γ1 ix ti c) (hk : Γ1[i]? = some .own) (hv : Vis X.env.scope x) (hb : autoParam ((x == ("__debug__" : Str)) = false) L2.au1._auto_1) (hcd : autoParam ((x == ("__classdict__" : Str)) = false) L2.au1._auto_1)
    (ha : autoParam (∀ v, assign (.Subscript (.Name x p0) ix p1) X.env v = (do
      let ov <- holding [v] (eval (.Name x p0) X.env)
      let iv <- holding [v, ov] (eval ix X.env)
      standAt p1
      holding [v, ov, iv] (setItem ov iv v)
      release [v, ov, iv] [])) L2.au2._auto_1)
    (hs : autoParam (swapsWithSole [.Subscript (.Name x p0) ix p1] e pos.line X.env = pure false) L2.au3._auto_1) (hw : autoParam (swappedStores [.Subscript (.Name x p0) ix p1] e X.env = pure none) L2.au3._auto_1)
    (h1 : autoParam ((assignEach [.Subscript (.Name x p0) ix p1] X.env).map (·.2) = [assign (.Subscript (.Name x p0) ix p1) X.env]) L2.au3._auto_1) :
    MS X E Γl Γ (.Assign [.Subscript (.Name x p0) ix p1] e pos) (sPut i t ti) Γ1 := by
  obtain ⟨te, p, q⟩ := h
  obtain ⟨te', p', q'⟩ := hi
  refine ⟨_, ps_asg p (pg_sub (pe_var (pos := p0) hN hv hb hcd) p' set_list ha) hs hw h1, fun B σ H τ Z ok h => q B σ H τ [] _ ok ?_⟩
  unfold sPut at h
  cases ht : t τ with
  | ok d' =>
    rw [ht, R.ok_bind] at h
    refine fun y H1 Le s1 ry ok1 => ?_
    obtain ⟨v1, d1, L1, q1, q2, r1, n1, n2, _⟩ := ok1.slot hk
    refine ⟨v1, q1, ?_⟩
    have ev : eVar i τ = .ok d1 := by unfold eVar; rw [q2]
    rw [ev, R.ok_bind] at h
    obtain ⟨O, eo, _⟩ := ok1.eok
    refine q' O σ H1 τ _ eo ?_
    cases hk' : ti τ with
    | ok dk =>
      rw [hk', R.ok_bind] at h
      refine fun kv H2 Lk s2 rk _ => ?_
      have ok2 := ok1.same s2
      obtain ⟨v2, d2, L2, q3, q4, r2, m1, m2, fin⟩ := ok2.slot hk
      rw [q1] at q3
      cases q3
      rw [q2] at q4
      cases q4
      cases d1 with
      | lst ds =>
        cases dk with
        | int k =>
          obtain ⟨a, vs, L', rfl, ha2, z2, rs⟩ := r2
          subst z2
          dsimp only at h
          unfold setD at h
          cases hj : ixN ds.length k with
          | none => rw [hj] at h; exact h.elim
          | some j =>
            rw [hj] at h
            have hjl : j < ds.length := (ixN_seq hj).2.1
            have mu : (∃ vs, H2 a = some (.lst vs)) \/ ∃ kvs, H2 a = some (.dK kvs) := .inl ⟨_, ha2⟩
            have na : a ∉ Le := fun m => (m2 a List.mem_cons_self).2 (List.mem_append_left _ m)
            obtain ⟨w1, w2⟩ := List.nodup_cons.mp m1
            have nLe : Le.Nodup := by
              obtain ⟨_, _, _, _, w4, _⟩ := ok1.ex
              rw [List.append_nil] at w4
              exact w4
            have r3 := (ry.same s2).upd (o := .lst (vs.set j y)) mu na
            obtain ⟨L3, a1, a2, a3⟩ := Reps.set j (rs.upd (o := .lst (vs.set j y)) mu w1) r3 hjl
            refine ⟨a, vs, k, j, rfl, rk.1, ha2, by rw [rs.length]; exact hj, h _ _ (fin _ _ (a :: L3) Le [] rfl (TF.upd mu) (fun b hb _ => upd_ne fun z => hb (z ▸ List.mem_cons_self)) ⟨a, _, L3, rfl, upd_same, rfl, a1⟩ (fun b hb => ?_) ?_)⟩
            · rcases List.mem_cons.mp hb with z | z
              · exact .inl (z ▸ List.mem_cons_self)
              · rcases a2 b z with z | z
                · exact .inl (List.mem_cons_of_mem _ z)
                · exact .inr z
            · refine List.nodup_cons.mpr ⟨fun z => ?_, a3 (List.nodup_append.mpr ⟨w2, nLe, fun b hb b' hb' z => ?_⟩)⟩
              · rcases a2 a z with z | z
                · exact w1 z
                · exact na z
              · subst z
                exact (m2 b (List.mem_cons_of_mem _ hb)).2 (List.mem_append_left _ hb')
        | _ => exact h.elim
      | _ => exact h.elim
    | err n => rw [hk'] at h; exact fun C H' e s => h C H' e (ok1.ext.trans s)
    | bad => rw [hk'] at h; exact h
  | err n => rw [ht] at h; exact h
  | bad => rw [ht] at h; exact h
end
end L2
set_option maxRecDepth 100000
set_option maxHeartbeats 4000000
namespace L2
open PySem PySem.Spec PyProof.Rows
section
variable {K : PySem.W.Frag} {Γ Γ' : List Cl} {B B' H H1 : Hp} {σ : St} {τ : Tn} {T : List Addr}
theorem SOk.rebase (h : SOk K Γ B' H σ τ T) (s : Same B B') : SOk K Γ B H σ τ T := by
  obtain ⟨Ls, h1, h2, h3, h4, h5, h6⟩ := h.ex
  exact ⟨s.trans h.ext, h.lσ, h.lτ, Ls, h1, fun i e => ⟨(h2 i e).1, fun a ha => s.non ((h2 i e).2 a ha)⟩, h3, h4, fun a ha => ⟨s.non (h5 a ha).1, (h5 a ha).2⟩, h6⟩
open Classical in
theorem SOk.base (h : SOk K Γ B H σ τ []) : ∃ O : Addr -> Prop, EOk K Γ O H σ τ /\ (∀ a, O a -> (∃ vs, H a = some (.lst vs)) \/ ∃ kvs, H a = some (.dK kvs)) /\
    ∀ H1, Same H H1 -> ∃ B1, Same B B1 /\ SOk K Γ B1 H1 σ τ [] /\ ∀ a, ¬ O a -> B1 a = H1 a := by
  obtain ⟨Ls, h1, h2, h3, h4, h5, h6⟩ := h.ex
  refine ⟨fun a => ∃ i, Γ[i]? = some .own /\ a ∈ Ls i, ⟨fun a ⟨i, e, ha⟩ => ?_, fun i c e hc => ?_⟩, fun a ⟨i, e, ha⟩ => ?_, fun H1 s1 => ⟨fun a => if (∃ i, Γ[i]? = some .own /\ a ∈ Ls i) then none else H1 a, fun b o q => ?_, ⟨fun b o q => ?_, h.lσ, h.lτ, Ls, fun i c e hc => ?_, fun i e => ⟨(h2 i e).1, fun a ha => if_pos ⟨i, e, ha⟩⟩, h3, h4, fun a ha => (nomatch ha), h6⟩, fun a n => if_neg n⟩⟩
  · obtain ⟨v, d, _, _, r⟩ := h1 i _ e (by simp)
    exact r.there ha
  · obtain ⟨v, d, e1, e2, r⟩ := h1 i c e hc
    refine ⟨v, d, Ls i, e1, e2, r, fun z a ha ⟨j, ej, hj⟩ => ?_⟩
    subst z
    have hij : j ≠ i := fun z => by subst z; rw [e] at ej; cases ej
    exact h3 j i _ hij ej e (by simp) a hj ha
  · obtain ⟨v, d, _, _, r⟩ := h1 i _ e (by simp)
    exact Rep.dom d v _ r a ha
  · show (if (∃ i, Γ[i]? = some .own /\ b ∈ Ls i) then none else H1 b) = some o
    rw [if_neg]
    · exact s1 b o (h.ext b o q)
    · rintro ⟨i, e, hb⟩
      rw [(h2 i e).2 b hb] at q; cases q
  · have q : (if (∃ i, Γ[i]? = some .own /\ b ∈ Ls i) then none else H1 b) = some o := q
    by_cases z : ∃ i, Γ[i]? = some .own /\ b ∈ Ls i
    · rw [if_pos z] at q; cases q
    · rw [if_neg z] at q; exact q
  · obtain ⟨v, d, e1, e2, r⟩ := h1 i c e hc
    exact ⟨v, d, e1, e2, r.same s1⟩
theorem SOk.shrIn {i : Nat} {d : D} {v : V} {L : List Addr} (h : SOk K Γ B H σ τ []) (r : Rep K H d v L) (hL : ∀ a ∈ L, B a ≠ none) (hi : i < Γ.length) : SOk K (Γ.set i .shr) B H (σ.set i (some v)) (τ.set i (some d)) [] := by
  obtain ⟨Ls, h1, h2, h3, h4, h5, h6⟩ := h.ex
  exact SOk.intoS h.ext h.lσ h.lτ h1 h2 h3 (fun j e a ha hm => hL a hm ((h2 j e).2 a ha)) r hi
end
noncomputable def setAll {α : Type} : List (Option α) -> List Nat -> List α -> List (Option α)
  | σ, i :: is, v :: vs => setAll (σ.set i (some v)) is vs
  | σ, _, _ => σ
noncomputable def shrAll : List Cl -> List Nat -> List Cl
  | Γ, [] => Γ
  | Γ, i :: is => shrAll (Γ.set i .shr) is
theorem SOk.shrAll {K : PySem.W.Frag} {B H : Hp} {Γ : List Cl} {σ : St} {τ : Tn} {is : List Nat} {ds : List D} {vs : List V} {L : List Addr} (h : SOk K Γ B H σ τ []) (r : Reps K H ds vs L) (hL : ∀ a ∈ L, B a ≠ none) (hl : ds.length = is.length) (hi : ∀ i ∈ is, i < Γ.length) :
    SOk K (L2.shrAll Γ is) B H (setAll σ is vs) (setAll τ is ds) [] := by
  induction is generalizing Γ σ τ ds vs L with
  | nil =>
    cases ds with
    | nil => cases r.1; exact h
    | cons => cases hl
  | cons i is ih =>
    cases ds with
    | nil => cases hl
    | cons d ds =>
      obtain ⟨v, vs', La, Lb, e1, e2, r1, r2⟩ := r
      subst e1 e2
      exact ih (h.shrIn r1 (fun a ha => hL a (List.mem_append_left _ ha)) (hi i List.mem_cons_self)) r2 (fun a ha => hL a (List.mem_append_right _ ha)) (Nat.succ.inj hl) (fun j hj => by rw [List.length_set]; exact hi j (List.mem_cons_of_mem _ hj))
noncomputable def ItOk (K : PySem.W.Frag) (J : It) (ds : List D) (L : List Addr) (H : Hp) : Prop := (∀ a ∈ L, H a ≠ none) /\ ∀ H', TF H H' -> (∀ a ∈ L, H' a = H a) -> ∀ i,
  (∀ d, ds[i]? = some d -> J.go i H' /\ ∀ x H'', J.yld i H' x H'' -> Same H' H'' /\ ∃ L', Rep K H'' d x L' /\ ∀ a ∈ L', a ∈ L) /\ (ds.length <= i -> J.stop i H')
noncomputable def postI (K : PySem.W.Frag) (E : XK) (O : Addr -> Prop) (c : Rc) (H : Hp) (Rr : It -> Hp -> Prop) : R (List D) -> Prop
  | .ok ds => ∀ J H' L, Same H H' -> ItOk K J ds L H' -> (c ≠ .bor -> ∀ a ∈ L, ¬ O a) -> Rr J H'
  | .err n => ∀ C H', ErrC K n C -> Same H H' -> E (.ref C) none H'
  | .bad => False
noncomputable def MI (X : Cx) (E : XK) (Γ : List Cl) (tg iter : Expr) (t : Tn -> R (List D)) (c : Rc) : Prop :=
  ∃ wi, PI X tg iter wi /\ ∀ O σ H τ Rr, EOk X.K Γ O H σ τ -> postI X.K E O c H Rr (t τ) -> wi σ H Rr
inductive Tgt where
  | one (i : Nat) | many (is : List Nat)
noncomputable def Tgt.slots : Tgt -> List Nat
  | .one i => [i]
  | .many is => is
noncomputable def Tgt.asg : Tgt -> D -> Tn -> R Tn
  | .one i, d, τ => .ok (τ.set i (some d))
  | .many is, .tup ds, τ => if ds.length = is.length then .ok (setAll τ is ds) else .bad
  | .many _, _, _ => .bad
noncomputable def MG (X : Cx) (tg : Expr) : Tgt -> Prop
  | .one i => PG X tg (gName i)
  | .many is => ∃ g, PG X tg (gTup X.K is.length g) /\ ∀ (vs : List V) (σ : St) (H : Hp) (Q : St -> Hp -> Prop), vs.length = is.length -> Q (setAll σ is vs) H -> g vs σ H Q
noncomputable def forGo (asg : D -> Tn -> R Tn) (body : Tn -> R Fl) : List D -> Tn -> R Fl
  | [], τ => .ok (.nx τ)
  | d :: ds, τ => (asg d τ).bind fun τ1 => (body τ1).bind fun f => match f with
    | .nx τ2 => forGo asg body ds τ2
    | .ct τ2 => forGo asg body ds τ2
    | .bk τ2 => .ok (.nx τ2)
    | .rt r => .ok (.rt r)
noncomputable def sFor (it : Tn -> R (List D)) (tg : Tgt) (body : Tn -> R Fl) : Tn -> R Fl := fun τ => (it τ).bind fun ds => forGo tg.asg body ds τ
section
variable {X : Cx} {E : XK} {Γ Γ1 Γ2 Γ' Γl : List Cl} {pos : Pos}
noncomputable def tgG (K : PySem.W.Frag) (g : Tgt) : TG := fun v σ H Q => match g with
  | .one i => Q (σ.set i (some v)) H
  | .many is => ∃ a vs, v = .ref a /\ SqT K H a vs /\ vs.length = is.length /\ Q (setAll σ is vs) H
theorem MG.pg {tg : Expr} {g : Tgt} (h : MG X tg g) : PG X tg (tgG X.K g) := by
  cases g with
  | one i => exact h
  | many is =>
    obtain ⟨G, p, q⟩ := h
    rintro pins s σ H v u Q I r ⟨a, vs, e, hs, hl, z⟩
    exact p pins s σ H v u Q I r ⟨a, vs, e, hs, hl, q vs σ H Q hl z⟩
theorem tgG_in {K : PySem.W.Frag} {B H : Hp} {σ : St} {τ τ1 : Tn} {d : D} {v : V} {L : List Addr} {g : Tgt} (h : SOk K Γ B H σ τ []) (r : Rep K H d v L) (hL : ∀ a ∈ L, B a ≠ none) (hi : ∀ i ∈ g.slots, i < Γ.length) (ha : g.asg d τ = .ok τ1)
    {Q : St -> Hp -> Prop} (k : ∀ σ1, SOk K (L2.shrAll Γ g.slots) B H σ1 τ1 [] -> Q σ1 H) : tgG K g v σ H Q := by
  cases g with
  | one i => cases ha; exact k _ (h.shrIn r hL (hi i (by simp [Tgt.slots])))
  | many is =>
    cases d with
    | tup ds =>
      unfold Tgt.asg at ha
      dsimp only at ha
      by_cases hl : ds.length = is.length
      · rw [if_pos hl] at ha
        cases ha
        obtain ⟨a, vs, rfl, hs, rs⟩ := r
        have hv : vs.length = is.length := rs.length.trans hl
        exact ⟨a, vs, rfl, hs, hv, k _ (h.shrAll rs hL hl hi)⟩
      · rw [if_neg hl] at ha; cases ha
    | _ => cases ha
theorem for_q {it : Tn -> R (List D)} {g : Tgt} {tb : Tn -> R Fl} {c : Rc} {wi : TI} {ts : TS} (hcl : c ≠ .bor) (hn : ∀ i ∈ g.slots, i < Γ.length) (hw : wk Γ2 Γ = true) (q : ∀ O σ H τ Rr, EOk X.K Γ O H σ τ -> postI X.K E O c H Rr (it τ) -> wi σ H Rr) (q' : ∀ B σ H τ Z, SOk X.K (shrAll Γ g.slots) B H σ τ [] -> postS X.K E B Γ Γ2 Z (tb τ) -> ts Z σ H)
    (B : Hp) (σ : St) (H : Hp) (τ : Tn) (Z : Ends) (ok : SOk X.K Γ B H σ τ []) (h : postS X.K E B Γl Γ Z (sFor it g tb τ)) : tFor wi (tgG X.K g) ts Z σ H := by
  obtain ⟨O, eo, Od, hB⟩ := ok.base
  refine q O σ H τ _ eo ?_
  unfold sFor at h
  cases ht : it τ with
  | ok ds =>
    rw [ht, R.ok_bind] at h
    refine fun J H1 L s1 hit hO => ?_
    have hO := hO hcl
    obtain ⟨hLd, hit⟩ := hit
    obtain ⟨B1, sB, ok1, hB1⟩ := hB H1 s1
    have inL : ∀ a ∈ L, B1 a = H1 a := fun a ha => hB1 a (hO a ha)
    have Od1 : ∀ a, O a -> (∃ vs, H1 a = some (.lst vs)) \/ ∃ kvs, H1 a = some (.dK kvs) := fun a o => by
      rcases Od a o with ⟨vs, e⟩ | ⟨kvs, e⟩
      · exact .inl ⟨vs, s1 _ _ e⟩
      · exact .inr ⟨kvs, s1 _ _ e⟩
    have stay : ∀ H2, Same B1 H2 -> TF H1 H2 /\ ∀ a ∈ L, H2 a = H1 a := fun H2 s2 => by
      refine ⟨⟨fun a xs e => ?_, fun a o u e => ?_⟩, fun a ha => ?_⟩
      · refine s2 a _ ((hB1 a fun z => ?_).trans e)
        rcases Od1 a z with ⟨_, w⟩ | ⟨_, w⟩ <;> rw [e] at w <;> cases w
      · refine s2 a _ ((hB1 a fun z => ?_).trans e)
        rcases Od1 a z with ⟨_, w⟩ | ⟨_, w⟩ <;> rw [e] at w <;> cases w
      · rw [s2.at (by rw [inL a ha]; exact hLd a ha), inL a ha]
    refine ⟨fun i m σ2 H2 => m = ds.length - i /\ i <= ds.length /\ ∃ τ2, SOk X.K Γ B1 H2 σ2 τ2 [] /\ postS X.K E B Γl Γ Z (forGo g.asg tb (ds.drop i) τ2), ⟨ds.length, by simp, Nat.zero_le _, τ, ok1, h⟩, ?_⟩
    rintro i m σ2 H2 ⟨rfl, hile, τ2, ok2, h2⟩
    obtain ⟨tf, kp⟩ := stay H2 ok2.ext
    obtain ⟨go, stop⟩ := hit H2 tf kp i
    by_cases hlt : i < ds.length
    · obtain ⟨hgo, hy⟩ := go ds[i] (by simp [hlt])
      rw [List.drop_eq_getElem_cons hlt] at h2
      refine .inr ⟨hgo, fun σ' H' => i + 1 <= ds.length /\ ∃ τ', SOk X.K Γ B1 H' σ' τ' [] /\ postS X.K E B Γl Γ Z (forGo g.asg tb (ds.drop (i + 1)) τ'), fun σ' H' ⟨z, w⟩ => ⟨ds.length - (i + 1), by omega, rfl, z, w⟩, fun x H3 y => ?_⟩
      obtain ⟨s3, L', r', sub⟩ := hy x H3 y
      unfold forGo at h2
      cases ha : g.asg ds[i] τ2 with
      | ok τ3 =>
        rw [ha, R.ok_bind] at h2
        refine tgG_in (ok2.same s3) r' (fun a ha => by rw [inL a (sub a ha)]; exact hLd a (sub a ha)) hn ha fun σ3 ok3 => ?_
        refine q' B1 σ3 H3 τ3 _ ok3 ?_
        cases hb : tb τ3 with
        | ok f =>
          rw [hb, R.ok_bind] at h2
          cases f with
          | nx τ4 => exact fun σ' H' ok4 => ⟨hlt, τ4, ok4.weak hw, h2⟩
          | ct τ4 => exact fun σ' H' ok4 => ⟨hlt, τ4, ok4, h2⟩
          | bk τ4 => exact fun σ' H' ok4 => h2 σ' H' (ok4.rebase sB)
          | rt d => exact fun v H' L s r n1 n2 => h2 v H' L (sB.trans s) r n1 fun a ha => sB.non (n2 a ha)
        | err n => rw [hb] at h2; exact fun C H' e s => h2 C H' e (sB.trans s)
        | bad => rw [hb] at h2; exact h2
      | err n =>
        cases g with
        | one i => cases ha
        | many is =>
          unfold Tgt.asg at ha
          split at ha
          · cases ha
          · split at ha <;> cases ha
          · cases ha
      | bad => rw [ha] at h2; exact h2.elim
    · have e : i = ds.length := by omega
      subst e
      rw [List.drop_length] at h2
      exact .inl ⟨stop (Nat.le_refl _), h2 σ2 H2 (ok2.rebase sB)⟩
  | err n => rw [ht] at h; exact fun C H' e s => h C H' e (ok.ext.trans s)
  | bad => rw [ht] at h; exact h
theorem ms_for {tg iter : Expr} {body : List Stmt} {it : Tn -> R (List D)} {g : Tgt} {tb : Tn -> R Fl} {c : Rc} (hp : PassesOwn (model X.prog X.w) X.A X.env X.xe) (hc : X.calm = true) (hi : MI X E Γ tg iter it c) (hcl : c ≠ .bor) (hg : MG X tg g)
    (hn : ∀ i ∈ g.slots, i < Γ.length) (hb : MSs X E Γ (shrAll Γ g.slots) body tb Γ2) (hw : wk Γ2 Γ = true) (hs : autoParam (∀ x, foldedSetIterable iter X.env x = pure x) L2.au2._auto_1) : MS X E Γl Γ (.For tg iter body [] pos) (sFor it g tb) Γ := by
  obtain ⟨wi, p, q⟩ := hi
  obtain ⟨ts, p', q'⟩ := hb
  exact ⟨_, ps_for hp hc p hg.pg p' hs, for_q hcl hn hw q q'⟩
open Classical in
end
end L2
set_option maxRecDepth 100000
set_option maxHeartbeats 4000000
namespace L2
open PySem PySem.Spec PyProof.Rows
noncomputable def signs (x : Str) : List D := x.cps.toList.map fun c => .str ⟨#[c]⟩
noncomputable def asSeq : D -> R (List D)
  | .lst ds => .ok ds
  | .tup ds => .ok ds
  | .str x => .ok (signs x)
  | _ => .bad
noncomputable def iSeq (t : Tn -> R D) : Tn -> R (List D) := fun τ => (t τ).bind asSeq
noncomputable def rng (lo : Int) (n : Nat) : List D := (List.range n).map fun (i : Nat) => .int (lo + i)
noncomputable def enumGo : Nat -> List D -> List D
  | _, [] => []
  | n, d :: ds => .tup [.int n, d] :: enumGo (n + 1) ds
noncomputable def enumL : List D -> R (List D)
  | [.lst ds] => .ok (enumGo 0 ds)
  | _ => .bad
noncomputable def iL (g : List D -> R (List D)) (u : Tn -> R (List D)) : Tn -> R (List D) := fun τ => (u τ).bind g
theorem enumGo_len : ∀ (n : Nat) (ds : List D), (enumGo n ds).length = ds.length
  | _, [] => rfl
  | n, d :: ds => by unfold enumGo; rw [List.length_cons, List.length_cons, enumGo_len (n + 1) ds]
theorem enumGo_get : ∀ (n : Nat) (ds : List D) (i : Nat) (d : D), (enumGo n ds)[i]? = some d -> ∃ d', ds[i]? = some d' /\ d = .tup [.int ((n + i : Nat) : Int), d']
  | _, [], _, _, h => by simp [enumGo] at h
  | n, d :: ds, 0, e, h => by
    unfold enumGo at h
    simp at h
    exact ⟨d, rfl, h.symm⟩
  | n, d :: ds, i + 1, e, h => by
    unfold enumGo at h
    obtain ⟨d', h1, h2⟩ := enumGo_get (n + 1) ds i e (by simpa using h)
    exact ⟨d', by simpa using h1, by rw [h2, Nat.add_assoc, Nat.add_comm 1 i]⟩
section
variable {X : Cx} {E : XK} {Γ : List Cl} {tg e : Expr} {t : Tn -> R D} {u : Tn -> R (List D)} {c : Rc} {p pos : Pos}
theorem ItOk.list {K : PySem.W.Frag} {H : Hp} {a : Addr} {vs : List V} {ds : List D} {L L' : List Addr} (ha : H a = some (.lst vs)) (e : L = a :: L') (r : Reps K H ds vs L') : ItOk K (Itl K a) ds L H := by
  subst e
  refine ⟨fun b hb => ?_, fun H' tf kp i => ⟨fun d hd => ?_, fun hl => ?_⟩⟩
  · rcases List.mem_cons.mp hb with z | z
    · rw [z, ha]; simp
    · exact r.there z
  · have ha' : H' a = some (.lst vs) := (kp a List.mem_cons_self).trans ha
    obtain ⟨v, L1, e1, r1, sub⟩ := r.get hd
    refine ⟨⟨vs, v, SqL.of ha', e1⟩, fun x H'' ⟨e2, hy⟩ => ?_⟩
    subst e2
    have := hy vs (SqL.of ha')
    rw [e1] at this
    cases this
    exact ⟨Same.refl _, L1, Rep.keep tf d _ L1 r1 fun b hb => kp b (List.mem_cons_of_mem _ (sub.subset hb)), fun b hb => List.mem_cons_of_mem _ (sub.subset hb)⟩
  · have ha' : H' a = some (.lst vs) := (kp a List.mem_cons_self).trans ha
    exact ⟨vs, SqL.of ha', by rw [r.length]; exact hl⟩
theorem ItOk.tuple {K : PySem.W.Frag} {H : Hp} {a : Addr} {vs : List V} {ds : List D} {L : List Addr} (ha : SqT K H a vs) (hun : ∀ H' xs, TF H H' -> SqT K H' a xs -> xs = vs) (r : Reps K H ds vs L) : ItOk K (Itt K a) ds L H := by
  refine ⟨fun b hb => r.there hb, fun H' tf kp i => ⟨fun d hd => ?_, fun hl => ?_⟩⟩
  · have ha' := ha.tf tf
    obtain ⟨v, L1, e1, r1, sub⟩ := r.get hd
    refine ⟨⟨vs, v, ha', e1⟩, fun x H'' ⟨e2, hy⟩ => ?_⟩
    subst e2
    have := hy vs ha'
    rw [e1] at this
    cases this
    exact ⟨Same.refl _, L1, Rep.keep tf d _ L1 r1 fun b hb => kp b (sub.subset hb), fun b hb => sub.subset hb⟩
  · exact ⟨vs, ha.tf tf, by rw [r.length]; exact hl⟩
theorem ItOk.tup {K : PySem.W.Frag} {H : Hp} {a : Addr} {vs : List V} {ds : List D} {L : List Addr} (ha : SqT K H a vs) (r : Reps K H ds vs L) : ItOk K (Itt K a) ds L H := by
  refine ⟨fun b hb => r.there hb, fun H' tf kp i => ⟨fun d hd => ?_, fun hl => ?_⟩⟩
  · have ha' := ha.tf tf
    obtain ⟨v, L1, e1, r1, sub⟩ := r.get hd
    refine ⟨⟨vs, v, ha', e1⟩, fun x H'' ⟨e2, hy⟩ => ?_⟩
    subst e2
    have := hy vs ha'
    rw [e1] at this
    cases this
    exact ⟨Same.refl _, L1, Rep.keep tf d _ L1 r1 fun b hb => kp b (sub.subset hb), fun b hb => sub.subset hb⟩
  · exact ⟨vs, ha.tf tf, by rw [r.length]; exact hl⟩
theorem ItOk.str {K : PySem.W.Frag} {H : Hp} {x : Str} : ItOk K (Its x) (signs x) [] H := by
  refine ⟨fun b hb => (nomatch hb), fun H' tf kp i => ⟨fun d hd => ?_, fun hl => ?_⟩⟩
  · unfold signs at hd
    rw [List.getElem?_map] at hd
    cases hq : x.cps.toList[i]? with
    | none => rw [hq] at hd; cases hd
    | some k =>
      rw [hq] at hd
      have hd : D.str ⟨#[k]⟩ = d := Option.some.inj hd
      subst hd
      have hi : i < x.cps.size := by
        have := (List.getElem?_eq_some_iff.mp hq).1
        simpa using this
      refine ⟨hi, fun y H'' ⟨e2, c', e3, e4⟩ => ?_⟩
      subst e2 e4
      rw [<- Array.getElem?_toList, hq] at e3
      cases e3
      exact ⟨Same.refl _, [], ⟨rfl, rfl⟩, fun b hb => (nomatch hb)⟩
  · have : (signs x).length = x.cps.size := by simp [signs]
    show x.cps.size <= i
    lia
theorem ItOk.rng {K : PySem.W.Frag} {H : Hp} {lo : Int} {n : Nat} : ItOk K (Itr lo n) (L2.rng lo n) [] H := by
  refine ⟨fun b hb => (nomatch hb), fun H' tf kp i => ⟨fun d hd => ?_, fun hl => ?_⟩⟩
  · unfold L2.rng at hd
    rw [List.getElem?_map] at hd
    by_cases hi : i < n
    · rw [List.getElem?_range hi] at hd
      have hd : D.int (lo + (i : Int)) = d := Option.some.inj hd
      subst hd
      refine ⟨hi, fun y H'' ⟨e2, e3⟩ => ?_⟩
      subst e2 e3
      exact ⟨Same.refl _, [], ⟨rfl, rfl⟩, fun b hb => (nomatch hb)⟩
    · rw [List.getElem?_eq_none (by simp; lia)] at hd; cases hd
  · have : (L2.rng lo n).length = n := by simp [L2.rng]
    show n <= i
    lia
theorem ItOk.enum {K : PySem.W.Frag} {H : Hp} {a : Addr} {vs : List V} {ds : List D} {L L' : List Addr} (ha : H a = some (.lst vs)) (e : L = a :: L') (r : Reps K H ds vs L') : ItOk K (Ite K a) (enumGo 0 ds) L H := by
  subst e
  refine ⟨fun b hb => ?_, fun H' tf kp i => ⟨fun d hd => ?_, fun hl => ?_⟩⟩
  · rcases List.mem_cons.mp hb with z | z
    · rw [z, ha]; simp
    · exact r.there z
  · have ha' : H' a = some (.lst vs) := (kp a List.mem_cons_self).trans ha
    obtain ⟨d', hd', rfl⟩ := enumGo_get 0 ds i d hd
    obtain ⟨v, L1, e1, r1, sub⟩ := r.get hd'
    refine ⟨⟨vs, v, SqL.of ha', e1⟩, fun x H'' ⟨p, y, hp, e2, e3, hy⟩ => ?_⟩
    subst e2 e3
    have := hy vs (SqL.of ha')
    rw [e1] at this
    cases this
    refine ⟨Same.new hp, L1, ⟨p, _, rfl, SqT.of upd_same, ?_⟩, fun b hb => List.mem_cons_of_mem _ (sub.subset hb)⟩
    have r2 : Rep K H' d' v L1 := Rep.keep tf d' _ L1 r1 fun b hb => kp b (List.mem_cons_of_mem _ (sub.subset hb))
    have := Reps.cons (K := K) (H := upd H' p (.tup [.int (i : Int), v])) (d := .int ((0 + i : Nat) : Int)) (v := .int (i : Int)) (L1 := []) ⟨by simp, rfl⟩ (Reps.cons (r2.same (Same.new hp)) Reps.nil)
    simpa using this
  · have ha' : H' a = some (.lst vs) := (kp a List.mem_cons_self).trans ha
    rw [enumGo_len] at hl
    exact ⟨vs, SqL.of ha', by rw [r.length]; exact hl⟩
theorem mi_seq (h : ME X E Γ e t c) : MI X E Γ tg e (iSeq t) c := by
  obtain ⟨te, p, q⟩ := h
  refine ⟨fun σ H Rr => iList X.K te σ H Rr \/ iTup X.K te σ H Rr \/ iStr te σ H Rr, fun pins s σ H Rr I z => ?_, fun O σ H τ Rr ok h => ?_⟩
  · rcases z with z | z | z
    · exact pi_list p pins s σ H Rr I z
    · exact pi_tup p pins s σ H Rr I z
    · exact pi_str p pins s σ H Rr I z
  · unfold iSeq at h
    cases ht : t τ with
    | ok d =>
      rw [ht, R.ok_bind] at h
      cases d with
      | lst ds =>
        refine .inl (q O σ H τ _ ok ?_)
        rw [ht]
        refine fun v H1 L s r k => ?_
        obtain ⟨a, vs, L', rfl, ha, e, rs⟩ := r
        exact ⟨a, rfl, ⟨vs, SqL.of ha⟩, h _ H1 L s (ItOk.list ha e rs) fun n => k.shr ok.dom n⟩
      | tup ds =>
        refine .inr (.inl (q O σ H τ _ ok ?_))
        rw [ht]
        refine fun v H1 L s r k => ?_
        obtain ⟨a, vs, rfl, ha, rs⟩ := r
        exact ⟨a, rfl, ⟨vs, ha⟩, h _ H1 L s (ItOk.tup ha rs) fun n => k.shr ok.dom n⟩
      | str x =>
        refine .inr (.inr (q O σ H τ _ ok ?_))
        rw [ht]
        refine fun v H1 L s r k => ?_
        exact ⟨x, r.1, h _ H1 [] s ItOk.str fun n a ha => (nomatch ha)⟩
      | _ => exact h.elim
    | err n =>
      rw [ht] at h
      refine .inl (q O σ H τ _ ok ?_)
      rw [ht]; exact h
    | bad => rw [ht] at h; exact h.elim
theorem mi_enum {a : Expr} {elts : List Expr} {x1 : Nat} {tpos : Pos} (hg : Gl X "enumerate") (hm : X.mg "enumerate" = none) (ha : MA X E Γ [a] u c) (hb : autoParam (bootBuiltins "enumerate" = some (.type "enumerate")) L2.au3._auto_1) (hs : autoParam (starEach [a] X.env = [(false, eval a X.env)]) L2.au3._auto_1) :
    MI X E Γ (.Tuple elts x1 tpos) (.Call (.Name "enumerate" p) [a] [] pos) (iL enumL u) c := by
  obtain ⟨_, ta, p', q⟩ := ha
  refine ⟨_, pi_enum hg hm p' hb hs, fun O σ H τ Rr ok h => q O σ H τ _ ok ?_⟩
  unfold iL at h
  cases ht : u τ with
  | ok ds =>
    rw [ht, R.ok_bind] at h
    refine fun vs H1 L s r k => ?_
    unfold enumL at h
    split at h
    · rename_i ds
      obtain ⟨v, vs', L1, L2, e1, e2, r1, r2⟩ := r
      obtain ⟨rfl, rfl⟩ := r2
      rw [List.append_nil] at e2
      subst e2
      obtain ⟨a', vs2, L', rfl, ha, e, rs⟩ := r1
      exact ⟨a', e1, ⟨vs2, SqL.of ha⟩, h _ H1 _ s (ItOk.enum ha e rs) fun n => k.shr ok.dom n⟩
    · exact h.elim
  | err n => rw [ht] at h; exact h
  | bad => rw [ht] at h; exact h
end
section
variable {K : PySem.W.Frag} {Γ : List Cl} {O : Addr -> Prop} {H : Hp} {σ : St} {τ : Tn}
theorem EOk.put {i : Nat} {k : Cl} {d : D} {v : V} {L : List Addr} (h : EOk K Γ O H σ τ) (r : Rep K H d v L) (hk : k = .shr -> ∀ a ∈ L, ¬ O a) (h1 : σ.length = Γ.length) (h2 : τ.length = Γ.length) : EOk K (Γ.set i k) O H (σ.set i (some v)) (τ.set i (some d)) := by
  refine ⟨h.dom, fun j c e hc => ?_⟩
  by_cases z : i = j
  · subst z
    have hi : i < Γ.length := by
      have := (List.getElem?_eq_some_iff.mp e).1
      simpa using this
    rw [List.getElem?_set_self hi] at e
    cases e
    exact ⟨v, d, L, by rw [List.getElem?_set_self (by lia)], by rw [List.getElem?_set_self (by lia)], r, hk⟩
  · rw [List.getElem?_set_ne z] at e
    obtain ⟨v', d', L', a1, a2, a3, a4⟩ := h.slot j c e hc
    exact ⟨v', d', L', by rw [List.getElem?_set_ne z]; exact a1, by rw [List.getElem?_set_ne z]; exact a2, a3, a4⟩
end
end L2
set_option maxRecDepth 100000
set_option maxHeartbeats 4000000
namespace L2
open PySem PySem.Spec PyProof.Rows
theorem EOk.live {K : PySem.W.Frag} {Γ : List Cl} {O : Addr -> Prop} {H : Hp} {σ σ' : St} {τ : Tn} (h : EOk K Γ O H σ τ) (e : ∀ (j : Nat) (c : Cl), Γ[j]? = some c -> c ≠ Cl.dead -> σ'[j]? = σ[j]?) : EOk K Γ O H σ' τ :=
  ⟨h.dom, fun i c e1 hc => by
    obtain ⟨v, d, L, a1, a2, a3, a4⟩ := h.slot i c e1 hc
    exact ⟨v, d, L, by rw [e i c e1 hc]; exact a1, a2, a3, a4⟩⟩
section
variable {X : Cx} {E : XK} {Γ : List Cl} {pos : Pos}
end
noncomputable def spM (K : PySem.W.Frag) (F : List D -> R D) (n : Nat) : Sp := fun vs H Q E => vs.length = n /\ ∃ ds L, Reps K H ds vs L /\ post K E (fun _ => False) .fresh H Q (F ds)
noncomputable def runB (n : Nat) (t : Tn -> R Fl) (ds : List D) : R D := match t (ds.map some ++ List.replicate (n - ds.length) none) with
  | .ok (.rt d) => .ok d
  | .ok (.nx _) => .ok .non
  | .err c => .err c
  | _ => .bad
noncomputable def prmC (n m : Nat) : List Cl := List.replicate m .shr ++ List.replicate (n - m) .dead
theorem Reps.slot {K : PySem.W.Frag} {H : Hp} {ds : List D} {vs : List V} {L : List Addr} (r : Reps K H ds vs L) : ∃ Ls : Nat -> List Addr, ∀ (i : Nat) (d : D), ds[i]? = some d -> ∃ v, vs[i]? = some v /\ Rep K H d v (Ls i) := by
  have : ∀ i : Nat, ∃ L1 : List Addr, ∀ d, ds[i]? = some d -> ∃ v, vs[i]? = some v /\ Rep K H d v L1 := fun i => by
    cases h : ds[i]? with
    | none => exact ⟨[], fun d z => by cases z⟩
    | some d =>
      obtain ⟨v, L1, e1, r1, _⟩ := r.get h
      exact ⟨L1, fun d' z => by cases z; exact ⟨v, e1, r1⟩⟩
  exact ⟨fun i => Classical.choose (this i), fun i => Classical.choose_spec (this i)⟩
theorem SOk.start {K : PySem.W.Frag} {H : Hp} {N : List Str} {ds : List D} {vs : List V} {L : List Addr} (r : Reps K H ds vs L) (hn : vs.length <= N.length) : SOk K (prmC N.length vs.length) H H (L2.start N vs) (ds.map some ++ List.replicate (N.length - ds.length) none) [] := by
  have hl := r.length
  have lp : (prmC N.length vs.length).length = N.length := by unfold prmC; rw [List.length_append, List.length_replicate, List.length_replicate]; lia
  obtain ⟨Ls, hL⟩ := r.slot
  have cls : ∀ i c, (prmC N.length vs.length)[i]? = some c -> c ≠ .dead -> i < vs.length /\ c = .shr := fun i c e hc => by
    unfold prmC at e
    by_cases hi : i < vs.length
    · rw [List.getElem?_append_left (by simpa using hi), List.getElem?_replicate, if_pos hi] at e
      exact ⟨hi, (Option.some.inj e).symm⟩
    · rw [List.getElem?_append_right (by simp; lia), List.getElem?_replicate] at e
      split at e
      · exact absurd (Option.some.inj e).symm hc
      · cases e
  have no : ∀ i : Nat, (prmC N.length vs.length)[i]? ≠ some Cl.own := fun i e => by
    have := (cls i _ e (by simp)).2
    cases this
  refine ⟨Same.refl H, ?_, ?_, Ls, fun i c e hc => ?_, fun i e => absurd e (no i), fun i j c _ e => absurd e (no i), List.nodup_nil, fun a ha => (nomatch ha), fun i c e hc a ha hm => (nomatch hm)⟩
  · unfold L2.start; rw [lp, List.length_append, List.length_map, List.length_replicate]; lia
  · rw [lp, List.length_append, List.length_map, List.length_replicate]; lia
  · obtain ⟨hi, _⟩ := cls i c e hc
    have hi' : i < ds.length := by lia
    obtain ⟨v, e1, r1⟩ := hL i ds[i] (by simp [hi'])
    refine ⟨v, ds[i], ?_, ?_, r1⟩
    · unfold L2.start
      rw [List.getElem?_append_left (by simpa using hi), List.getElem?_map, e1]; rfl
    · rw [List.getElem?_append_left (by simpa using hi'), List.getElem?_map]; simp [hi']
section
variable {P : Program} {w : World} {K : PySem.W.Frag} {mg : Str -> Option Value} {base : Heap} {x : Str} {st : Stmt} {N ps : List Str} {k : Nat} {t : Tn -> R Fl} {Γ' : List Cl}
theorem DefIn.mir (Df : DefIn K mg x st ps) (S : FnScope N ps (defScope st)) (hn : ps.length <= N.length)
    (hbody : ∀ (f : Addr) (cdv : Value) (A : Around) (outer : List Env) (s : Shared) (H : Hp) (E : XK), Room k (A.deeper (envOfC x (defScope st) s.heap.objs.size f cdv)) ->
      MSs (cxOf (cxx P w) P w K mg base N x (defScope st) f cdv A outer s H E) E [] (prmC N.length ps.length) (defBody st) t Γ') : Own P w K mg base x (k + 1) ps (spM K (runB N.length t) ps.length) := by
  refine Df.own S (fun vs H Q E h => h.1) fun f cdv A outer s H vs Q E hr h => ?_
  obtain ⟨hl, ds, L, r, h⟩ := h
  obtain ⟨ts, p, q⟩ := hbody f cdv A outer s H E hr
  refine ⟨ts, p, q H (start N vs) H _ _ (hl ▸ SOk.start r (by lia)) ?_⟩
  unfold runB at h
  cases ht : t (ds.map some ++ List.replicate (N.length - ds.length) none) with
  | ok f =>
    rw [ht] at h
    cases f with
    | nx τ' => exact fun σ' H' ok' => h .non H' [] ok'.ext ⟨rfl, rfl⟩ RcOk.nil
    | rt d => exact fun v H' L s r n1 n2 => h v H' L s r ⟨n1, n2⟩
    | bk τ' => exact h.elim
    | ct τ' => exact h.elim
  | err n => rw [ht] at h; exact fun C H' e s => h C H' e s
  | bad => rw [ht] at h; exact h.elim
end
section
variable {X : Cx} {E : XK} {Γ Γ' Γl : List Cl} {x : Str} {k : Nat} {ps : List Str} {F : List D -> R D} {e : Expr} {es : List Expr} {u : Tn -> R (List D)} {c : Rc} {p pos : Pos} {n : Nat}
theorem me_call (O : Own X.prog X.w X.K X.mg X.base x k ps (spM X.K F n)) (hr : Room k X.A) (hg : Gl X x) (hx : Passes (cxx X.prog X.w) X E) (ha : MA X E Γ (e :: es) u c) (hl : autoParam ((e :: es).length = n) L2.au3._auto_1) (hdb : autoParam ((x == ("__debug__" : Str)) = false) L2.au1._auto_1)
    (he : autoParam (starEach (e :: es) X.env = (false, eval e X.env) :: starEach es X.env) L2.au3._auto_1) (hpl : autoParam ((backTo pos (starEach es X.env)).any (·.1) = false) L2.au3._auto_1) : ME X E Γ (.Call (.Name x p) (e :: es) [] pos) (eL F u) .fresh := by
  obtain ⟨hlen, ta, pa, q⟩ := ha
  refine ⟨_, pe_own O hr hg hx pa hdb he hpl, fun O' σ H τ Q ok h => q O' σ H τ _ ok ?_⟩
  unfold eL at h
  cases hu : u τ with
  | ok ds =>
    rw [hu, R.ok_bind] at h
    refine fun vs H1 L s1 r1 _ => ?_
    have hv : (vs ++ []).length = n := by rw [List.append_nil, r1.length, hlen τ ds hu]; exact hl
    refine ⟨hv, ds, L, by rw [List.append_nil]; exact r1, ?_⟩
    have h1 := h.same s1
    cases hF : F ds with
    | ok d => rw [hF] at h1; exact h1
    | err n => rw [hF] at h1; exact h1
    | bad => rw [hF] at h1; exact h1
  | err n => rw [hu] at h; exact h
  | bad => rw [hu] at h; exact h
theorem me_call0 (O : Own X.prog X.w X.K X.mg X.base x k ps (spM X.K F 0)) (hr : Room k X.A) (hg : Gl X x) (hx : Passes (cxx X.prog X.w) X E) (hdb : autoParam ((x == ("__debug__" : Str)) = false) L2.au1._auto_1) : ME X E Γ (.Call (.Name x p) [] [] pos) (fun _ => F []) .fresh := by
  refine ⟨_, pe_own0 O hr hg hx hdb, fun O' σ H τ Q ok h => ⟨rfl, [], [], Reps.nil, ?_⟩⟩
  cases hF : F [] with
  | ok d => rw [hF] at h; exact h
  | err n => rw [hF] at h; exact h
  | bad => rw [hF] at h; exact h
end
end L2
set_option maxRecDepth 100000
set_option maxHeartbeats 4000000
namespace L2
open PySem PySem.Spec PyProof.Rows
noncomputable def D.isS : D -> Bool
  | .non => true
  | .bl _ => true
  | .int _ => true
  | .str _ => true
  | _ => false
noncomputable def eqS : D -> D -> Bool
  | .non, .non => true
  | .bl a, .bl b => a == b
  | .bl a, .int b => (if a then 1 else 0) == b
  | .int a, .bl b => a == (if b then 1 else 0)
  | .int a, .int b => a == b
  | .str a, .str b => a == b
  | _, _ => false
noncomputable def eqZip (f : D -> D -> Option Bool) : List D -> List D -> Option Bool
  | x :: xs, y :: ys => match f x y, eqZip f xs ys with
    | some a, some b => some (a && b)
    | _, _ => none
  | _, _ => some true
theorem nonB {b : Bool} (h : (none : Option Bool) = some b) : False := by cases h
noncomputable def eqF : Nat -> D -> D -> Option Bool
  | 0, x, y => if (x.isS && y.isS) = true then some (eqS x y) else none
  | n + 1, x, y => match x, y with
    | .lst xs, .lst ys => if xs.length = ys.length then eqZip (eqF n) xs ys else some false
    | .tup xs, .tup ys => (eqZip (eqF n) xs ys).map fun b => b && xs.length == ys.length
    | .frl xs, .lst ys => if xs.length = ys.length then eqZip (eqF n) xs ys else some false
    | .frl xs, .frl ys => if xs.length = ys.length then eqZip (eqF n) xs ys else some false
    | .lst _, .tup _ => some false
    | .tup _, .lst _ => some false
    | .lst _, y => if y.isS = true then some false else none
    | .tup _, y => if y.isS = true then some false else none
    | x, .lst _ => if x.isS = true then some false else none
    | x, .tup _ => if x.isS = true then some false else none
    | x, y => if (x.isS && y.isS) = true then some (eqS x y) else none
theorem scalU {K : PySem.W.Frag} {H : Hp} {d : D} {v : V} {L : List Addr} {u : Value} (h : d.isS = true) (r : Rep K H d v L) (q : RelV v u) :
    (d = .non /\ u = .none) \/ (∃ b, d = .bl b /\ u = .bool b) \/ (∃ i t, d = .int i /\ u = .int i t) \/ ∃ x t, d = .str x /\ u = .str x t := by
  cases d with
  | non => obtain ⟨rfl, _⟩ := r; exact .inl ⟨rfl, q⟩
  | bl b => obtain ⟨rfl, _⟩ := r; exact .inr (.inl ⟨b, rfl, q⟩)
  | int i => obtain ⟨rfl, _⟩ := r; obtain ⟨t, e⟩ := q; exact .inr (.inr (.inl ⟨i, t, rfl, e⟩))
  | str x => obtain ⟨rfl, _⟩ := r; obtain ⟨t, e⟩ := q; exact .inr (.inr (.inr ⟨x, t, rfl, e⟩))
  | _ => cases h
open SeqAt in
theorem rc_scal {A : Around} {s : Shared} {K : PySem.W.Frag} {H : Hp} {d1 d2 : D} {v1 v2 : V} {L1 L2 : List Addr} {u1 u2 : Value} (h1 : d1.isS = true) (h2 : d2.isS = true) (r1 : Rep K H d1 v1 L1) (r2 : Rep K H d2 v2 L2) (q1 : RelV v1 u1) (q2 : RelV v2 u2) :
    RcAt A s u1 u2 (eqS d1 d2) /\ EqAt A s u1 u2 (eqS d1 d2) /\ RcNeAt A s u1 u2 (!eqS d1 d2) := by
  rcases scalU h1 r1 q1 with ⟨rfl, rfl⟩ | ⟨a, rfl, rfl⟩ | ⟨a, t, rfl, rfl⟩ | ⟨a, t, rfl, rfl⟩ <;>
  rcases scalU h2 r2 q2 with ⟨rfl, rfl⟩ | ⟨b, rfl, rfl⟩ | ⟨b, t', rfl, rfl⟩ | ⟨b, t', rfl, rfl⟩
  · exact ⟨RcAt.none_none, EqAt.same _, RcNeAt.none_none⟩
  · exact ⟨RcAt.none_bool b, EqAt.none_bool b, RcNeAt.none_bool b⟩
  · exact ⟨RcAt.none_int b _, EqAt.none_int b _, RcNeAt.none_int b _⟩
  · exact ⟨RcAt.none_str b _, EqAt.none_str b _, RcNeAt.none_str b _⟩
  · exact ⟨RcAt.bool_none a, EqAt.bool_none a, RcNeAt.bool_none a⟩
  · exact ⟨RcAt.bool_bool a b, EqAt.bool_bool a b, RcNeAt.bool_bool a b⟩
  · exact ⟨RcAt.bool_int a b _, EqAt.bool_int a b _, RcNeAt.bool_int a b _⟩
  · exact ⟨RcAt.bool_str a b _, EqAt.bool_str a b _, RcNeAt.bool_str a b _⟩
  · exact ⟨RcAt.int_none a _, EqAt.int_none a _, RcNeAt.int_none a _⟩
  · exact ⟨RcAt.int_bool a _ b, EqAt.int_bool a _ b, RcNeAt.int_bool a _ b⟩
  · exact ⟨RcAt.int_int a _ b _, EqAt.int_int a _ b _, RcNeAt.int_int a _ b _⟩
  · exact ⟨RcAt.int_str a _ b _, EqAt.int_str a _ b _, RcNeAt.int_str a _ b _⟩
  · exact ⟨RcAt.str_none a _, EqAt.str_none a _, RcNeAt.str_none a _⟩
  · exact ⟨RcAt.str_bool a _ b, EqAt.str_bool a _ b, RcNeAt.str_bool a _ b⟩
  · exact ⟨RcAt.str_int a _ b _, EqAt.str_int a _ b _, RcNeAt.str_int a _ b _⟩
  · exact ⟨RcAt.str_str a _ b _, EqAt.str_str a _ b _, RcNeAt.str_str a _ b _⟩
open SeqAt in
theorem rc_ls {A : Around} {s : Shared} {K : PySem.W.Frag} {H : Hp} {d : D} {v : V} {L : List Addr} {u : Value} {l : Addr} {items : Array Value} (hd : d.isS = true) (r : Rep K H d v L) (q : RelV v u) (hl : s.heap.IsList l items) (hu : A.units < cLine) :
    (RcAt A s (.ref l) u false /\ EqAt A s (.ref l) u false /\ RcNeAt A s (.ref l) u true) /\ RcAt A s u (.ref l) false /\ EqAt A s u (.ref l) false /\ RcNeAt A s u (.ref l) true := by
  rcases scalU hd r q with ⟨rfl, rfl⟩ | ⟨b, rfl, rfl⟩ | ⟨b, t', rfl, rfl⟩ | ⟨b, t', rfl, rfl⟩
  · exact ⟨⟨RcAt.list_none hl hu, EqAt.list_none hl hu, RcNeAt.list_none hl hu⟩, RcAt.none_list hl hu, EqAt.none_list hl hu, RcNeAt.none_list hl hu⟩
  · exact ⟨⟨RcAt.list_bool b hl hu, EqAt.list_bool b hl hu, RcNeAt.list_bool b hl hu⟩, RcAt.bool_list b hl hu, EqAt.bool_list b hl hu, RcNeAt.bool_list b hl hu⟩
  · exact ⟨⟨RcAt.list_int b _ hl hu, EqAt.list_int b _ hl hu, RcNeAt.list_int b _ hl hu⟩, RcAt.int_list b _ hl hu, EqAt.int_list b _ hl hu, RcNeAt.int_list b _ hl hu⟩
  · exact ⟨⟨RcAt.list_str b _ hl hu, EqAt.list_str b _ hl hu, RcNeAt.list_str b _ hl hu⟩, RcAt.str_list b _ hl hu, EqAt.str_list b _ hl hu, RcNeAt.str_list b _ hl hu⟩
open SeqAt in
theorem rc_ts {A : Around} {s : Shared} {K : PySem.W.Frag} {H : Hp} {d : D} {v : V} {L : List Addr} {u : Value} {l : Addr} {items : Array Value} (hd : d.isS = true) (r : Rep K H d v L) (q : RelV v u) (hl : s.heap.IsTuple l items) (hu : A.units < cLine) :
    (RcAt A s (.ref l) u false /\ EqAt A s (.ref l) u false /\ RcNeAt A s (.ref l) u true) /\ RcAt A s u (.ref l) false /\ EqAt A s u (.ref l) false /\ RcNeAt A s u (.ref l) true := by
  rcases scalU hd r q with ⟨rfl, rfl⟩ | ⟨b, rfl, rfl⟩ | ⟨b, t', rfl, rfl⟩ | ⟨b, t', rfl, rfl⟩
  · exact ⟨⟨RcAt.tuple_none hl hu, EqAt.tuple_none hl hu, RcNeAt.tuple_none hl hu⟩, RcAt.none_tuple hl hu, EqAt.none_tuple hl hu, RcNeAt.none_tuple hl hu⟩
  · exact ⟨⟨RcAt.tuple_bool b hl hu, EqAt.tuple_bool b hl hu, RcNeAt.tuple_bool b hl hu⟩, RcAt.bool_tuple b hl hu, EqAt.bool_tuple b hl hu, RcNeAt.bool_tuple b hl hu⟩
  · exact ⟨⟨RcAt.tuple_int b _ hl hu, EqAt.tuple_int b _ hl hu, RcNeAt.tuple_int b _ hl hu⟩, RcAt.int_tuple b _ hl hu, EqAt.int_tuple b _ hl hu, RcNeAt.int_tuple b _ hl hu⟩
  · exact ⟨⟨RcAt.tuple_str b _ hl hu, EqAt.tuple_str b _ hl hu, RcNeAt.tuple_str b _ hl hu⟩, RcAt.str_tuple b _ hl hu, EqAt.str_tuple b _ hl hu, RcNeAt.str_tuple b _ hl hu⟩
noncomputable def eqAtJ (f : D -> D -> Option Bool) (xs ys : List D) (j : Nat) : Bool := match xs[j]?, ys[j]? with
  | some x, some y => (f x y).getD false
  | _, _ => true
theorem eqZip_all {f : D -> D -> Option Bool} : ∀ {xs ys : List D} {b : Bool}, eqZip f xs ys = some b -> b = (List.range (min xs.length ys.length)).all (eqAtJ f xs ys) /\ ∀ j x y, xs[j]? = some x -> ys[j]? = some y -> f x y = some (eqAtJ f xs ys j)
  | [], ys, b, h => by
    unfold eqZip at h
    cases h
    exact ⟨by simp, fun j x y e => by simp at e⟩
  | x :: xs, [], b, h => by
    unfold eqZip at h
    cases h
    exact ⟨by simp, fun j x y e e' => by simp at e'⟩
  | x :: xs, y :: ys, b, h => by
    unfold eqZip at h
    cases h1 : f x y with
    | none => rw [h1] at h; cases h
    | some a =>
      cases h2 : eqZip f xs ys with
      | none => rw [h1, h2] at h; cases h
      | some b' =>
        rw [h1, h2] at h
        cases h
        obtain ⟨e1, e2⟩ := eqZip_all h2
        have z0 : eqAtJ f (x :: xs) (y :: ys) 0 = a := by simp [eqAtJ, h1]
        have zs : ∀ j, eqAtJ f (x :: xs) (y :: ys) (j + 1) = eqAtJ f xs ys j := fun j => by simp [eqAtJ]
        refine ⟨?_, fun j x' y' ex ey => ?_⟩
        · have hm : min (x :: xs).length (y :: ys).length = min xs.length ys.length + 1 := by simp [Nat.succ_min_succ]
          rw [hm, List.range_succ_eq_map, List.all_cons, List.all_map, z0, e1]
          congr 1
        · cases j with
          | zero => simp at ex ey; subst ex ey; rw [z0]; exact h1
          | succ j => rw [zs]; exact e2 j x' y' (by simpa using ex) (by simpa using ey)
section
variable {X : Cx} {pins : List (Addr × Obj)} {σ : St} {H : Hp} {s : Shared}
noncomputable def D.ofV : V -> D
  | .bl b => .bl b
  | .int i => .int i
  | .str x => .str x
  | _ => .non
theorem Rep.ofV {K : PySem.W.Frag} {H : Hp} {d : D} {v : V} {L : List Addr} (h : ∀ a, v ≠ .ref a) (r : Rep K H d v L) : d = D.ofV v := by
  cases d with
  | non => rw [r.1]; rfl
  | bl => rw [r.1]; rfl
  | int => rw [r.1]; rfl
  | str => rw [r.1]; rfl
  | tup => obtain ⟨a, _, e, _⟩ := r; exact absurd e (h a)
  | lst => obtain ⟨a, _, _, e, _⟩ := r; exact absurd e (h a)
  | dic => obtain ⟨a, _, _, e, _⟩ := r; exact absurd e (h a)
  | frl => obtain ⟨a, _, e, _⟩ := r; exact absurd e (h a)
theorem Rep.oneS {K : PySem.W.Frag} {H : Hp} {d d' : D} {u v : V} {L L' : List Addr} (e : v = u) (hs : ∀ a, u ≠ .ref a) (r : Rep K H d v L) (r' : Rep K H d' v L') : d = d' := by
  subst e
  exact (r.ofV hs).trans (r'.ofV hs).symm
theorem Rep.noS {K : PySem.W.Frag} {H : Hp} {d : D} {a : Addr} {L : List Addr} (r : Rep K H d (.ref a) L) (h : d.isS = true) : False := by
  cases d with
  | non => cases r.1
  | bl => cases r.1
  | int => cases r.1
  | str => cases r.1
  | _ => cases h
theorem no_tl {a : Addr} {vs : List V} {o : HO} (I : Inv X pins σ H s) (h : SqT X.K H a vs) (h' : H a = some o) (n1 : ∀ xs, o ≠ .tup xs) (n2 : ∀ p xs, o ≠ .frz p (.tup xs)) : False := by
  rcases h with (z | ⟨p, z⟩) | ⟨o', its, n, hk, hc, _⟩
  · rw [z] at h'; exact n1 _ (Option.some.inj h').symm
  · rw [z] at h'; exact n2 _ _ (Option.some.inj h').symm
  · have := (I.bs a o' (I.mod.kin a o' hk)).2
    rw [this] at h'; cases h'
theorem no_fl {a : Addr} {vs : List V} {o : HO} (I : Inv X pins σ H s) (h : SqF X.K H a vs) (h' : H a = some o) (n2 : ∀ p xs, o ≠ .frz p (.lst xs)) : False := by
  rcases h with ⟨p, z⟩ | ⟨o', its, n, hk, hc, _⟩
  · rw [z] at h'; exact n2 _ _ (Option.some.inj h').symm
  · have := (I.bs a o' (I.mod.kin a o' hk)).2
    rw [this] at h'; cases h'
theorem no_tf {a : Addr} {vs ws : List V} (I : Inv X pins σ H s) (h' : SqT X.K H a ws) (h : SqF X.K H a vs) : False := by
  obtain ⟨its, _, ⟨o1, n1, e1, c1, _⟩, _⟩ := I.list h.sq
  obtain ⟨its2, _, ⟨o2, e2, c2, _⟩, _⟩ := I.tuple h'
  rw [e1] at e2
  cases e2
  rw [c1] at c2
  exact absurd c2 (by simp)
theorem no_ld {a : Addr} {xs : List V} {kvs : List (Key × V)} {H : Hp} (h : H a = some (.lst xs)) (h' : H a = some (.dK kvs)) : False := by
  rw [h] at h'; cases h'
mutual
theorem Rep.one (I : Inv X pins σ H s) : ∀ (d d' : D) (v : V) (L L' : List Addr), Rep X.K H d v L -> Rep X.K H d' v L' -> d = d'
  | .non, _, _, _, _, r, r' => Rep.oneS r.1 (fun _ z => V.noConfusion z) r r'
  | .bl _, _, _, _, _, r, r' => Rep.oneS r.1 (fun _ z => V.noConfusion z) r r'
  | .int _, _, _, _, _, r, r' => Rep.oneS r.1 (fun _ z => V.noConfusion z) r r'
  | .str _, _, _, _, _, r, r' => Rep.oneS r.1 (fun _ z => V.noConfusion z) r r'
  | .tup ds, d', _, L, L', hq5, r => by
    obtain ⟨a, vs, e, h, rs⟩ := hq5
    subst e
    cases d' with
    | non => exact (Rep.noS r rfl).elim
    | bl _ => exact (Rep.noS r rfl).elim
    | int _ => exact (Rep.noS r rfl).elim
    | str _ => exact (Rep.noS r rfl).elim
    | tup ds' =>
      obtain ⟨a', vs', e, h', rs'⟩ := r
      cases e
      cases I.tuple_inj h h'
      rw [Reps.one I ds ds' vs L L' rs rs']
    | lst _ =>
      obtain ⟨_, _, _, e, h', _⟩ := r
      cases e
      exact (no_tl I h h' (fun _ z => HO.noConfusion z) fun _ _ z => HO.noConfusion z).elim
    | dic _ _ =>
      obtain ⟨_, _, _, e, h', _⟩ := r
      cases e
      exact (no_tl I h h' (fun _ z => HO.noConfusion z) fun _ _ z => HO.noConfusion z).elim
    | frl _ =>
      obtain ⟨_, _, e, h', _⟩ := r
      cases e
      exact (no_tf I h h').elim
  | .lst ds, d', _, L, L', hq5, r => by
    obtain ⟨a, vs, L1, e, h, _, rs⟩ := hq5
    subst e
    cases d' with
    | non => exact (Rep.noS r rfl).elim
    | bl _ => exact (Rep.noS r rfl).elim
    | int _ => exact (Rep.noS r rfl).elim
    | str _ => exact (Rep.noS r rfl).elim
    | tup ds' =>
      obtain ⟨a', vs', e, h', rs'⟩ := r
      cases e
      exact (no_tl I h' h (fun _ z => HO.noConfusion z) fun _ _ z => HO.noConfusion z).elim
    | lst ds' =>
      obtain ⟨_, _, _, e, h', _, rs'⟩ := r
      cases e
      rw [h] at h'
      cases h'
      rw [Reps.one I ds ds' vs _ _ rs rs']
    | dic _ _ =>
      obtain ⟨_, _, _, e, h', _⟩ := r
      cases e
      exact (no_ld h h').elim
    | frl _ =>
      obtain ⟨_, _, e, h', _⟩ := r
      cases e
      exact (no_fl I h' h fun _ _ z => HO.noConfusion z).elim
  | .dic ks ds, d', _, L, L', hq5, r => by
    obtain ⟨a, kvs, L1, e, h, _, hk, _, rs⟩ := hq5
    subst e
    cases d' with
    | non => exact (Rep.noS r rfl).elim
    | bl _ => exact (Rep.noS r rfl).elim
    | int _ => exact (Rep.noS r rfl).elim
    | str _ => exact (Rep.noS r rfl).elim
    | tup ds' =>
      obtain ⟨a', vs', e, h', rs'⟩ := r
      cases e
      exact (no_tl I h' h (fun _ z => HO.noConfusion z) fun _ _ z => HO.noConfusion z).elim
    | lst ds' =>
      obtain ⟨_, _, _, e, h', _, rs'⟩ := r
      cases e
      exact (no_ld h' h).elim
    | dic ks' ds' =>
      obtain ⟨_, _, _, e, h', _, hk', _, rs'⟩ := r
      cases e
      rw [h] at h'
      cases h'
      rw [<- hk, <- hk', Reps.one I ds ds' _ _ _ rs rs']
    | frl _ =>
      obtain ⟨_, _, e, h', _⟩ := r
      cases e
      exact (no_fl I h' h fun _ _ z => HO.noConfusion z).elim
  | .frl ds, d', _, L, L', hq5, r => by
    obtain ⟨a, vs, e, h, _, _, rs⟩ := hq5
    subst e
    cases d' with
    | non => exact (Rep.noS r rfl).elim
    | bl _ => exact (Rep.noS r rfl).elim
    | int _ => exact (Rep.noS r rfl).elim
    | str _ => exact (Rep.noS r rfl).elim
    | tup ds' =>
      obtain ⟨a', vs', e, h', rs'⟩ := r
      cases e
      exact (no_tf I h' h).elim
    | lst ds' =>
      obtain ⟨_, _, _, e, h', _, rs'⟩ := r
      cases e
      exact (no_fl I h h' fun _ _ z => HO.noConfusion z).elim
    | dic ks' ds' =>
      obtain ⟨_, _, _, e, h', _, hk', _, rs'⟩ := r
      cases e
      exact (no_fl I h h' fun _ _ z => HO.noConfusion z).elim
    | frl ds' =>
      obtain ⟨_, _, e, h', _, _, rs'⟩ := r
      cases e
      have := I.list_inj h.sq h'.sq
      subst this
      rw [Reps.one I ds ds' vs _ _ rs rs']
theorem Reps.one (I : Inv X pins σ H s) : ∀ (ds ds' : List D) (vs : List V) (L L' : List Addr), Reps X.K H ds vs L -> Reps X.K H ds' vs L' -> ds = ds'
  | [], ds', _, _, _, hq5, r => by
    obtain ⟨e, _⟩ := hq5
    subst e
    cases ds' with
    | nil => rfl
    | cons _ _ => obtain ⟨_, _, _, _, e, _⟩ := r; cases e
  | d :: ds, ds', _, _, _, hq5, r => by
    obtain ⟨v, vs', L1, L2, e1, _, h1, h2⟩ := hq5
    subst e1
    cases ds' with
    | nil => obtain ⟨e, _⟩ := r; cases e
    | cons d' ds' =>
      obtain ⟨v', vs2, L3, L4, e, _, r1, r2⟩ := r
      cases e
      rw [Rep.one I d d' v _ _ h1 r1, Reps.one I ds ds' vs' _ _ h2 r2]
end
end
theorem eqS_refl : ∀ (d : D), d.isS = true -> eqS d d = true
  | .non, _ => rfl
  | .bl b, _ => beq_self_eq_true b
  | .int b, _ => beq_self_eq_true b
  | .str b, _ => beq_self_eq_true b
  | .tup _, h => nomatch h
  | .lst _, h => nomatch h
  | .dic _ _, h => nomatch h
  | .frl _, h => nomatch h
theorem eqF_refl : ∀ (n : Nat) (d : D) (b : Bool), eqF n d d = some b -> b = true := by
  intro n
  induction n with
  | zero =>
    intro d b h
    replace h : (if (d.isS && d.isS) = true then some (eqS d d) else none) = some b := h
    split at h
    · rename_i hs
      simp only [Bool.and_self] at hs
      rw [eqS_refl d hs] at h
      exact (Option.some.inj h).symm
    · cases h
  | succ n ih =>
    have zip : ∀ (xs : List D) (b : Bool), eqZip (eqF n) xs xs = some b -> b = true := by
      intro xs
      induction xs with
      | nil => intro b h; unfold eqZip at h; exact (Option.some.inj h).symm
      | cons x xs ihx =>
        intro b h
        unfold eqZip at h
        cases h1 : eqF n x x with
        | none => rw [h1] at h; cases h
        | some a =>
          cases h2 : eqZip (eqF n) xs xs with
          | none => rw [h1, h2] at h; cases h
          | some b' =>
            rw [h1, h2] at h
            cases h
            rw [ih x a h1, ihx b' h2]; rfl
    intro d b h
    cases d with
    | lst xs =>
      have h : (if xs.length = xs.length then eqZip (eqF n) xs xs else some false) = some b := h
      rw [if_pos rfl] at h
      exact zip xs b h
    | tup xs =>
      have h : (eqZip (eqF n) xs xs).map (fun b => b && xs.length == xs.length) = some b := h
      cases h1 : eqZip (eqF n) xs xs with
      | none => rw [h1] at h; cases h
      | some b' => rw [h1] at h; rw [zip xs b' h1] at h; simp at h; exact h.symm ▸ rfl
    | non => have h : some true = some b := h; exact (Option.some.inj h).symm
    | bl x => have h : some (x == x) = some b := h; exact (Option.some.inj h).symm.trans (beq_self_eq_true x)
    | int x => have h : some (x == x) = some b := h; exact (Option.some.inj h).symm.trans (beq_self_eq_true x)
    | str x => have h : some (x == x) = some b := h; exact (Option.some.inj h).symm.trans (beq_self_eq_true x)
    | dic _ _ => cases h
    | frl xs =>
      have h : (if xs.length = xs.length then eqZip (eqF n) xs xs else some false) = some b := h
      rw [if_pos rfl] at h
      exact zip xs b h
open SeqAt in
theorem eq_of_rc {A : Around} {s : Shared} {a a' : Addr} {b : Bool} (h : RcAt A s (.ref a) (.ref a') b) (hs : a = a' -> b = true) : EqAt A s (.ref a) (.ref a') b := by
  by_cases z : a = a'
  · subst z
    rw [hs rfl]
    exact EqAt.same _
  · exact EqAt.of_refs z h
open SeqAt in
theorem rc_lists {X : Cx} {pins : List (Addr × Obj)} {σ : St} {H : Hp} {s : Shared} (I : Inv X pins σ H s) {n : Nat} {A : Around} (hu0 : A.units < cLine)
    (ih : ∀ (d1 d2 : D) (v1 v2 : V) (L1 L2 : List Addr) (u1 u2 : Value) (b : Bool), eqF n d1 d2 = some b -> Rep X.K H d1 v1 L1 -> Rep X.K H d2 v2 L2 -> RelV v1 u1 -> RelV v2 u2 -> EqAt A.in1 s u1 u2 b)
    {a a2 : Addr} {vs vs2 : List V} {xs ys : List D} {L L2 : List Addr} {b : Bool} (ha : SqL X.K H a vs) (rs : Reps X.K H xs vs L) (ha2 : SqL X.K H a2 vs2) (rs2 : Reps X.K H ys vs2 L2)
    (h : (if xs.length = ys.length then eqZip (eqF n) xs ys else some false) = some b) (same : a = a2 -> b = true) : RcAt A s (.ref a) (.ref a2) b /\ EqAt A s (.ref a) (.ref a2) b /\ RcNeAt A s (.ref a) (.ref a2) (!b) := by
  obtain ⟨its, rv, pl, _⟩ := I.list ha
  obtain ⟨its2, rv2, pl2, _⟩ := I.list ha2
  have l1 : its.length = xs.length := by rw [<- rv.length, rs.length]
  have l2 : its2.length = ys.length := by rw [<- rv2.length, rs2.length]
  by_cases hl : xs.length = ys.length
  · rw [if_pos hl] at h
    obtain ⟨e1, e2⟩ := eqZip_all h
    have he : ∀ j (h1 : j < its.toArray.size) (h2 : j < its2.toArray.size), EqAt A.in1 s its.toArray[j] its2.toArray[j] (eqAtJ (eqF n) xs ys j) := fun j h1 h2 => by
      have h1' : j < xs.length := by simpa [l1] using h1
      have h2' : j < ys.length := by simpa [l2] using h2
      obtain ⟨w1, L3, g1, g2, _⟩ := rs.get (i := j) (d := xs[j]) (by simp [h1'])
      obtain ⟨w2, L4, g3, g4, _⟩ := rs2.get (i := j) (d := ys[j]) (by simp [h2'])
      obtain ⟨z1, k1, k2⟩ := rv.get g1
      obtain ⟨z2, k3, k4⟩ := rv2.get g3
      have m1 : its.toArray[j] = z1 := by
        have := (List.getElem?_eq_some_iff.mp k1).2
        simpa using this
      have m2 : its2.toArray[j] = z2 := by
        have := (List.getElem?_eq_some_iff.mp k3).2
        simpa using this
      rw [m1, m2]
      exact ih _ _ w1 w2 L3 L4 z1 z2 _ (e2 j _ _ (by simp [h1']) (by simp [h2'])) g2 g4 k2 k4
    have hsz : its.toArray.size = its2.toArray.size := by simp [l1, l2, hl]
    have eb : b = (List.range its.toArray.size).all (eqAtJ (eqF n) xs ys) := by
      rw [e1]
      congr 2
      simp [l1, hl]
    have rc := RcAt.lists pl.isList pl2.isList hsz hu0 he
    have rn := RcNeAt.lists pl.isList pl2.isList hsz hu0 he
    rw [<- eb] at rc rn
    exact ⟨rc, eq_of_rc rc same, rn⟩
  · rw [if_neg hl] at h
    cases h
    have hsz : (its.toArray.size != its2.toArray.size) = true := by simp [l1, l2, hl]
    have rc := RcAt.lists_lengths pl.isList pl2.isList hsz hu0
    exact ⟨rc, eq_of_rc rc same, RcNeAt.lists_lengths pl.isList pl2.isList hsz hu0⟩
open SeqAt in
theorem rc_eq {X : Cx} {pins : List (Addr × Obj)} {σ : St} {H : Hp} {s : Shared} (I : Inv X pins σ H s) : ∀ (n : Nat) (A : Around) (d1 d2 : D) (v1 v2 : V) (L1 L2 : List Addr) (u1 u2 : Value) (b : Bool), A.units + n < cLine -> eqF n d1 d2 = some b ->
    Rep X.K H d1 v1 L1 -> Rep X.K H d2 v2 L2 -> RelV v1 u1 -> RelV v2 u2 -> RcAt A s u1 u2 b /\ EqAt A s u1 u2 b /\ RcNeAt A s u1 u2 (!b) := by
  intro n
  induction n with
  | zero =>
    intro A d1 d2 v1 v2 L1 L2 u1 u2 b hu h r1 r2 q1 q2
    have h : (if (d1.isS && d2.isS) = true then some (eqS d1 d2) else none) = some b := h
    split at h
    · rename_i hs
      rw [Bool.and_eq_true] at hs
      cases h
      exact rc_scal hs.1 hs.2 r1 r2 q1 q2
    · cases h
  | succ n ih =>
    intro A d1 d2 v1 v2 L1 L2 u1 u2 b hu h r1 r2 q1 q2
    have hu0 : A.units < cLine := by lia
    have hu1 : A.in1.units + n < cLine := by show A.units + 1 + n < cLine; lia
    have same : ∀ a, v1 = .ref a -> v2 = .ref a -> b = true := fun a e1 e2 => by
      subst e1 e2
      have := Rep.one I d1 d2 _ _ _ r1 r2
      subst this
      exact eqF_refl (n + 1) d1 b h
    by_cases s1 : d1.isS = true
    · by_cases s2 : d2.isS = true
      · have e : b = eqS d1 d2 := by
          cases d1 <;> first | exact absurd s1 Bool.false_ne_true | (cases d2 <;> first | exact absurd s2 Bool.false_ne_true | exact (Option.some.inj h).symm)
        subst e
        exact rc_scal s1 s2 r1 r2 q1 q2
      · cases d2 with
        | lst ys =>
          have e : b = false := by cases d1 <;> first | exact absurd s1 Bool.false_ne_true | exact (Option.some.inj h).symm
          subst e
          obtain ⟨a, vs, L', e2, ha, _, rs⟩ := r2
          have q2 : u2 = Value.ref a := by rw [e2] at q2; exact q2
          rw [q2]
          obtain ⟨its, rv, pl, _⟩ := I.list (SqL.of ha)
          exact (rc_ls s1 r1 q1 pl.isList hu0).2
        | tup ys =>
          have e : b = false := by cases d1 <;> first | exact absurd s1 Bool.false_ne_true | exact (Option.some.inj h).symm
          subst e
          obtain ⟨a, vs, e2, ha, rs⟩ := r2
          have q2 : u2 = Value.ref a := by rw [e2] at q2; exact q2
          rw [q2]
          obtain ⟨its, rv, pl, _⟩ := I.tuple ha
          exact (rc_ts s1 r1 q1 pl hu0).2
        | dic _ _ => cases d1 <;> first | exact absurd s1 Bool.false_ne_true | exact (nonB (b := b) h).elim
        | frl _ => cases d1 <;> first | exact absurd s1 Bool.false_ne_true | exact (nonB (b := b) h).elim
        | _ => exact absurd rfl s2
    · cases d1 with
      | lst xs =>
        obtain ⟨a, vs, L', e1, ha, _, rs⟩ := r1
        have q1 : u1 = Value.ref a := by rw [e1] at q1; exact q1
        rw [q1]
        obtain ⟨its, rv, pl, _⟩ := I.list (SqL.of ha)
        cases d2 with
        | lst ys =>
          obtain ⟨a2, vs2, L2', e2, ha2, _, rs2⟩ := r2
          have q2 : u2 = Value.ref a2 := by rw [e2] at q2; exact q2
          rw [q2]
          exact rc_lists I hu0 (fun d1 d2 v1 v2 L1 L2 u1 u2 b e r1 r2 q1 q2 => (ih A.in1 d1 d2 v1 v2 L1 L2 u1 u2 b hu1 e r1 r2 q1 q2).2.1) (SqL.of ha) rs (SqL.of ha2) rs2 h fun z => same a e1 (by rw [z]; exact e2)
        | tup ys =>
          obtain ⟨a2, vs2, e2, ha2, rs2⟩ := r2
          have q2 : u2 = Value.ref a2 := by rw [e2] at q2; exact q2
          rw [q2]
          obtain ⟨its2, rv2, pl2, _⟩ := I.tuple ha2
          cases (Option.some.inj (show some false = some b from h))
          exact ⟨RcAt.list_tuple pl.isList pl2 hu0, EqAt.list_tuple pl.isList pl2 hu0, RcNeAt.list_tuple pl.isList pl2 hu0⟩
        | dic _ _ => exact (nonB (b := b) h).elim
        | frl _ => exact (nonB (b := b) h).elim
        | non => cases (Option.some.inj (show some false = some b from h)); exact (rc_ls (d := .non) rfl r2 q2 pl.isList hu0).1
        | bl x => cases (Option.some.inj (show some false = some b from h)); exact (rc_ls (d := .bl x) rfl r2 q2 pl.isList hu0).1
        | int x => cases (Option.some.inj (show some false = some b from h)); exact (rc_ls (d := .int x) rfl r2 q2 pl.isList hu0).1
        | str x => cases (Option.some.inj (show some false = some b from h)); exact (rc_ls (d := .str x) rfl r2 q2 pl.isList hu0).1
      | tup xs =>
        obtain ⟨a, vs, e1, ha, rs⟩ := r1
        have q1 : u1 = Value.ref a := by rw [e1] at q1; exact q1
        rw [q1]
        obtain ⟨its, rv, pl, _⟩ := I.tuple ha
        cases d2 with
        | tup ys =>
          obtain ⟨a2, vs2, e2, ha2, rs2⟩ := r2
          have q2 : u2 = Value.ref a2 := by rw [e2] at q2; exact q2
          rw [q2]
          obtain ⟨its2, rv2, pl2, _⟩ := I.tuple ha2
          have h : (eqZip (eqF n) xs ys).map (fun b => b && xs.length == ys.length) = some b := h
          have l1 : its.length = xs.length := by rw [<- rv.length, rs.length]
          have l2 : its2.length = ys.length := by rw [<- rv2.length, rs2.length]
          cases hz : eqZip (eqF n) xs ys with
          | none => rw [hz] at h; cases h
          | some b' =>
            rw [hz] at h
            have h : (b' && xs.length == ys.length) = b := Option.some.inj h
            have e1' := e1
            have e2' := e2
            obtain ⟨e1, e2⟩ := eqZip_all hz
            have he : ∀ j (h1 : j < its.toArray.size) (h2 : j < its2.toArray.size), EqAt A.in1 s its.toArray[j] its2.toArray[j] (eqAtJ (eqF n) xs ys j) := fun j h1 h2 => by
              have h1' : j < xs.length := by simpa [l1] using h1
              have h2' : j < ys.length := by simpa [l2] using h2
              obtain ⟨w1, L3, g1, g2, _⟩ := rs.get (i := j) (d := xs[j]) (by simp [h1'])
              obtain ⟨w2, L4, g3, g4, _⟩ := rs2.get (i := j) (d := ys[j]) (by simp [h2'])
              obtain ⟨z1, k1, k2⟩ := rv.get g1
              obtain ⟨z2, k3, k4⟩ := rv2.get g3
              have m1 : its.toArray[j] = z1 := by
                have := (List.getElem?_eq_some_iff.mp k1).2
                simpa using this
              have m2 : its2.toArray[j] = z2 := by
                have := (List.getElem?_eq_some_iff.mp k3).2
                simpa using this
              rw [m1, m2]
              exact (ih A.in1 _ _ w1 w2 L3 L4 z1 z2 _ hu1 (e2 j _ _ (by simp [h1']) (by simp [h2'])) g2 g4 k2 k4).2.1
            have eb : b = ((List.range (min its.toArray.size its2.toArray.size)).all (eqAtJ (eqF n) xs ys) && its.toArray.size == its2.toArray.size) := by
              rw [<- h, e1]
              simp [l1, l2]
            have rc := RcAt.tuples pl pl2 hu0 he
            have rn := RcNeAt.tuples pl pl2 hu0 he
            rw [<- eb] at rc rn
            exact ⟨rc, eq_of_rc rc fun z => same a e1' (by rw [z]; exact e2'), rn⟩
        | lst ys =>
          obtain ⟨a2, vs2, L2', e2, ha2, _, rs2⟩ := r2
          have q2 : u2 = Value.ref a2 := by rw [e2] at q2; exact q2
          rw [q2]
          obtain ⟨its2, rv2, pl2, _⟩ := I.list (SqL.of ha2)
          cases (Option.some.inj (show some false = some b from h))
          exact ⟨RcAt.tuple_list pl pl2.isList hu0, EqAt.tuple_list pl pl2.isList hu0, RcNeAt.tuple_list pl pl2.isList hu0⟩
        | dic _ _ => exact (nonB (b := b) h).elim
        | frl _ => exact (nonB (b := b) h).elim
        | non => cases (Option.some.inj (show some false = some b from h)); exact (rc_ts (d := .non) rfl r2 q2 pl hu0).1
        | bl x => cases (Option.some.inj (show some false = some b from h)); exact (rc_ts (d := .bl x) rfl r2 q2 pl hu0).1
        | int x => cases (Option.some.inj (show some false = some b from h)); exact (rc_ts (d := .int x) rfl r2 q2 pl hu0).1
        | str x => cases (Option.some.inj (show some false = some b from h)); exact (rc_ts (d := .str x) rfl r2 q2 pl hu0).1
      | dic _ _ => cases d2 <;> exact (nonB (b := b) h).elim
      | frl xs =>
        cases d2 with
        | lst ys =>
          obtain ⟨a, vs, e1, ha, _, _, rs⟩ := r1
          have q1 : u1 = Value.ref a := by rw [e1] at q1; exact q1
          rw [q1]
          obtain ⟨a2, vs2, L2', e2, ha2, _, rs2⟩ := r2
          have q2 : u2 = Value.ref a2 := by rw [e2] at q2; exact q2
          rw [q2]
          exact rc_lists I hu0 (fun d1 d2 v1 v2 L1 L2 u1 u2 b e r1 r2 q1 q2 => (ih A.in1 d1 d2 v1 v2 L1 L2 u1 u2 b hu1 e r1 r2 q1 q2).2.1) ha.sq rs (SqL.of ha2) rs2 h fun z => same a e1 (by rw [z]; exact e2)
        | tup ys => exact (nonB (b := b) h).elim
        | dic _ _ => exact (nonB (b := b) h).elim
        | frl ys =>
          obtain ⟨a, vs, e1, ha, _, _, rs⟩ := r1
          have q1 : u1 = Value.ref a := by rw [e1] at q1; exact q1
          rw [q1]
          obtain ⟨a2, vs2, e2, ha2, _, _, rs2⟩ := r2
          have q2 : u2 = Value.ref a2 := by rw [e2] at q2; exact q2
          rw [q2]
          exact rc_lists I hu0 (fun d1 d2 v1 v2 L1 L2 u1 u2 b e r1 r2 q1 q2 => (ih A.in1 d1 d2 v1 v2 L1 L2 u1 u2 b hu1 e r1 r2 q1 q2).2.1) ha.sq rs ha2.sq rs2 h fun z => same a e1 (by rw [z]; exact e2)
        | non => exact (nonB (b := b) h).elim
        | bl x => exact (nonB (b := b) h).elim
        | int x => exact (nonB (b := b) h).elim
        | str x => exact (nonB (b := b) h).elim
      | _ => exact absurd rfl s1
end L2
set_option maxRecDepth 100000
set_option maxHeartbeats 4000000
namespace L2
open PySem PySem.Spec PyProof.Rows
theorem imms_nil {K : PySem.W.Frag} {H : Hp} {ds : List D} {vs : List V} {L : List Addr} (r : Reps K H ds vs L) (h : D.imms ds = true) : Reps K H ds vs [] := by
  have := Reps.imm ds vs L r h
  subst this
  exact r
theorem new_lst {K : PySem.W.Frag} {H : Hp} {ds : List D} {vs : List V} {p : Addr} {Q : VK} (r : Reps K H ds vs []) (hp : H p = none) (q : ∀ v H' L, Same H H' -> Rep K H' (.lst ds) v L -> L.Nodup -> (∀ a ∈ L, H a = none) -> Q v H') : Q (.ref p) (upd H p (.lst vs)) :=
  q _ _ [p] (Same.new hp) ⟨p, vs, [], rfl, upd_same, rfl, r.same (Same.new hp)⟩ (by simp) (fun a ha => by rw [List.mem_singleton.mp ha]; exact hp)
noncomputable def addD : D -> D -> R D
  | .int i, .int j => .ok (.int (i + j))
  | .str x, .str y => if x.length + y.length <= sizeLine then .ok (.str (x ++ y)) else .bad
  | .lst xs, .lst ys => if D.imms xs = true /\ D.imms ys = true /\ xs.length + ys.length <= sizeLine then .ok (.lst (xs ++ ys)) else .bad
  | .tup xs, .tup ys => if D.imms xs = true /\ D.imms ys = true /\ xs ≠ [] /\ xs.length + ys.length <= sizeLine then .ok (.tup (xs ++ ys)) else .bad
  | _, _ => .bad
noncomputable def rAddA (K : PySem.W.Frag) : R2 := fun x y H Q => (∃ i j, x = .int i /\ y = .int j /\ Q (.int (i + j)) H) \/ (∃ i j, x = .str i /\ y = .str j /\ i.length + j.length <= sizeLine /\ Q (.str (i ++ j)) H) \/ rCat x y H Q \/ rCatT K x y H Q
theorem op_addA {X : Cx} : OpR X (binaryOp .Add) (rAddA X.K) := (OpR.or op_add (OpR.or op_add_str (OpR.or op_cat op_catT)))
theorem B_add {K : PySem.W.Frag} : OpB K (rAddA K) addD := by
  rintro H x y dx dy Lx Ly Q rx ry ⟨d, hg, q⟩
  unfold addD at hg
  split at hg
  · cases hg
    exact .inl ⟨_, _, rx.1, ry.1, q _ H [] (Same.refl H) ⟨rfl, rfl⟩ (by simp) (fun a ha => nomatch ha)⟩
  · split at hg
    · rename_i hz
      cases hg
      exact .inr (.inl ⟨_, _, rx.1, ry.1, hz, q _ H [] (Same.refl H) ⟨rfl, rfl⟩ (by simp) (fun a ha => nomatch ha)⟩)
    · cases hg
  · rename_i xs ys
    split at hg
    · rename_i hz
      cases hg
      obtain ⟨a, vs, L1, rfl, ha, _, rs⟩ := rx
      obtain ⟨b, ws, L2, rfl, hb, _, qs⟩ := ry
      refine .inr (.inr (.inl ⟨a, b, vs, ws, rfl, rfl, ha, hb, by rw [rs.length, qs.length]; exact hz.2.2, fun p hp => new_lst (ds := xs ++ ys) ?_ hp q⟩))
      exact Reps.append (imms_nil rs hz.1) (imms_nil qs hz.2.1)
    · cases hg
  · rename_i xs ys
    split at hg
    · rename_i hz
      cases hg
      obtain ⟨a, vs, rfl, ha, rs⟩ := rx
      obtain ⟨b, ws, rfl, hb, qs⟩ := ry
      have hne : vs ≠ [] := fun z => hz.2.2.1 (by have := rs.length; rw [z] at this; exact List.length_eq_zero_iff.mp this.symm)
      have rr := Reps.append (imms_nil rs hz.1) (imms_nil qs hz.2.1)
      refine .inr (.inr (.inr ⟨a, b, vs, ws, rfl, rfl, ha, hb, hne, by rw [rs.length, qs.length]; exact hz.2.2.2, fun z => ?_, fun _ p hp => ?_⟩))
      · subst z
        rw [List.append_nil] at rr
        exact q _ H [] (Same.refl H) ⟨a, vs, rfl, ha, rr⟩ (by simp) (fun a ha => nomatch ha)
      · exact q _ _ [] (Same.new hp) ⟨p, vs ++ ws, rfl, SqT.of upd_same, rr.same (Same.new hp)⟩ (by simp) (fun a ha => nomatch ha)
    · cases hg
  · cases hg
theorem N_add : NoErr addD := fun x y n h => by
  unfold addD at h
  split at h
  · cases h
  · split at h <;> cases h
  · split at h <;> cases h
  · split at h <;> cases h
  · cases h
noncomputable def intD (C : Int -> Int -> Bool) (g : Int -> Int -> D) : D -> D -> R D
  | .int i, .int j => if C i j = true then .ok (g i j) else .bad
  | _, _ => .bad
theorem N_int {C : Int -> Int -> Bool} {g : Int -> Int -> D} : NoErr (intD C g) := fun x y n h => by
  unfold intD at h
  split at h
  · split at h <;> cases h
  · cases h
noncomputable def VofS : D -> V
  | .int i => .int i
  | .bl b => .bl b
  | .str x => .str x
  | _ => .non
theorem VofS_rep {K : PySem.W.Frag} {H : Hp} : ∀ {d : D}, d.isS = true -> Rep K H d (VofS d) []
  | .non, _ => ⟨rfl, rfl⟩
  | .bl _, _ => ⟨rfl, rfl⟩
  | .int _, _ => ⟨rfl, rfl⟩
  | .str _, _ => ⟨rfl, rfl⟩
  | .tup _, h => nomatch h
  | .lst _, h => nomatch h
  | .dic _ _, h => nomatch h
  | .frl _, h => nomatch h
theorem B_int {K : PySem.W.Frag} {C : Int -> Int -> Bool} {g : Int -> Int -> D} {P : Int -> Int -> Prop} {gv : Int -> Int -> V} (hP : ∀ i j, C i j = true -> P i j) (hs : ∀ i j, (g i j).isS = true) (hv : ∀ i j, VofS (g i j) = gv i j) : OpB K (rI P gv) (intD C g) := by
  rintro H x y dx dy Lx Ly Q rx ry ⟨d, hg, q⟩
  unfold intD at hg
  split at hg
  · split at hg
    · rename_i i j hz
      cases hg
      refine ⟨i, j, rx.1, ry.1, hP i j hz, ?_⟩
      rw [<- hv]
      exact q _ H [] (Same.refl H) (VofS_rep (hs i j)) (by simp) (fun a ha => nomatch ha)
    · cases hg
  · cases hg
theorem B_int0 {K : PySem.W.Frag} {g : Int -> Int -> D} {gv : Int -> Int -> V} (hs : ∀ i j, (g i j).isS = true) (hv : ∀ i j, VofS (g i j) = gv i j) : OpB K (rI0 gv) (intD (fun _ _ => true) g) := by
  rintro H x y dx dy Lx Ly Q rx ry ⟨d, hg, q⟩
  unfold intD at hg
  split at hg
  · rw [if_pos rfl] at hg
    rename_i i j
    cases hg
    refine ⟨i, j, rx.1, ry.1, ?_⟩
    rw [<- hv]
    exact q _ H [] (Same.refl H) (VofS_rep (hs i j)) (by simp) (fun a ha => nomatch ha)
  · cases hg
noncomputable abbrev subD : D -> D -> R D := intD (fun _ _ => true) fun i j => .int (i - j)
noncomputable abbrev fdivD : D -> D -> R D := intD (fun _ j => decide (0 < j) && decide (j < 1073741824)) fun i j => .int (i / j)
noncomputable abbrev modD : D -> D -> R D := intD (fun _ j => decide (0 < j)) fun i j => .int (i % j)
noncomputable abbrev ltD : D -> D -> R D := intD (fun _ _ => true) fun i j => .bl (decide (i < j))
noncomputable abbrev leD : D -> D -> R D := intD (fun _ _ => true) fun i j => .bl (decide (i <= j))
noncomputable abbrev gtD : D -> D -> R D := intD (fun _ _ => true) fun i j => .bl (decide (j < i))
theorem B_sub {K : PySem.W.Frag} : OpB K (rI0 fun i j => .int (i - j)) subD := B_int0 (fun _ _ => rfl) fun _ _ => rfl
theorem B_fdiv {K : PySem.W.Frag} : OpB K (rI CDiv fun i j => .int (i / j)) fdivD := B_int (fun i j h => by simp only [Bool.and_eq_true, decide_eq_true_eq] at h; exact h) (fun _ _ => rfl) fun _ _ => rfl
theorem B_mod {K : PySem.W.Frag} : OpB K (rI (fun _ j => 0 < j) fun i j => .int (i % j)) modD := B_int (fun i j h => by simpa using h) (fun _ _ => rfl) fun _ _ => rfl
theorem B_lt {K : PySem.W.Frag} : OpB K (rI0 fun i j => .bl (decide (i < j))) ltD := B_int0 (fun _ _ => rfl) fun _ _ => rfl
theorem B_le {K : PySem.W.Frag} : OpB K (rI0 fun i j => .bl (decide (i <= j))) leD := B_int0 (fun _ _ => rfl) fun _ _ => rfl
theorem B_gt {K : PySem.W.Frag} : OpB K (rI0 fun i j => .bl (decide (j < i))) gtD := B_int0 (fun _ _ => rfl) fun _ _ => rfl
noncomputable def rEqA (K : PySem.W.Frag) (neg : Bool) : R2 := fun x y H Q => ∃ dx dy Lx Ly b, Rep K H dx x Lx /\ Rep K H dy y Ly /\ eqF 12 dx dy = some b /\ Q (.bl (if neg = true then !b else b)) H
theorem op_eqA {X : Cx} (hu : X.A.units + 12 < cLine) : OpR X (compareOp .Eq) (rEqA X.K false) := by
  rintro pins s σ H x y v u Q I rx ry ⟨dx, dy, Lx, Ly, b, r1, r2, he, q⟩
  exact (rc_eq I 12 X.A dx dy x y Lx Ly v u b hu he r1 r2 rx ry).1 X.prog X.w X.xe _ ⟨.bl b, H, I, rfl, q⟩
theorem op_neA {X : Cx} (hu : X.A.units + 12 < cLine) : OpR X (compareOp .NotEq) (rEqA X.K true) := by
  rintro pins s σ H x y v u Q I rx ry ⟨dx, dy, Lx, Ly, b, r1, r2, he, q⟩
  exact (rc_eq I 12 X.A dx dy x y Lx Ly v u b hu he r1 r2 rx ry).2.2 X.prog X.w X.xe _ ⟨.bl (!b), H, I, rfl, q⟩
noncomputable def lookD : List Key -> List D -> Key -> Option D
  | k :: ks, d :: ds, j => if k = j then some d else lookD ks ds j
  | _, _, _ => none
noncomputable def hitsD (js : List Key) (ys : List D) : List Key -> List D -> Option Bool
  | k :: ks, x :: xs => match lookD js ys k with
    | none => some false
    | some y => if (x.isS && y.isS) = true then (hitsD js ys ks xs).map (eqS x y && ·) else none
  | _, _ => some true
theorem look_some {K : PySem.W.Frag} {H : Hp} : ∀ {kvs : List (Key × V)} {ds : List D} {L : List Addr} {k : Key} {d : D}, Reps K H ds (kvs.map (·.2)) L -> lookD (kvs.map (·.1)) ds k = some d -> ∃ v L1, valV kvs k = some v /\ Rep K H d v L1 /\ List.Sublist L1 L
  | [], ds, _, k, d, r, h => by cases ds <;> cases h
  | p :: kvs, [], _, k, d, r, h => by obtain ⟨e, _⟩ := r; cases e
  | p :: kvs, d0 :: ds, _, k, d, hq5, h => by
    obtain ⟨v, vs', L1, L2, e1, e2, r1, r2⟩ := hq5
    subst e2
    rw [List.map_cons] at e1
    cases e1
    rw [List.map_cons] at h
    unfold lookD at h
    by_cases hk : p.1 = k
    · rw [if_pos hk] at h
      cases h
      exact ⟨p.2, L1, valV_pos hk, r1, List.sublist_append_left _ _⟩
    · rw [if_neg hk] at h
      obtain ⟨v, L', a, b, c⟩ := look_some r2 h
      exact ⟨v, L', by rw [valV_neg hk]; exact a, b, c.trans (List.sublist_append_right _ _)⟩
theorem look_none {K : PySem.W.Frag} {H : Hp} : ∀ {kvs : List (Key × V)} {ds : List D} {L : List Addr} {k : Key}, Reps K H ds (kvs.map (·.2)) L -> lookD (kvs.map (·.1)) ds k = none -> valV kvs k = none
  | [], ds, _, k, r, h => rfl
  | p :: kvs, [], _, k, r, h => by obtain ⟨e, _⟩ := r; cases e
  | p :: kvs, d0 :: ds, _, k, hq4, h => by
    obtain ⟨v, vs', L1, L2, e1, e2, r1, r2⟩ := hq4
    subst e2
    rw [List.map_cons] at e1
    cases e1
    rw [List.map_cons] at h
    unfold lookD at h
    by_cases hk : p.1 = k
    · rw [if_pos hk] at h; cases h
    · rw [if_neg hk] at h
      rw [valV_neg hk]
      exact look_none r2 h
theorem hits_of {K : PySem.W.Frag} {H : Hp} {A : Around} {s : Shared} {kvb : List (Key × V)} {vb : List (Key × Value)} {ys : List D} {Lb : List Addr} (rb : KV kvb vb) (qb : Reps K H ys (kvb.map (·.2)) Lb) :
    ∀ {kva : List (Key × V)} {va : List (Key × Value)} {xs : List D} {La : List Addr} {b : Bool}, KV kva va -> Reps K H xs (kva.map (·.2)) La -> hitsD (kvb.map (·.1)) ys (kva.map (·.1)) xs = some b -> PySem.W.KeqHits A s vb va b := by
  intro kva va xs La b ra
  induction ra generalizing xs La b with
  | nil =>
    intro r h
    cases xs with
    | nil => cases h; exact .nil
    | cons _ _ => obtain ⟨_, _, _, _, e, _⟩ := r; cases e
  | @cons p q l1 l2 h1 _ ih =>
    intro r h
    cases xs with
    | nil => obtain ⟨e, _⟩ := r; cases e
    | cons x xs =>
      obtain ⟨v, vs', L1, L2, e1, e2, r1, r2⟩ := r
      rw [List.map_cons] at e1
      cases e1
      rw [List.map_cons] at h
      unfold hitsD at h
      have ek : q.1 = p.1 := h1.1.symm
      have hv := rb.val p.1
      cases hl : lookD (kvb.map (·.1)) ys p.1 with
      | none =>
        rw [hl] at h
        cases h
        rw [look_none qb hl] at hv
        have : valueAt vb q.1 = none := by
          rw [ek]
          cases hq : valueAt vb p.1 with
          | none => rfl
          | some y => rw [hq] at hv; exact hv.elim
        exact PySem.W.KeqHits.miss (k := q.1) (v := q.2) this
      | some y =>
        rw [hl] at h
        dsimp only at h
        split at h
        · rename_i hs
          rw [Bool.and_eq_true] at hs
          cases hr : hitsD (kvb.map (·.1)) ys (l1.map (·.1)) xs with
          | none => rw [hr] at h; cases h
          | some b' =>
            rw [hr] at h
            have h : (eqS x y && b') = b := Option.some.inj h
            obtain ⟨w, Lw, g1, g2, _⟩ := look_some qb hl
            rw [g1] at hv
            obtain ⟨yv, hy, ry⟩ := RelO.some_of (v := w) (o := valueAt vb p.1) hv
            rw [<- h]
            exact PySem.W.KeqHits.hit (k := q.1) (v := q.2) (by rw [ek]; exact hy) (rc_scal (A := A) (s := s) hs.1 hs.2 r1 g2 h1.2 ry).2.1 (ih r2 hr)
        · cases h
noncomputable def rEqDc (K : PySem.W.Frag) (neg : Bool) : R2 := fun x y H Q => ∃ a b kva kvb xs ys La Lb r, x = .ref a /\ y = .ref b /\ Rd H a (.dK kva) /\ Rd H b (.dK kvb) /\ Reps K H xs (kva.map (·.2)) La /\ Reps K H ys (kvb.map (·.2)) Lb /\
  (kva.length = kvb.length -> hitsD (kvb.map (·.1)) ys (kva.map (·.1)) xs = some r) /\ Q (.bl (if neg = true then !(kva.length == kvb.length && r) else (kva.length == kvb.length && r))) H
theorem op_eqDc {X : Cx} (hu : X.A.units < cLine) : OpR X (compareOp .Eq) (rEqDc X.K false) := by
  rintro pins s σ H x y v u Q I rx ry ⟨a, b, kva, kvb, xs, ys, La, Lb, r, e1, e2, ha, hb, qa, qb, hh, q⟩
  subst e1 e2
  obtain rfl : v = Value.ref a := rx
  obtain rfl : u = Value.ref b := ry
  obtain ⟨_, da, va, ra, oa⟩ := dk_rd I.hok ha
  obtain ⟨_, db, vb, rb, ob⟩ := dk_rd I.hok hb
  have l1 : va.length = kva.length := ra.length.symm
  have l2 : vb.length = kvb.length := rb.length.symm
  refine PySem.W.keq_eq (r := r) da db oa ob hu (fun e => hits_of rb qb ra qa (hh (by lia))) ?_
  rw [l1, l2]
  exact ⟨.bl _, H, I, rfl, q⟩
theorem op_neDc {X : Cx} (hu : X.A.units < cLine) : OpR X (compareOp .NotEq) (rEqDc X.K true) := by
  rintro pins s σ H x y v u Q I rx ry ⟨a, b, kva, kvb, xs, ys, La, Lb, r, e1, e2, ha, hb, qa, qb, hh, q⟩
  subst e1 e2
  obtain rfl : v = Value.ref a := rx
  obtain rfl : u = Value.ref b := ry
  obtain ⟨_, da, va, ra, oa⟩ := dk_rd I.hok ha
  obtain ⟨_, db, vb, rb, ob⟩ := dk_rd I.hok hb
  have l1 : va.length = kva.length := ra.length.symm
  have l2 : vb.length = kvb.length := rb.length.symm
  refine PySem.W.keq_ne (r := r) da db oa ob hu (fun e => hits_of rb qb ra qa (hh (by lia))) ?_
  rw [l1, l2]
  exact ⟨.bl _, H, I, rfl, q⟩
noncomputable def eqDic (ks : List Key) (xs : List D) (js : List Key) (ys : List D) : Option Bool := if ks.length = js.length then hitsD js ys ks xs else some false
noncomputable def eqR (neg : Bool) : D -> D -> R D
  | .dic ks xs, .dic js ys => match eqDic ks xs js ys with
    | some b => .ok (.bl (if neg = true then !b else b))
    | none => .bad
  | x, y => match eqF 12 x y with
    | some b => .ok (.bl (if neg = true then !b else b))
    | none => .bad
theorem N_eq {neg : Bool} : NoErr (eqR neg) := fun x y n h => by
  unfold eqR at h
  split at h
  · split at h <;> cases h
  · split at h <;> cases h
theorem B_eq {K : PySem.W.Frag} {neg : Bool} : OpB K (fun x y H Q => rEqA K neg x y H Q \/ rEqDc K neg x y H Q) (eqR neg) := by
  rintro H x y dx dy Lx Ly Q rx ry ⟨d, hg, q⟩
  unfold eqR at hg
  split at hg
  · rename_i ks xs js ys
    obtain ⟨a, kva, L1, rfl, ha, _, hk, _, rs⟩ := rx
    obtain ⟨b, kvb, L2, rfl, hb, _, hj, _, qs⟩ := ry
    have l1 : ks.length = kva.length := by rw [<- hk, List.length_map]
    have l2 : js.length = kvb.length := by rw [<- hj, List.length_map]
    unfold eqDic at hg
    by_cases hl : ks.length = js.length
    · rw [if_pos hl] at hg
      cases hr : hitsD js ys ks xs with
      | none => rw [hr] at hg; cases hg
      | some r =>
        rw [hr] at hg
        cases hg
        refine .inr ⟨a, b, kva, kvb, xs, ys, _, _, r, rfl, rfl, .inl ha, .inl hb, rs, qs, fun _ => by rw [hk, hj]; exact hr, ?_⟩
        have e : (kva.length == kvb.length && r) = r := by
          have : (kva.length == kvb.length) = true := by simp; lia
          rw [this, Bool.true_and]
        rw [e]
        exact q _ H [] (Same.refl H) ⟨rfl, rfl⟩ (by simp) (fun a ha => nomatch ha)
    · rw [if_neg hl] at hg
      cases hg
      refine .inr ⟨a, b, kva, kvb, xs, ys, _, _, false, rfl, rfl, .inl ha, .inl hb, rs, qs, fun z => absurd z (by lia), ?_⟩
      rw [Bool.and_false]
      exact q _ H [] (Same.refl H) ⟨rfl, rfl⟩ (by simp) (fun a ha => nomatch ha)
  · split at hg
    · rename_i b hb
      cases hg
      exact .inl ⟨dx, dy, Lx, Ly, b, rx, ry, hb, q _ H [] (Same.refl H) ⟨rfl, rfl⟩ (by simp) (fun a ha => nomatch ha)⟩
    · cases hg
theorem op_eqAll {X : Cx} (hu : X.A.units + 12 < cLine) : OpR X (compareOp .Eq) (fun x y H Q => rEqA X.K false x y H Q \/ rEqDc X.K false x y H Q) := OpR.or (op_eqA hu) (op_eqDc (by lia))
theorem op_neAll {X : Cx} (hu : X.A.units + 12 < cLine) : OpR X (compareOp .NotEq) (fun x y H Q => rEqA X.K true x y H Q \/ rEqDc X.K true x y H Q) := OpR.or (op_neA hu) (op_neDc (by lia))
end L2
set_option maxRecDepth 100000
set_option maxHeartbeats 4000000
namespace L2
open PySem PySem.Spec PyProof.Rows
noncomputable def keyOf : D -> Option Key
  | .int i => some (.inl i)
  | .str x => some (.inr x)
  | .non => some .non
  | _ => none
noncomputable def ixD : D -> D -> R D
  | .lst ds, .int i => match atI ds i with
    | some d => .ok d
    | none => .bad
  | .tup ds, .int i => match atI ds i with
    | some d => .ok d
    | none => .bad
  | .frl ds, .int i => match atI ds i with
    | some d => .ok d
    | none => .bad
  | .str x, .int i => if x.length <= sizeLine then (match atI x.cps.toList i with
    | some c => .ok (.str ⟨#[c]⟩)
    | none => .bad) else .bad
  | .dic ks ds, k => match keyOf k with
    | some k => (match lookD ks ds k with
      | some d => .ok d
      | none => .bad)
    | none => .bad
  | _, _ => .bad
theorem N_ix : NoErr ixD := fun x y n h => by
  unfold ixD at h
  split at h
  · split at h <;> cases h
  · split at h <;> cases h
  · split at h <;> cases h
  · split at h
    · split at h <;> cases h
    · cases h
  · split at h
    · split at h <;> cases h
    · cases h
  · cases h
theorem keyOf_rep {K : PySem.W.Frag} {H : Hp} {d : D} {v : V} {L : List Addr} {k : Key} (h : keyOf d = some k) (r : Rep K H d v L) : v = kV k := by
  cases d with
  | non => cases h; exact r.1
  | int i => cases h; exact r.1
  | str x => cases h; exact r.1
  | _ => cases h
theorem Reps.atI {K : PySem.W.Frag} {H : Hp} {ds : List D} {vs : List V} {L : List Addr} {i : Int} {d : D} (r : Reps K H ds vs L) (h : L2.atI ds i = some d) : ∃ v L1, L2.atI vs i = some v /\ Rep K H d v L1 /\ List.Sublist L1 L := by
  unfold L2.atI at h ⊢
  rw [r.length]
  cases e : ixN ds.length i with
  | none => rw [e] at h; cases h
  | some j =>
    rw [e] at h
    obtain ⟨v, L1, a, b, c⟩ := r.get h
    exact ⟨v, L1, a, b, c⟩
section
variable {X : Cx} {E : XK} {Γ : List Cl} {e a b : Expr} {es : List Expr} {t ta tb : Tn -> R D} {u : Tn -> R (List D)} {c ca cb : Rc} {pos p p2 : Pos}
theorem RcOk.sub {O : Addr -> Prop} {H : Hp} {L L' : List Addr} (h : RcOk c O H L) (s : List.Sublist L' L) : RcOk c O H L' := by
  cases c with
  | fresh => exact ⟨h.1.sublist s, fun a ha => h.2 a (s.subset ha)⟩
  | shr => exact fun a ha => h a (s.subset ha)
  | bor => trivial
theorem post.bind2 {K : PySem.W.Frag} {O : Addr -> Prop} {H H1 : Hp} {Q Q' : VK} {r : R D} {f : D -> R D} (h : post K E O c H Q (r.bind f)) (s : Same H H1) (hf : ∀ d, r = .ok d -> post K E O c H Q (f d) -> ∀ v H' L, Same H1 H' -> Rep K H' d v L -> RcOk ca O H1 L -> Q' v H') : post K E O ca H1 Q' r := by
  cases r with
  | ok d => exact hf d rfl h
  | err n => exact fun C H' e s' => h C H' e (s.trans s')
  | bad => exact h
theorem ix_seq_of {K : PySem.W.Frag} {H : Hp} {dx dy d : D} {x y : V} {Lx Ly : List Addr} {Q : VK} (hn : ∀ ks ds, dx ≠ .dic ks ds) (h : ixD dx dy = .ok d) (rx : Rep K H dx x Lx) (ry : Rep K H dy y Ly) (q : ∀ v L1, Rep K H d v L1 -> List.Sublist L1 Lx -> Q v H) : rIx K x y H Q := by
  unfold ixD at h
  split at h
  · split at h
    · rename_i hd
      cases h
      obtain ⟨a, vs, L', rfl, ha, e, rs⟩ := rx
      subst e
      obtain ⟨v, L1, g1, g2, g3⟩ := rs.atI hd
      exact .inl ⟨a, vs, _, v, rfl, ry.1, SqL.of ha, g1, q v L1 g2 (g3.trans (List.sublist_cons_self _ _))⟩
    · cases h
  · split at h
    · rename_i hd
      cases h
      obtain ⟨a, vs, rfl, ha, rs⟩ := rx
      obtain ⟨v, L1, g1, g2, g3⟩ := rs.atI hd
      exact .inr (.inl ⟨a, vs, _, v, rfl, ry.1, ha, g1, q v L1 g2 g3⟩)
    · cases h
  · split at h
    · rename_i hd
      cases h
      obtain ⟨a, vs, rfl, ha, e, _, rs⟩ := rx
      subst e
      obtain ⟨v, L1, g1, g2, g3⟩ := rs.atI hd
      exact .inl ⟨a, vs, _, v, rfl, ry.1, ha.sq, g1, q v L1 g2 g3⟩
    · cases h
  · split at h
    · rename_i hz
      split at h
      · rename_i hd
        cases h
        exact .inr (.inr ⟨_, _, _, rx.1, ry.1, hz, hd, q _ [] ⟨rfl, rfl⟩ (List.nil_sublist _)⟩)
      · cases h
    · cases h
  · rename_i ks ds
    exact absurd rfl (hn _ _)
  · cases h
theorem me_ix (hu : X.A.units + 1 < cLine) (ha : ME X E Γ a ta ca) (hb : ME X E Γ b tb cb) (hs : autoParam (PlainIx b) L2.au6._auto_1) : ME X E Γ (.Subscript a b pos) (eBin ixD ta tb) ca := by
  obtain ⟨te, p, q⟩ := ha
  obtain ⟨te', p', q'⟩ := hb
  refine ⟨fun σ H Q => tOp (rIx X.K) te te' σ H Q \/ tDGet te te' σ H Q, fun pins s σ H Q I z => ?_, fun O σ H τ Q ok h => ?_⟩
  · rcases z with z | z
    · exact pe_ix ix_seq p p' hs pins s σ H Q I z
    · exact pe_dget hu p p' hs pins s σ H Q I z
  · unfold eBin at h
    by_cases hd : ∃ ks ds, ta τ = .ok (.dic ks ds)
    · obtain ⟨ks, ds, hd⟩ := hd
      refine .inr (q O σ H τ _ ok (post.bind h fun dx hx h x H1 Lx s1 rx kx => ?_))
      rw [hd] at hx
      cases hx
      refine q' O σ H1 τ _ (ok.same s1) (post.bind2 h s1 fun dy _ h y H2 Ly s2 ry _ => ?_)
      have h : post X.K E O ca H Q (match keyOf dy with
        | some k => (match lookD ks ds k with
          | some d => .ok d
          | none => .bad)
        | none => .bad) := h
      cases hk : keyOf dy with
      | none => rw [hk] at h; exact h.elim
      | some k =>
        rw [hk] at h
        dsimp only at h
        cases hl : lookD ks ds k with
        | none => rw [hl] at h; exact h.elim
        | some d =>
          rw [hl] at h
          obtain ⟨ad, kvs, L', rfl, had, e2, hks, _, rs⟩ := rx
          subst e2
          rw [<- hks] at hl
          obtain ⟨v, L1, g1, g2, g3⟩ := look_some rs hl
          refine ⟨ad, v, rfl, ?_, h v H2 L1 (s1.trans s2) (g2.same s2) (kx.sub (g3.trans (List.sublist_cons_self _ _)))⟩
          rw [keyOf_rep hk ry, <- g1]
          exact DGet.k (s2 _ _ had)
    · refine .inl (q O σ H τ _ ok (post.bind h fun dx hx h x H1 Lx s1 rx kx => q' O σ H1 τ _ (ok.same s1) (post.bind2 h s1 fun dy _ h y H2 Ly s2 ry _ => ?_)))
      cases hg : ixD dx dy with
      | ok d =>
        rw [hg] at h
        exact ix_seq_of (fun ks ds z => hd ⟨ks, ds, by rw [hx, z]⟩) hg (rx.same s2) ry fun v L1 g1 g2 => h v H2 L1 (s1.trans s2) g1 (kx.sub g2)
      | err n => exact absurd hg (N_ix _ _ _)
      | bad => rw [hg] at h; exact h.elim
noncomputable def negD : D -> R D
  | .int i => .ok (.int (-i))
  | _ => .bad
theorem me_neg (ha : ME X E Γ a ta ca) : ME X E Γ (.UnaryOp .USub a pos) (eUn negD ta) .fresh := by
  obtain ⟨te, p, q⟩ := ha
  refine ⟨_, pe_un un_neg p, fun O σ H τ Q ok h => q O σ H τ _ ok (post.bind h fun d _ h v H1 L s1 r1 _ => ?_)⟩
  cases d with
  | int i => exact ⟨i, r1.1, h _ H1 [] s1 ⟨rfl, rfl⟩ RcOk.nil⟩
  | _ => exact h.elim
noncomputable def cutL {α : Type} (xs : List α) (lo hi : Option Int) : List α := (xs.drop (HT.sIx xs.length 0 lo)).take (HT.sIx xs.length xs.length hi - HT.sIx xs.length 0 lo)
noncomputable def slD (x : D) (lo hi : Option Int) : R D := match x with
  | .lst ds => if D.imms ds = true then .ok (.lst (cutL ds lo hi)) else .bad
  | .str z => if z.length <= sizeLine then .ok (.str (Txt.slice z lo hi)) else .bad
  | .tup ds => if D.imms ds = true /\ ¬ (HT.sIx ds.length 0 lo = 0 /\ HT.sIx ds.length ds.length hi = ds.length) then .ok (.tup (cutL ds lo hi)) else .bad
  | _ => .bad
noncomputable def eSl (t : Tn -> R D) (tl th : Tn -> R (Option Int)) : Tn -> R D := fun τ => (t τ).bind fun x => (tl τ).bind fun l => (th τ).bind fun h => slD x l h
noncomputable def oNone : Tn -> R (Option Int) := fun _ => .ok none
noncomputable def oSome (t : Tn -> R D) : Tn -> R (Option Int) := fun τ => (t τ).bind fun d => match d with
  | .int i => .ok (some i)
  | _ => .bad
noncomputable def postO (K : PySem.W.Frag) (E : XK) (H : Hp) (Q : Option Int -> Hp -> Prop) : R (Option Int) -> Prop
  | .ok o => ∀ H', Same H H' -> Q o H'
  | .err n => ∀ C H', ErrC K n C -> Same H H' -> E (.ref C) none H'
  | .bad => False
noncomputable def MO (X : Cx) (E : XK) (Γ : List Cl) (e : Option Expr) (t : Tn -> R (Option Int)) : Prop :=
  ∃ to, PO X e to /\ ∀ O σ H τ Q, EOk X.K Γ O H σ τ -> postO X.K E H Q (t τ) -> to σ H Q
theorem mo_none : MO X E Γ none oNone := ⟨tNoPart, po_none, fun O σ H τ Q ok h => h H (Same.refl H)⟩
theorem mo_some (h : ME X E Γ e t c) : MO X E Γ (some e) (oSome t) := by
  obtain ⟨te, p, q⟩ := h
  refine ⟨tPart te, po_some p, fun O σ H τ Q ok h => q O σ H τ _ ok ?_⟩
  unfold oSome at h
  cases ht : t τ with
  | ok d =>
    rw [ht, R.ok_bind] at h
    refine fun v H' L s r _ => ?_
    cases d with
    | int i => exact ⟨i, r.1, h H' s⟩
    | _ => exact h.elim
  | err n => rw [ht] at h; exact h
  | bad => rw [ht] at h; exact h
theorem Reps.cut {K : PySem.W.Frag} {H : Hp} {ds : List D} {vs : List V} {L : List Addr} (r : Reps K H ds vs L) (lo hi : Option Int) : ∃ L', Reps K H (cutL ds lo hi) (cutV vs lo hi) L' /\ List.Sublist L' L := by
  obtain ⟨L1, a, b⟩ := r.drop (HT.sIx ds.length 0 lo)
  obtain ⟨L2, c, d⟩ := a.take (HT.sIx ds.length ds.length hi - HT.sIx ds.length 0 lo)
  refine ⟨L2, ?_, d.trans b⟩
  unfold cutL cutV
  rw [r.length]
  exact c
theorem me_sl {lo hi : Option Expr} {tl th : Tn -> R (Option Int)} (he : ME X E Γ e t c) (hl : MO X E Γ lo tl) (hh : MO X E Γ hi th) : ME X E Γ (.Subscript e (.Slice lo hi none p2) pos) (eSl t tl th) .fresh := by
  obtain ⟨te, p, q⟩ := he
  obtain ⟨tl', pl, ql⟩ := hl
  obtain ⟨th', ph, qh⟩ := hh
  refine ⟨_, pe_slice (SlR.or sl_list (SlR.or sl_str sl_tup)) p pl ph, fun O σ H τ Q ok h => ?_⟩
  unfold eSl at h
  refine q O σ H τ _ ok (post.bind h fun dx hx h x H1 Lx s1 rx kx => ql O σ H1 τ _ (ok.same s1) ?_)
  cases h1 : tl τ with
  | err n => rw [h1] at h; exact fun C H' e s' => h C H' e (s1.trans s')
  | bad => rw [h1] at h; exact h
  | ok l =>
    rw [h1, R.ok_bind] at h
    refine fun H2 s2 => qh O σ H2 τ _ ((ok.same s1).same s2) ?_
    cases h2 : th τ with
    | err n => rw [h2] at h; exact fun C H' e s' => h C H' e ((s1.trans s2).trans s')
    | bad => rw [h2] at h; exact h
    | ok g =>
      rw [h2, R.ok_bind] at h
      refine fun H3 s3 => ?_
      have s03 := (s1.trans s2).trans s3
      have rx := (rx.same s2).same s3
      unfold slD at h
      cases dx with
      | lst ds =>
        dsimp only at h
        by_cases hz : D.imms ds = true
        · rw [if_pos hz] at h
          obtain ⟨a, vs, L', rfl, ha, _, rs⟩ := rx
          obtain ⟨L2, rc, _⟩ := (imms_nil rs hz).cut l g
          have e0 : L2 = [] := List.sublist_nil.mp ‹_›
          subst e0
          refine .inl ⟨a, vs, rfl, SqL.of ha, fun p hp => new_lst rc hp fun v H' L s r n1 n2 => h v H' L (s03.trans s) r ⟨n1, fun a ha => s03.non (n2 a ha)⟩⟩
        · rw [if_neg hz] at h; exact h.elim
      | str z =>
        dsimp only at h
        by_cases hz : z.length <= sizeLine
        · rw [if_pos hz] at h
          exact .inr (.inl ⟨z, rx.1, hz, h _ H3 [] s03 ⟨rfl, rfl⟩ RcOk.nil⟩)
        · rw [if_neg hz] at h; exact h.elim
      | tup ds =>
        dsimp only at h
        by_cases hz : D.imms ds = true /\ ¬ (HT.sIx ds.length 0 l = 0 /\ HT.sIx ds.length ds.length g = ds.length)
        · rw [if_pos hz] at h
          obtain ⟨a, vs, rfl, ha, rs⟩ := rx
          obtain ⟨L2, rc, _⟩ := (imms_nil rs hz.1).cut l g
          have e0 : L2 = [] := List.sublist_nil.mp ‹_›
          subst e0
          exact .inr (.inr ⟨a, vs, rfl, ha, by rw [rs.length]; exact hz.2, fun p hp => h _ _ [] (s03.trans (Same.new hp)) ⟨p, _, rfl, SqT.of upd_same, rc.same (Same.new hp)⟩ RcOk.nil⟩)
        · rw [if_neg hz] at h; exact h.elim
      | _ => exact h.elim
end
section
variable {X : Cx}
noncomputable def lenD : List D -> R D
  | [.lst ds] => .ok (.int ds.length)
  | [.tup ds] => .ok (.int ds.length)
  | [.frl ds] => .ok (.int ds.length)
  | [.str x] => if x.length <= sizeLine then .ok (.int x.length) else .bad
  | [.dic ks _] => .ok (.int ks.length)
  | _ => .bad
theorem N_len : NoErrL lenD := fun ds n h => by
  rcases ds with _ | ⟨d, _ | ⟨_, _⟩⟩
  · cases h
  · cases d with
    | str x =>
      replace h : (if x.length <= sizeLine then R.ok (D.int x.length) else .bad) = R.err n := h
      split at h <;> cases h
    | _ => cases h
  · cases d <;> cases h
theorem call_lenA : CallR X (.builtin "len") (fun xs H Q => (∃ p ys, xs = [.ref p] /\ (SqL X.K H p ys \/ SqT X.K H p ys) /\ Q (.int ys.length) H) \/ (∃ z, xs = [.str z] /\ z.length <= sizeLine /\ Q (.int z.length) H) \/ ∃ a kvs, xs = [V.ref a] /\ H a = some (.dK kvs) /\ Q (.int kvs.length) H) :=
  CallR.or call_len_seq (CallR.or call_len_str call_lenD)
theorem reps1 {K : PySem.W.Frag} {H : Hp} {d : D} {xs : List V} {L : List Addr} (r : Reps K H [d] xs L) : ∃ v, xs = [v] /\ Rep K H d v L := by
  obtain ⟨v, vs', L1, L2, e1, e2, r1, r2⟩ := r
  obtain ⟨rfl, rfl⟩ := r2
  rw [List.append_nil] at e2
  subst e2
  exact ⟨v, e1, r1⟩
theorem B_len {K : PySem.W.Frag} : ClB K (fun xs H Q => (∃ p ys, xs = [.ref p] /\ (SqL K H p ys \/ SqT K H p ys) /\ Q (.int ys.length) H) \/ (∃ z, xs = [.str z] /\ z.length <= sizeLine /\ Q (.int z.length) H) \/ ∃ a kvs, xs = [V.ref a] /\ H a = some (.dK kvs) /\ Q (.int kvs.length) H) lenD := by
  rintro H xs ds L Q r ⟨d, hg, q⟩
  have fin : ∀ n : Int, d = .int n -> Q (.int n) H := fun n e => q _ H [] (Same.refl H) (e ▸ ⟨rfl, rfl⟩) (by simp) (fun a ha => nomatch ha)
  rcases ds with _ | ⟨e, _ | ⟨_, _⟩⟩
  · cases hg
  · cases e with
    | lst es =>
      cases hg
      obtain ⟨v, rfl, a, vs, L', rfl, ha, _, rs⟩ := reps1 r
      exact .inl ⟨a, vs, rfl, .inl (SqL.of ha), fin _ (by rw [rs.length])⟩
    | tup es =>
      cases hg
      obtain ⟨v, rfl, a, vs, rfl, ha, rs⟩ := reps1 r
      exact .inl ⟨a, vs, rfl, .inr ha, fin _ (by rw [rs.length])⟩
    | frl es =>
      cases hg
      obtain ⟨v, rfl, a, vs, rfl, ha, _, _, rs⟩ := reps1 r
      exact .inl ⟨a, vs, rfl, .inl ha.sq, fin _ (by rw [rs.length])⟩
    | str x =>
      replace hg : (if x.length <= sizeLine then R.ok (D.int x.length) else .bad) = R.ok d := hg
      split at hg
      · rename_i hz
        cases hg
        obtain ⟨v, rfl, rfl, _⟩ := reps1 r
        exact .inr (.inl ⟨_, rfl, hz, fin _ rfl⟩)
      · cases hg
    | dic ks es =>
      cases hg
      obtain ⟨v, rfl, a, kvs, L', rfl, ha, _, hk, _⟩ := reps1 r
      exact .inr (.inr ⟨a, kvs, rfl, ha, fin _ (by rw [<- hk, List.length_map])⟩)
    | _ => cases hg
  · cases e <;> cases hg
noncomputable def kindD : D -> String
  | .non => "NoneType"
  | .bl _ => "bool"
  | .int _ => "int"
  | .str _ => "str"
  | .tup _ => "tuple"
  | .lst _ => "list"
  | .frl _ => "list"
  | .dic _ _ => "dict"
theorem kindD_mem (d : D) : kindD d ∈ kinds := by cases d <;> simp [kindD, kinds]
noncomputable def isiB (d : D) (T : String) : Bool := kindD d == T || (kindD d == "bool" && T == "int")
noncomputable def rIsD (K : PySem.W.Frag) : List V -> Hp -> VK -> Prop := fun xs H Q => ∃ x T d L, xs = [x, .ty T] /\ Rep K H d x L /\ T ∈ (["int", "bool", "str", "list", "tuple", "dict"] : List String) /\ Q (.bl (isiB d T)) H
theorem kit_all {K : PySem.W.Frag} {d : D} {U : String} (hU : U ∈ (["int", "bool", "str", "list", "tuple", "dict"] : List String)) : PySem.W.kitOne K (.type (kindD d)) (.type U) = some (isiB d U) := by
  have hT := kindD_mem d
  unfold isiB
  simp only [List.mem_cons, List.not_mem_nil, or_false] at hU
  rcases hU with rfl | rfl | hU
  · rw [kit_int hT]
    simp
  · rw [kit_bool hT]
    have : (kindD d == "bool" && ("bool" : String) == "int") = false := by simp
    rw [this, Bool.or_false]
  · rw [kit_self hT (by simpa using hU)]
    have : (kindD d == "bool" && U == "int") = false := by
      rcases hU with rfl | rfl | rfl | rfl <;> simp
    rw [this, Bool.or_false]
theorem call_isD : CallR X (.builtin "isinstance") (rIsD X.K) := by
  intro pins s σ H xs us Q I r h
  obtain ⟨x, T, d, L, rfl, rd, hT, q⟩ := h
  obtain ⟨u, u2, rfl, rx, rT⟩ := vals2 r
  obtain rfl : u2 = Value.type T := rT
  have hk := kit_all (K := X.K) (d := d) hT
  have fin : ∀ tk, EP X pins σ Q (.bool (isiB d T)) { s with toks := tk } := fun tk => ⟨.bl _, H, I.tok tk, rfl, q⟩
  cases d with
  | non => obtain ⟨rfl, _⟩ := rd; exact isinst_ok I rx .non hk fin
  | bl b => obtain ⟨rfl, _⟩ := rd; exact isinst_ok I rx (.bl b) hk fin
  | int b => obtain ⟨rfl, _⟩ := rd; exact isinst_ok I rx (.int b) hk fin
  | str b => obtain ⟨rfl, _⟩ := rd; exact isinst_ok I rx (.str b) hk fin
  | lst _ => obtain ⟨a, _, _, rfl, e, _⟩ := rd; exact isinst_ok I rx (.lst e) hk fin
  | frl _ =>
    obtain ⟨a, vs, rfl, ha, _⟩ := rd
    obtain rfl : u = Value.ref a := rx
    obtain ⟨its, _, ⟨o, n, h1, h2, _⟩, _⟩ := I.list ha.sq
    exact PySem.W.kia_one PySem.W.kitx_list I.kIn ⟨o, h1, h2⟩ hk (fun z => nomatch z) fin
  | dic _ _ => obtain ⟨a, _, _, rfl, e, _⟩ := rd; exact isinst_ok I rx (.dK e) hk fin
  | tup _ =>
    obtain ⟨a, vs, rfl, ha, _⟩ := rd
    obtain rfl : u = Value.ref a := rx
    obtain ⟨its, _, ⟨o, h1, h2, _⟩, _⟩ := I.tuple ha
    exact PySem.W.kia_one PySem.W.kitx_tuple I.kIn ⟨o, h1, h2⟩ hk (fun z => nomatch z) fin
end
section
variable {X : Cx} {E : XK} {Γ : List Cl} {e c' : Expr} {t : Tn -> R D} {c : Rc} {pos p : Pos}
noncomputable def isiD (T : String) : D -> R D := fun d => .ok (.bl (isiB d T))
theorem me_isi {T : String} (hT : T ∈ (["int", "bool", "str", "list", "tuple", "dict"] : List String)) (hg : Gl X "isinstance") (hm : X.mg "isinstance" = none) (hc : PE X c' (tC (.ty T))) (he : ME X E Γ e t c) (hs : autoParam (starEach [e, c'] X.env = (false, eval e X.env) :: starEach [c'] X.env) L2.au3._auto_1) (hs2 : autoParam (starEach [c'] X.env = (false, eval c' X.env) :: starEach [] X.env) L2.au3._auto_1)
    (hpl : autoParam ((backTo pos (starEach [c'] X.env)).any (·.1) = false) L2.au3._auto_1) : ME X E Γ (.Call (.Name "isinstance" p) [e, c'] [] pos) (eUn (isiD T) t) .fresh := by
  obtain ⟨te, p', q⟩ := he
  refine ⟨_, pe_callB (x := "isinstance") call_isD hg hm Boot.«isinstance» (pa_cons p' (pa_cons hc pa_nil hs2) hs) (by decide) (by decide) hs hpl, fun O σ H τ Q ok h => q O σ H τ _ ok (post.bind h fun d _ h v H1 L s1 r1 _ => ?_)⟩
  exact ⟨v, T, d, L, rfl, r1, hT, h _ H1 [] s1 ⟨rfl, rfl⟩ RcOk.nil⟩
end
end L2
set_option maxRecDepth 100000
set_option maxHeartbeats 4000000
namespace L2
open PySem PySem.Spec PyProof.Rows
theorem putK_fresh {kvs : List (Key × V)} {k : Key} {v : V} (h : k ∉ kvs.map (·.1)) : putK kvs k v = kvs ++ [(k, v)] := by
  unfold putK
  rw [if_neg]
  intro z
  rw [List.any_eq_true] at z
  obtain ⟨p, hp, e⟩ := z
  exact h (List.mem_map.mpr ⟨p, hp, by simpa using e⟩)
section
variable {X : Cx} {E : XK} {Γ : List Cl} {e k v : Expr} {t : Tn -> R D} {u : Tn -> R (List D)} {c ca cb : Rc} {pos p : Pos} {ks : List Key} {keys : List (Option Expr)} {values : List Expr}
noncomputable def dict1D : List D -> R D
  | [.dic ks ds] => if D.imms ds = true then .ok (.dic ks ds) else .bad
  | _ => .bad
noncomputable def rDict1 : List V -> Hp -> VK -> Prop := fun xs H Q => ∃ a kvs, xs = [.ref a] /\ Rd H a (.dK kvs) /\ ∀ l, H l = none -> Q (.ref l) (upd H l (.dK kvs))
theorem call_dict1 : CallR X (.type "dict") rDict1 := by
  intro pins s σ H xs us Q I r h
  obtain ⟨a, kvs, rfl, hr, q⟩ := h
  obtain ⟨u, rfl, ru⟩ := vals1 r
  obtain rfl : u = Value.ref a := ru
  obtain ⟨z, hd, vs, rel, dd⟩ := dk_rd I.hok hr
  refine kt_call_dict hd dd (by rw [<- rel.length]; exact z) fun h' hm hs => ?_
  have hk : ∀ b o, s.heap.get? b = some o -> h'.get? b = some o := fun b o e => (hs.2 b (Nat.ne_of_lt (Heap.lt_size e))).trans (Heap.get?_push_of_some _ e)
  have hsz : s.heap.objs.size <= s.heap.objs.size := Nat.le_refl _
  refine ⟨.ref s.heap.objs.size, _, I.laid (o := .dK kvs) (t' := s.toks) hk hsz ?_, rfl, q _ (I.hok.fresh hsz)⟩
  refine ⟨z, ?_, vs, rel, hm⟩
  exact beq_eq_false_iff_ne.mpr (Ne.symm (Nat.ne_of_lt I.big))
theorem B_dict1 {K : PySem.W.Frag} : ClB K rDict1 dict1D := by
  rintro H xs ds L Q r ⟨d, hg, q⟩
  unfold dict1D at hg
  split at hg
  · split at hg
    · rename_i hz
      cases hg
      obtain ⟨v, rfl, a, kvs, L', rfl, ha, _, hk, hn, rs⟩ := reps1 r
      refine ⟨a, kvs, rfl, .inl ha, fun l hl => q _ _ [l] (Same.new hl) ⟨l, kvs, [], rfl, upd_same, rfl, hk, hn, (imms_nil rs hz).same (Same.new hl)⟩ (by simp) (fun b hb => by rw [List.mem_singleton.mp hb]; exact hl)⟩
    · cases hg
  · cases hg
end
end L2
set_option maxRecDepth 100000
set_option maxHeartbeats 4000000
namespace L2
open PySem PySem.Spec PyProof.Rows
theorem Room.u12 {k : Nat} {A : Around} (r : Room k A) : A.units + 12 < cLine := by have := r.un; lia
theorem Room.u1 {k : Nat} {A : Around} (r : Room k A) : A.units + 1 < cLine := by have := r.un; lia
noncomputable def compChk (outer : Scope) (N N' : List Str) (fr : List (Option Nat)) (scope : Scope) : Bool :=
  decide (scope.kind = .function) && scope.names.all (fun y => decide (y.2 ≠ .cell)) && scope.names.all (fun y => decide (y.2 ≠ .local) || decide (scope.names.lookup y.1 = some .local)) &&
  scope.names.all (fun y => decide (y.2 ≠ .free) || decide (outer.names.lookup y.1 = some .cell) || decide (outer.names.lookup y.1 = some .free)) && decide (fr.length = N'.length) &&
  (List.range fr.length).all fun j => match fr[j]?, N'[j]? with
    | some (some i), some x => decide (N[i]? = some x) && decide (scope.names.lookup x = some .free) && (decide (outer.names.lookup x = some .cell) || decide (outer.names.lookup x = some .free))
    | _, _ => true
theorem comp_scope {X : Cx} {N' : List Str} {fr : List (Option Nat)} {scope : Scope} (hc : ∀ x, (X.env.scope.names.lookup x = some .cell \/ X.env.scope.names.lookup x = some .free) -> ∃ c, X.env.cells.lookup x = some c) (h : compChk X.env.scope X.N N' fr scope = true) : CompScope X N' fr scope := by
  unfold compChk at h
  simp only [Bool.and_eq_true, decide_eq_true_eq, List.all_eq_true, Bool.or_eq_true] at h
  obtain ⟨⟨⟨⟨⟨h1, h2⟩, h3⟩, h4⟩, h5⟩, h6⟩ := h
  refine ⟨h1, h2, fun y hy e => ?_, fun y hy e => ?_, h5, fun j i x e1 e2 => ?_⟩
  · rcases h3 y hy with z | z
    · exact absurd e z
    · exact z
  · rcases h4 y hy with (z | z) | z
    · exact absurd e z
    · exact hc y.1 (.inl z)
    · exact hc y.1 (.inr z)
  · have hj : j < fr.length := (List.getElem?_eq_some_iff.mp e1).1
    have := h6 j (List.mem_range.mpr hj)
    rw [e1, e2] at this
    simp only [Bool.and_eq_true, decide_eq_true_eq, Bool.or_eq_true] at this
    exact ⟨this.1.1, this.1.2, this.2⟩
theorem cs_def {CX : CXT} {P : Program} {w : World} {K : PySem.W.Frag} {mg : Str -> Option Value} {base : Heap} {N : List Str} {qual : Str} {sc : Scope} {f : Addr} {cd : Value} {A : Around} {outer : List Env} {s : Shared} {H : Hp} {E : XK} {N' : List Str} {fr : List (Option Nat)} {scope : Scope}
    (nf : ∀ y ∈ sc.names, y.2 ≠ .free) (h : compChk sc N N' fr scope = true) : CompScope (cxOf CX P w K mg base N qual sc f cd A outer s H E) N' fr scope :=
  comp_scope (X := cxOf CX P w K mg base N qual sc f cd A outer s H E) (fun x hx => by
    rcases hx with hx | hx
    · exact cell_has hx
    · exact absurd rfl (nf _ (PySem.mem_of_lookup hx))) h
section
variable {X : Cx} {E : XK} {Γ Γ1 Γ' Γl : List Cl} {e : Expr} {t : Tn -> R D} {c : Rc} {pos pos' : Pos}
noncomputable def MGs (X : Cx) (es : List Expr) (is : List Nat) : Prop := ∃ g, PGs X es g /\ ∀ (vs : List V) (σ : St) (H : Hp) (Q : St -> Hp -> Prop), vs.length = is.length -> Q (setAll σ is vs) H -> g vs σ H Q
theorem mgs_nil : MGs X [] [] := ⟨gNil, pgs_nil, fun vs σ H Q hl q => by
  have : vs = [] := List.length_eq_zero_iff.mp hl
  subst this
  exact ⟨rfl, q⟩⟩
theorem mgs_cons {x : Expr} {es : List Expr} {i : Nat} {is : List Nat} (h : PG X x (gName i)) (r : MGs X es is) (hs : autoParam ((assignEach (x :: es) X.env).map (·.2) = assign x X.env :: (assignEach es X.env).map (·.2)) L2.au3._auto_1) : MGs X (x :: es) (i :: is) := by
  obtain ⟨g, p, q⟩ := r
  refine ⟨_, pgs_cons h p hs, fun vs σ H Q hl k => ?_⟩
  cases vs with
  | nil => cases hl
  | cons v vs => exact ⟨v, vs, rfl, q vs _ H Q (by simpa using hl) k⟩
theorem mg_many {es : List Expr} {k : Nat} {is : List Nat} (hc : X.calm = true) (h : MGs X es is) (hn : autoParam ((assignEach es X.env).length = is.length) L2.au3._auto_1) (hst : autoParam ((assignEach es X.env).findIdx? (·.1) = none) L2.au3._auto_1) : MG X (.Tuple es k pos) (.many is) := by
  obtain ⟨g, p, q⟩ := h
  exact ⟨g, pg_tup hc p hn hst, q⟩
theorem mg_one {i : Nat} {x : Expr} (h : PG X x (gName i)) : MG X x (.one i) := h
noncomputable def sAsg (g : Tgt) (t : Tn -> R D) : Tn -> R Fl := fun τ => (t τ).bind fun d => (g.asg d τ).bind fun τ1 => .ok (.nx τ1)
theorem ms_asg {tg : Expr} {g : Tgt} (h : ME X E Γ e t c) (hc : c ≠ .bor) (hg : MG X tg g) (hn : ∀ i ∈ g.slots, i < Γ.length) (hs : autoParam (swapsWithSole [tg] e pos.line X.env = pure false) L2.au3._auto_1) (hw : autoParam (swappedStores [tg] e X.env = pure none) L2.au3._auto_1)
    (h1 : autoParam ((assignEach [tg] X.env).map (·.2) = [assign tg X.env]) L2.au3._auto_1) : MS X E Γl Γ (.Assign [tg] e pos) (sAsg g t) (shrAll Γ g.slots) := by
  obtain ⟨te, p, q⟩ := h
  refine ⟨_, ps_asg p hg.pg hs hw h1, fun B σ H τ Z ok h => ?_⟩
  obtain ⟨O, eo, Od, hB⟩ := ok.base
  refine q O σ H τ _ eo ?_
  unfold sAsg at h
  cases ht : t τ with
  | ok d =>
    rw [ht, R.ok_bind] at h
    refine fun v H' L s r k => ?_
    obtain ⟨B1, sB, ok1, hB1⟩ := hB H' s
    have hL : ∀ a ∈ L, B1 a ≠ none := fun a ha => by rw [hB1 a (k.shr eo.dom hc a ha)]; exact r.there ha
    cases ha : g.asg d τ with
    | ok τ1 =>
      rw [ha, R.ok_bind] at h
      exact tgG_in ok1 r hL hn ha fun σ1 ok2 => h σ1 H' (ok2.rebase sB)
    | err n =>
      cases g with
      | one i => cases ha
      | many is =>
        unfold Tgt.asg at ha
        split at ha
        · cases ha
        · split at ha <;> cases ha
        · cases ha
    | bad => rw [ha] at h; exact h.elim
  | err n => rw [ht] at h; exact fun C H' e s => h C H' e (ok.ext.trans s)
  | bad => rw [ht] at h; exact h
theorem PIp.or {op : Operator} {r r' : R2} (h : PIp X op r) (h' : PIp X op r') : PIp X op (fun x y H Q => r x y H Q \/ r' x y H Q) := by
  intro pins s σ H x y v u Q I r1 r2 z
  rcases z with z | z
  · exact h pins s σ H x y v u Q I r1 r2 z
  · exact h' pins s σ H x y v u Q I r1 r2 z
structure Bl (mg : Str -> Option Value) : Prop where
  isinstance : mg "isinstance" = none
  int : mg "int" = none
  bool : mg "bool" = none
  str : mg "str" = none
  dict : mg "dict" = none
  list : mg "list" = none
  tuple : mg "tuple" = none
  len : mg "len" = none
  sum : mg "sum" = none
  max : mg "max" = none
  min : mg "min" = none
  all : mg "all" = none
  range : mg "range" = none
  enumerate : mg "enumerate" = none
  zip : mg "zip" = none
end
end L2
set_option maxRecDepth 100000
set_option maxHeartbeats 4000000
namespace L2
open PySem PySem.Spec PyProof.Rows
section
variable {X : Cx} {E : XK} {Γ Γ1 Γ' Γl : List Cl} {e : Expr} {t : Tn -> R D} {c : Rc} {pos pos' : Pos}
theorem mn (i : Nat) (k : Cl) {x : Str} (hN : autoParam (X.N[i]? = some x) L2.au3._auto_1) (hk : autoParam (Γ[i]? = some k) L2.au3._auto_1) (hd : autoParam (k ≠ .dead) L2.au1._auto_1) (hv : autoParam (Vis X.env.scope x) L2.au5._auto_1) (hb : autoParam ((x == ("__debug__" : Str)) = false) L2.au1._auto_1) (hcd : autoParam ((x == ("__classdict__" : Str)) = false) L2.au1._auto_1) :
    ME X E Γ (.Name x pos) (eVar i) (Rc.of k) := me_name hN hk hd hv hb hcd
theorem mvn (i : Nat) {x : Str} (hN : autoParam (X.N[i]? = some x) L2.au3._auto_1) (hk : autoParam (Γ[i]? = some .own) L2.au3._auto_1) (hv : autoParam (Vis X.env.scope x) L2.au5._auto_1) (hb : autoParam ((x == ("__debug__" : Str)) = false) L2.au1._auto_1) (hcd : autoParam ((x == ("__classdict__" : Str)) = false) L2.au1._auto_1) :
    MV X E Γ (.Name x pos) (eVar i) (Γ.set i .dead) := mv_name hN hk hv hb hcd
theorem st (i : Nat) {x : Str} (nd : X.N.Nodup) (h : MV X E Γ e t Γ1) (hi : autoParam (X.N[i]? = some x) L2.au3._auto_1) (hl : autoParam (i < Γ1.length) L2.au1._auto_1) (hx : autoParam (Loc X.env.scope x) L2.au7._auto_1) (hs : autoParam (swapsWith e (some (.Name x pos')) pos.line X.env = pure false) L2.au3._auto_1) (hf : autoParam (X.fn x = true \/ X.env.scope.names.lookup x = some .local) L2.au0._auto_1) :
    MS X E Γl Γ (.Assign [.Name x pos'] e pos) (sSet i t) (Γ1.set i .own) := ms_set nd hi hl h hx hs hf
theorem pgn (i : Nat) {x : Str} (nd : X.N.Nodup) (hi : autoParam (X.N[i]? = some x) L2.au3._auto_1) (hx : autoParam (Loc X.env.scope x) L2.au7._auto_1) (hf : autoParam (X.fn x = true \/ X.env.scope.names.lookup x = some .local) L2.au0._auto_1) : PG X (.Name x pos) (gName i) := pg_name nd hi hx hf
theorem put (i : Nat) {x : Str} {p0 p1 : Pos} {ix : Expr} {ti : Tn -> R D} (h : MV X E Γ e t Γ1) (hi : ME X E Γ1 ix ti c) (hN : autoParam (X.N[i]? = some x) L2.au3._auto_1) (hk : autoParam (Γ1[i]? = some .own) L2.au3._auto_1) (hv : autoParam (Vis X.env.scope x) L2.au5._auto_1) (hb : autoParam ((x == ("__debug__" : Str)) = false) L2.au1._auto_1) (hcd : autoParam ((x == ("__classdict__" : Str)) = false) L2.au1._auto_1)
    (ha : autoParam (∀ v, assign (.Subscript (.Name x p0) ix p1) X.env v = (do
      let ov <- holding [v] (eval (.Name x p0) X.env)
      let iv <- holding [v, ov] (eval ix X.env)
      standAt p1
      holding [v, ov, iv] (setItem ov iv v)
      release [v, ov, iv] [])) L2.au2._auto_1)
    (hs : autoParam (swapsWithSole [.Subscript (.Name x p0) ix p1] e pos.line X.env = pure false) L2.au3._auto_1) (hw : autoParam (swappedStores [.Subscript (.Name x p0) ix p1] e X.env = pure none) L2.au3._auto_1)
    (h1 : autoParam ((assignEach [.Subscript (.Name x p0) ix p1] X.env).map (·.2) = [assign (.Subscript (.Name x p0) ix p1) X.env]) L2.au3._auto_1) :
    MS X E Γl Γ (.Assign [.Subscript (.Name x p0) ix p1] e pos) (sPut i t ti) Γ1 := ms_put hN h hi hk hv hb hcd ha hs hw h1
end
end L2
set_option maxRecDepth 100000
set_option maxHeartbeats 4000000
namespace L2
open PySem PySem.Spec PyProof.Rows
section
variable {P : Program} {w : World} {K : PySem.W.Frag} {mg : Str -> Option Value} {base : Heap} {x : Str} {st : Stmt} {N ps : List Str} {k : Nat} {t : Tn -> R Fl} {Γ' : List Cl}
theorem mir_fn {f : Addr} {oc : Value} {od an : Option Addr} {osl : Array (Option Value)} {kV doc pm cdv ct : Value} (lk : K.lookup f = some ⟨oc, od, .func (PySem.W.fnOf x x (defArgs st) (defBody st) (defScope st) .none kV doc pm an cdv ct), osl⟩) (hcd : PySem.W.codeIn K cdv x = true)
    (S : FnScope N ps (defScope st)) (hn : ps.length <= N.length)
    (hbody : ∀ (f : Addr) (cdv : Value) (A : Around) (outer : List Env) (s : Shared) (H : Hp) (E : XK), Room k (A.deeper (envOfC x (defScope st) s.heap.objs.size f cdv)) ->
      MSs (cxOf (cxx P w) P w K mg base N x (defScope st) f cdv A outer s H E) E [] (prmC N.length ps.length) (defBody st) t Γ') :
    FnOk P w K mg base (cxx P w) (k + 1) f (PySem.W.fnOf x x (defArgs st) (defBody st) (defScope st) .none kV doc pm an cdv ct) ps (spM K (runB N.length t) ps.length) := by
  refine fn_of lk hcd S (fun vs H Q E h => h.1) fun A outer s H vs Q E hr h => ?_
  obtain ⟨hl, ds, L, r, h⟩ := h
  obtain ⟨ts, p, q⟩ := hbody f cdv A outer s H E hr
  refine ⟨ts, p, q H (start N vs) H _ _ (hl ▸ SOk.start r (by lia)) ?_⟩
  unfold runB at h
  cases ht : t (ds.map some ++ List.replicate (N.length - ds.length) none) with
  | ok f =>
    rw [ht] at h
    cases f with
    | nx τ' => exact fun σ' H' ok' => h .non H' [] ok'.ext ⟨rfl, rfl⟩ RcOk.nil
    | rt d => exact fun v H' L s r n1 n2 => h v H' L s r ⟨n1, n2⟩
    | bk τ' => exact h.elim
    | ct τ' => exact h.elim
  | err n => rw [ht] at h; exact fun C H' e s => h C H' e s
  | bad => rw [ht] at h; exact h.elim
end
theorem imms_ints : ∀ ns : List Int, D.imms (ns.map D.int) = true
  | [] => rfl
  | n :: ns => by rw [List.map_cons]; show (true && D.imms (ns.map D.int)) = true; rw [imms_ints ns]; rfl
theorem reps_ints {K : PySem.W.Frag} {H : Hp} : ∀ ns : List Int, Reps K H (ns.map D.int) (ns.map V.int) []
  | [] => Reps.nil
  | n :: ns => Reps.cons (L1 := []) ⟨rfl, rfl⟩ (reps_ints ns)
theorem spM_law {K : PySem.W.Frag} {H : Hp} {a : Addr} {ns : List Int} {F : List D -> R D} (hO : Only H) (hS : SqL K H a (ns.map V.int)) (hF : F [.frl (ns.map D.int)] = .ok (.bl true)) : spM K F 1 [.ref a] H (fun v _ => v = .bl true) fun _ _ _ => False := by
  have hs : SqF K H a (ns.map V.int) := by
    rcases hS with (z | z) | z
    · rcases hO a with w | ⟨o, xs, w⟩
      · rw [w] at z; cases z
      · rw [w] at z; cases z
    · exact .inl z
    · exact .inr z
  refine ⟨rfl, [.frl (ns.map D.int)], [], Reps.cons (L1 := []) ⟨a, ns.map V.int, rfl, hs, rfl, imms_ints ns, reps_ints ns⟩ Reps.nil, ?_⟩
  rw [hF]
  exact fun v H' L s r _ => r.1
theorem law_walk {Fm : List D -> R D} {k : Nat} {x : Str} {l : PySem.W.OpenLaw} {q : Program} {loose : List Str} {XP : (Str -> Option Value) -> Heap -> Prop} {YP : World -> Heap -> Prop} {d : DefRec} {K : Params -> PySem.W.Frag} (hF : ∀ ns : List Int, ns.length <= 63 -> Fm [.frl (ns.map D.int)] = .ok (.bl true)) (hr : Room k callerA) (hn : l.most = some 63) (hdf : d.params.defaults = [])
    (hY : ∀ (w : World) (h : Heap), YP w h -> (K w.params).In h)
    (F : ∀ (w : World) (mg : Str -> Option Value) (fa : Addr) (h : Heap), (K w.params).In h -> h.Ns mainGlobals mg -> mg d.name = some (.ref fa) ->
      ∃ fd : FuncData, (∀ (s : Shared) (u : Value), BindsTo s fd ⟨[u], []⟩ [(x, u)]) /\ ∀ base : Heap, (K w.params).In base -> base.Ns mainGlobals mg -> FnOk l.prog w (K w.params) mg base (cxx l.prog w) k fa fd [x] (spM (K w.params) Fm 1)) :
    PySem.W.WalkO q loose XP YP l.row.toRowW d [] (fun f vs => PySem.call f vs) :=
  L2.walk_of (n := 63) (k := k) (x := x) (CX := fun w => cxx l.prog w) (sp := fun w => spM (K w.params) Fm 1) hn (by decide) hdf hr hY F (fun w H a ns hl hO hS => spM_law hO hS (hF ns hl)) fun w H s e s' z => cxx_no z
end L2
set_option maxRecDepth 100000
set_option maxHeartbeats 4000000
namespace L2
open PySem PySem.Spec PyProof.Rows
section
variable {i j : Int} {C : Int -> Int -> Bool} {g : Int -> Int -> D}
theorem ev_add : addD (.int i) (.int j) = .ok (.int (i + j)) := rfl
theorem ev_int : L2.intD C g (.int i) (.int j) = if C i j = true then .ok (g i j) else .bad := rfl
theorem ev_fdiv (h1 : 0 < j) (h2 : j < 1073741824) : fdivD (.int i) (.int j) = .ok (.int (i / j)) := by
  simp [fdivD, ev_int, h1, h2]
theorem ev_mod (h1 : 0 < j) : modD (.int i) (.int j) = .ok (.int (i % j)) := by
  simp [modD, ev_int, h1]
theorem ev_eqi {neg : Bool} : eqR neg (.int i) (.int j) = .ok (.bl (if neg = true then !(i == j) else i == j)) := by
  cases neg <;> rfl
end
theorem atI_ok {α : Type} {xs : List α} {i : Int} {x : α} (h0 : 0 <= i) (h : xs[i.toNat]? = some x) : atI xs i = some x := by
  have hj : i.toNat < xs.length := (List.getElem?_eq_some_iff.mp h).1
  have := atI_nat h
  rw [Int.toNat_of_nonneg h0] at this
  exact this
theorem ev_ixl {ds : List D} {i : Int} {d : D} (h : atI ds i = some d) : ixD (.lst ds) (.int i) = .ok d := by show (match atI ds i with | some d => R.ok d | none => R.bad) = _; rw [h]
theorem ev_ixf {ds : List D} {i : Int} {d : D} (h : atI ds i = some d) : ixD (.frl ds) (.int i) = .ok d := by show (match atI ds i with | some d => R.ok d | none => R.bad) = _; rw [h]
theorem ev_lenf {ds : List D} : lenD [.frl ds] = .ok (.int ds.length) := rfl
end L2
set_option maxRecDepth 100000
set_option maxHeartbeats 4000000
namespace L2
open PySem PySem.Spec PyProof.Rows
theorem ev_adds {x y : Str} (h : x.length + y.length <= sizeLine) : addD (.str x) (.str y) = .ok (.str (x ++ y)) := if_pos h
theorem ev_sub {i j : Int} : subD (.int i) (.int j) = .ok (.int (i - j)) := rfl
theorem ev_lt {i j : Int} : ltD (.int i) (.int j) = .ok (.bl (decide (i < j))) := rfl
theorem ev_le {i j : Int} : leD (.int i) (.int j) = .ok (.bl (decide (i <= j))) := rfl
theorem ev_neg {i : Int} : negD (.int i) = .ok (.int (-i)) := rfl
end L2
set_option maxRecDepth 100000
set_option maxHeartbeats 4000000
namespace L2
open PySem PySem.Spec PyProof.Rows
noncomputable def immD (d : D) : R D := if d.imm = true then .ok d else .bad
theorem ev_eImm {t : Tn -> R D} {τ : Tn} : eImm t τ = (t τ).bind immD := rfl
theorem ev_immI {i : Int} : immD (.int i) = .ok (.int i) := rfl
theorem ev_forN {asg : D -> Tn -> R Tn} {body : Tn -> R Fl} {τ : Tn} : forGo asg body [] τ = .ok (.nx τ) := rfl
noncomputable def goF (asg : D -> Tn -> R Tn) (body : Tn -> R Fl) (ds : List D) : Fl -> R Fl
  | .nx τ2 => forGo asg body ds τ2
  | .ct τ2 => forGo asg body ds τ2
  | .bk τ2 => .ok (.nx τ2)
  | .rt r => .ok (.rt r)
theorem ev_forC {asg : D -> Tn -> R Tn} {body : Tn -> R Fl} {d : D} {ds : List D} {τ : Tn} : forGo asg body (d :: ds) τ = (asg d τ).bind fun τ1 => (body τ1).bind (goF asg body ds) := rfl
theorem ev_goN {asg : D -> Tn -> R Tn} {body : Tn -> R Fl} {ds : List D} {τ : Tn} : goF asg body ds (.nx τ) = forGo asg body ds τ := rfl
theorem ev_for {it : Tn -> R (List D)} {g : Tgt} {B : Tn -> R Fl} {τ : Tn} {ds : List D} {f : R Fl} (h1 : it τ = .ok ds) (h2 : forGo g.asg B ds τ = f) : sFor it g B τ = f := by
  unfold sFor
  rw [h1]
  exact h2
end L2
set_option maxRecDepth 100000
set_option maxHeartbeats 4000000
namespace L2
open PySem PySem.Spec PyProof.Rows
section
variable {X : Cx} {E : XK} {Γ : List Cl} {e : Expr} {t : Tn -> R D} {c : Rc} {pos p2 : Pos}
end
end L2
set_option maxRecDepth 100000
set_option maxHeartbeats 4000000
namespace L2
open PySem PySem.Spec PyProof.Rows
section
variable {X : Cx}
end
end L2
set_option maxRecDepth 100000
set_option maxHeartbeats 4000000
namespace L2
open PySem PySem.Spec PyProof.Rows
section
variable {X : Cx} {tg : Expr}
end
section
variable {X : Cx} {E : XK} {Γ : List Cl} {tg : Expr} {u : Tn -> R (List D)} {c : Rc} {p pos : Pos}
end
end L2
set_option maxRecDepth 100000
set_option maxHeartbeats 4000000
namespace L2
open PySem PySem.Spec PyProof.Rows
end L2
set_option maxRecDepth 100000
set_option maxHeartbeats 4000000
namespace L2
open PySem PySem.Spec PyProof.Rows
noncomputable def str1D : List D -> R D
  | [.int i] => if i.natAbs.log2 < 1920 then .ok (.str (toString i)) else .bad
  | _ => .bad
theorem N_str1 : NoErrL str1D := fun ds n h => by
  unfold str1D at h
  split at h
  · split at h <;> cases h
  · cases h
theorem B_str1 {K : PySem.W.Frag} : ClB K (fun xs H Q => ∃ i, xs = [.int i] /\ i.natAbs.log2 < 1920 /\ Q (.str (toString i)) H) str1D := by
  rintro H xs ds L Q r ⟨d, hg, q⟩
  unfold str1D at hg
  split at hg
  · split at hg
    · rename_i i hz
      cases hg
      obtain ⟨v, rfl, rfl, _⟩ := reps1 r
      exact ⟨i, rfl, hz, q _ H [] (Same.refl H) ⟨rfl, rfl⟩ (by simp) (fun a ha => nomatch ha)⟩
    · cases hg
  · cases hg
end L2
set_option maxRecDepth 100000
set_option maxHeartbeats 4000000
namespace L2
open PySem PySem.Spec PyProof.Rows
section
variable {X : Cx}
end
end L2
set_option maxRecDepth 100000
set_option maxHeartbeats 4000000
namespace L2
open PySem PySem.Spec PyProof.Rows
section
variable {X : Cx} {E : XK} {Γ : List Cl} {o e : Expr} {es : List Expr} {t : Tn -> R D} {u : Tn -> R (List D)} {c ca : Rc} {name : Str} {apos cpos : Pos} {id : String}
end
end L2
set_option maxRecDepth 100000
set_option maxHeartbeats 4000000
namespace L2
open PySem PySem.Spec PyProof.Rows
theorem TupN.push {h : Heap} {a : Addr} {items : Array Value} (x : TupN h a items) (o : Obj) : TupN (h.push o) a items := let ⟨o', ho, r⟩ := x; ⟨o', Heap.get?_push_of_some o ho, r⟩
theorem TupN.at {h h' : Heap} {a : Addr} {items : Array Value} (x : TupN h a items) (k : ∀ b o, h.get? b = some o -> h'.get? b = some o) : TupN h' a items := let ⟨o', ho, r⟩ := x; ⟨o', k _ _ ho, r⟩
theorem TupN.isTuple {h : Heap} {a : Addr} {items : Array Value} (x : TupN h a items) : h.IsTuple a items := x.tup
theorem isTuple_at {h h' : Heap} {a : Addr} {items : Array Value} (x : h.IsTuple a items) (k : ∀ b o, h.get? b = some o -> h'.get? b = some o) : h'.IsTuple a items := let ⟨o', ho, r⟩ := x; ⟨o', k _ _ ho, r⟩
theorem Inv.tupN {X : Cx} {pins : List (Addr × Obj)} {σ : St} {H : Hp} {s : Shared} {a : Addr} {xs : List V} (I : Inv X pins σ H s) (h : SqT X.K H a xs) : ∃ its : List Value, Vals xs its /\ TupN s.heap a its.toArray /\ xs.length <= sizeLine := by
  rcases h with h | ⟨o, its, n, hk, hc, hn, hs, hz, r⟩
  · obtain ⟨z, its, r, p⟩ := h.ok I.hok
    exact ⟨its, r, p, z⟩
  · refine ⟨its.toList, r, ⟨o, I.kIn a o hk, hc, hn, n, by simpa using hs⟩, ?_⟩
    have e := r.length
    simp only [Array.length_toList] at e
    omega
theorem miss_tuple_keys : typeLookup (.type "tuple") "keys" = pure none := by rw [typeLookup_type, builtinLookup_eq_fast]; kernel_rfl
set_option maxRecDepth 8000 in
theorem getAttr?_miss_tuple {prog : Program} {w : World} {A : Around} {E : Value -> Shared -> Prop} {s : Shared} {a : Addr} {o : Obj} {xs : Array Value} {k : Nat} {name : Str} {Q : Option Value -> Shared -> Prop}
    (hx : s.heap.get? a = some o) (hc : o.cls = .type "tuple") (hdat : o.data = .seq xs k) (hd : o.dict = none) (hmiss : typeLookup (.type "tuple") name = pure none) (hname : (["__module__", "__name__", "__qualname__", "__doc__", "__annotations__"] : List Str).contains name = false) (hA : A.handled = none)
    (h : ∀ h' tk, (∀ b o, s.heap.get? b = some o -> h'.get? b = some o) -> Q none { s with heap := h', toks := tk }) (hsz : autoParam (name.length + 100 <= sizeLine) L2.au8._auto_1) :
    wpAny (model prog w) A (getAttr? (.ref a) name) Q E s := by
  obtain ⟨c, dct, dat, sl⟩ := o
  simp only at hc hdat hd
  subst hc hdat hd
  obtain ⟨hp, g, d, tk, os⟩ := s
  have hT : ∀ tk', (⟨hp, g, d, tk', os⟩ : Shared).TypeIs (.ref a) "tuple" := fun _ => ⟨_, hx, rfl⟩
  have f1 := sub_AttributeError
  have f3 := PySem.F.slot_tuple_getattribute.lookup
  have f4 := PySem.F.slot_tuple_getattribute.bind (.ref a)
  have f5 := am_tuple_getattr_none
  unfold getAttr? getAttrBy? getAttrBy
  repeat (any_goals (first | assumption | exact hT _ | ((with_reducible show wpAny _ _ (call (Value.builtin "tuple.__getattribute__") _ _) _ _ _); refine call_meets PySem.F.slot_tuple_getattribute (hT _) am_entry_tuple_getattribute (PySem.F.args_tuple_getattribute_2 _ _) (meets_getattribute_miss_tuple a xs k sl name _ hmiss hname hsz) ⟨hx, hA, fun h' tk' e hx' => ?_⟩) | wp_step))
  obtain ⟨t', u', he⟩ := hx'.there
  have hkeep := hx'.of.keeps
  show wpAny _ _ (getattributeRaised _ _ _ _ _ _ _) _ _ _
  unfold getattributeRaised
  repeat (any_goals (first | assumption | wp_step))
  all_goals exact h _ _ hkeep
theorem entry_dict_update_loop : entryFor table "dict.update.loop" = some Builtin.«dict.update.loop» := entryFor_of_tree (by kernel_rfl)
theorem plain_dict_update_loop : plainId "dict.update.loop" = true := by decide +kernel
noncomputable def PairsAt (P : Program) (w : World) (h : Heap) : List Value -> List (Key × Value) -> Prop := Paired fun (v : Value) (p : Key × Value) => ∃ b key, v = .ref b /\ h.IsTuple b #[key, p.2] /\ (mixKind P w).is p.1 key = true
theorem PairsAt.get {P : Program} {w : World} {h : Heap} : ∀ {its : List Value} {ps : List (Key × Value)} {i : Nat}, PairsAt P w h its ps -> i < its.length -> ∃ b key p, its[i]? = some (.ref b) /\ ps[i]? = some p /\ h.IsTuple b #[key, p.2] /\ (mixKind P w).is p.1 key = true
  | _, _, i, .nil, hi => by simp at hi
  | _, _, 0, .cons (a := v) (b := p) r t, _ => by
    obtain ⟨b, key, e, x, y⟩ := r
    exact ⟨b, key, p, by rw [e]; rfl, rfl, x, y⟩
  | _, _, i + 1, .cons r t, hi => by
    obtain ⟨b, key, p, e, e2, x, y⟩ := PairsAt.get (i := i) t (by simpa using hi)
    exact ⟨b, key, p, by simpa using e, by simpa using e2, x, y⟩
section
variable {prog : Program} {w : World} {A : Around} {R : Result -> Shared -> Prop}
theorem code_dict_pairs {h0 : Heap} {d I t : Addr} {items : List Value} {ps : List (Key × Value)} (hh : A.in1.handled = none) (hd0 : h0.get? d = none) (hI0 : h0.get? I = none) (hdI : d ≠ I) (ht0 : h0.IsTuple t items.toArray) (hp : PairsAt prog w h0 items ps) (hz : ps.length <= sizeLine) :
    ∀ (k i : Nat) (j : Int) (tk : Tok) (s : Shared), items.length - i = k -> i <= items.length -> s.heap.IsTupleIter I t i -> s.heap.DictOf (mixKind prog w) d (merged [] (ps.take i)) -> (∀ b o, h0.get? b = some o -> s.heap.get? b = some o) ->
      (∀ h' tk', h'.DictOf (mixKind prog w) d (merged [] ps) -> (∀ b o, h0.get? b = some o -> h'.get? b = some o) -> R (.ok (.ret .none)) { s with heap := h', toks := tk' }) ->
      codeAny (model prog w) A (.builtin "dict.update.loop" ⟨[.ref d, .ref I, .int j tk, .none], []⟩) R s := by
  have hlen : items.length = ps.length := Paired.length hp
  have hne : ∀ {b o}, h0.get? b = some o -> b ≠ d /\ b ≠ I := fun {b o} e => ⟨(fun z => by rw [z, hd0] at e; cases e), (fun z => by rw [z, hI0] at e; cases e)⟩
  intro k
  induction k with
  | zero =>
    intro i j tk s hk hi hit hD hkeep hR
    have hin : i = items.length := by omega
    subst hin
    refine codeAny_builtin entry_dict_update_loop ?_
    rw [Around.under_plainId plain_dict_update_loop _]
    show wpAny _ A.in1 (pyNext (.ref I) >>= _) _ _ s
    refine wpAny_bind (wpAny_pyNext_tuple_end hh hit (isTuple_at ht0 hkeep) (by simp) fun h' eb => ?_)
    show wpAny _ A.in1 (Builtin.Dict.addKeywords d [] >>= _) _ _ _
    refine wpAny_bind (wpAny_pure (wpAny_pure (hR h' s.toks ?_ fun b o e => eb b o (hne e).2 (hkeep b o e))))
    obtain ⟨o, es, ep, ho, rest⟩ := hD
    rw [hlen, List.take_length] at rest
    exact ⟨o, es, ep, eb d o hdI ho, rest⟩
  | succ k ih =>
    intro i j tk s hk hi hit hD hkeep hR
    have hlt : i < items.length := by omega
    obtain ⟨b, key, p, e1, e2, x, y⟩ := hp.get hlt
    refine codeAny_builtin entry_dict_update_loop ?_
    rw [Around.under_plainId plain_dict_update_loop _]
    show wpAny _ A.in1 (pyNext (.ref I) >>= _) _ _ s
    refine wpAny_bind (wpAny_pyNext_tuple_item hit (isTuple_at ht0 hkeep) (x := .ref b) (by simpa using e1) fun h1 hit1 sb1 => ?_)
    have hkeep1 : ∀ b o, h0.get? b = some o -> h1.get? b = some o := fun b o e => (sb1.2 b (hne e).2).trans (hkeep b o e)
    have hD1 : h1.DictOf (mixKind prog w) d (merged [] (ps.take i)) := by
      obtain ⟨o, es, ep, ho, rest⟩ := hD
      exact ⟨o, es, ep, (sb1.2 d hdI).trans ho, rest⟩
    have x1 := isTuple_at x hkeep1
    show wpAny _ A.in1 (holding [Value.ref b] _ >>= _) _ _ _
    refine wpAny_bind (wpAny_holding ?_)
    refine wpAny_bind (wpAny_tryCatch ?_)
    obtain ⟨ob, hob, hcb, nb, hdb⟩ := x1
    unfold Builtin.Dict.pairItems
    refine wpAny_bind (wpAny_typeOf ⟨ob, hob, hcb⟩ ?_)
    rw [if_pos (by decide)]
    refine wpAny_bind (wpAny_seqItems hob hdb ?_)
    refine wpAny_pure ?_
    show wpAny _ A.in1 (holding [key, p.2] (dictSet d key p.2)) _ _ _
    have hz1 : (merged [] (ps.take i)).length <= sizeLine := by
      have := merged_length_le [] (ps.take i)
      rw [List.length_take] at this
      simp only [List.length_nil] at this
      omega
    refine wpAny_holding (wpAny_dictSet_pairs (hsz := hz1) y hD1 fun h2 hD2 sb2 => ?_)
    rw [<- merged_take_succ [] ps i p e2] at hD2
    refine wpAny_pure ⟨plainId_quiet plain_dict_update_loop _, ih (i + 1) _ _ _ (by omega) hlt ?_ hD2 (fun b o e => (sb2.2 b (hne e).1).trans (hkeep1 b o e)) ?_⟩
    · obtain ⟨oi, hoi, r⟩ := hit1
      exact ⟨oi, (sb2.2 I (Ne.symm hdI)).trans hoi, r⟩
    · exact hR
end
section
variable {prog : Program} {w : World} {A : Around} {E : Value -> Shared -> Prop} {s : Shared}
theorem call_dict_pairs {t : Addr} {items : List Value} {ps : List (Key × Value)} {Q : Value -> Shared -> Prop} (hh : A.handled = none) (ht : TupN s.heap t items.toArray) (hp : PairsAt prog w s.heap items ps) (hz : ps.length <= sizeLine)
    (h : ∀ h' tk, h'.DictOf (mixKind prog w) s.heap.objs.size (merged [] ps) -> (∀ b o, s.heap.get? b = some o -> h'.get? b = some o) -> Q (.ref s.heap.objs.size) { s with heap := h', toks := tk }) :
    wpAny (model prog w) A (call (.type "dict") [.ref t]) Q E s := by
  refine callType_codes (Q₁ := fun obj s₁ => obj = .ref s.heap.objs.size /\ s₁ = { s with heap := s.heap.push { cls := .type "dict", data := .dict #[] } }) PySem.F.kt_called_dict (PySem.F.kt_typeCall_dict_1 _) PySem.F.entry_dict_init (kt_code_dict_new _ ⟨rfl, rfl⟩) ?_
  rintro obj s₁ ⟨rfl, rfl⟩
  have hnew : (s.heap.push { cls := .type "dict", data := .dict #[] }).DictOf (mixKind prog w) s.heap.objs.size [] := Heap.DictOf.new s.heap
  have ht' := ht.push { cls := .type "dict", data := .dict #[] }
  refine ⟨hnew.typeIs, PySem.F.args_dict_init_2 _ _, ?_⟩
  unfold Builtin.«dict.__init__»
  refine wpAny_bind ?_
  unfold Builtin.Dict.selfAndRest
  refine wpAny_bind (wpAny_notOrdered_dict hnew.typeIs ?_)
  show wpAny _ _ (pure (s.heap.objs.size, [Value.ref t])) _ _ _
  refine wpAny_pure ?_
  show wpAny _ _ (Builtin.Dict.updateFrom "dict.__init__" s.heap.objs.size (.ref t) [] .none) _ _ _
  unfold Builtin.Dict.updateFrom
  obtain ⟨ot, ht1, ht2, ⟨ht3, _⟩, nt, ht4⟩ := ht'
  refine wpAny_bind (wpAny_typeOf ⟨ot, ht1, ht2⟩ ?_)
  rw [if_pos (by decide)]
  refine wpAny_bind (getAttr?_miss_tuple ht1 ht2 ht4 ht3 miss_tuple_keys (by decide) hh (fun h1 tk1 k1 => ?_) (by size_fits))
  rw [if_pos (show (none : Option Value).isNone = true from rfl)]
  refine wpAny_bind (wpAny_rule ?_)
  have hlt : s.heap.objs.size < h1.objs.size := by
    have : h1.get? s.heap.objs.size = some _ := k1 _ _ (Heap.get?_push_size s.heap (o := { cls := .type "dict", data := .dict #[] }) rfl)
    exact Heap.lt_size this
  have hk01 : ∀ b o, s.heap.get? b = some o -> h1.get? b = some o := fun b o e => k1 b o (Heap.get?_push_of_some _ e)
  refine wpAny_bind (wpAny_pyIter_tuple (ht.at hk01).isTuple ?_)
  have hfr : ∀ b, s.heap.objs.size <= b -> s.heap.get? b = none := fun b hb => by
    cases e : s.heap.get? b with
    | none => rfl
    | some o => exact absurd (Heap.lt_size e) (Nat.not_lt.mpr hb)
  refine wpAny_pure ⟨plainId_quiet plain_dict_update_loop _, code_dict_pairs (A := A.in1) (h0 := s.heap) (d := s.heap.objs.size) (I := h1.objs.size) (t := t) (items := items) (ps := ps) hh (hfr _ (Nat.le_refl _)) (hfr _ (Nat.le_of_lt hlt)) (Nat.ne_of_lt hlt) ht.isTuple hp hz (items.length - 0) 0 0 0 _ rfl (Nat.zero_le _) ⟨_, Heap.get?_push_size _ rfl, rfl, rfl⟩ ?_ (fun b o e => Heap.get?_push_of_some _ (hk01 b o e)) ?_⟩
  · obtain ⟨o, es, ep, ho, rest⟩ := hnew
    exact ⟨o, es, ep, Heap.get?_push_of_some _ (k1 _ _ ho), rest⟩
  · exact fun h' tk' hD hk => ⟨rfl, h h' tk' hD hk⟩
end
end L2
set_option maxRecDepth 100000
set_option maxHeartbeats 4000000
namespace L2
open PySem PySem.Spec PyProof.Rows
noncomputable def replL {β : Type} : List Key -> List β -> Key -> β -> List β
  | k' :: ks, x :: xs, k, y => (if k' = k then y else x) :: replL ks xs k y
  | _, _, _, _ => []
noncomputable def putP (ks : List Key) (ds : List D) (k : Key) (d : D) : List Key × List D := if k ∈ ks then (ks, replL ks ds k d) else (ks ++ [k], ds ++ [d])
noncomputable def mergeP : List Key -> List D -> List (Key × D) -> List Key × List D
  | ks, ds, [] => (ks, ds)
  | ks, ds, (k, d) :: r => mergeP (putP ks ds k d).1 (putP ks ds k d).2 r
section
variable {K : PySem.W.Frag} {H : Hp}
theorem putK_in : ∀ {kvs : List (Key × V)} {k : Key} {v : V}, k ∈ kvs.map (·.1) -> putK kvs k v = kvs.map (fun kv => if kv.1 = k then (kv.1, v) else kv) := by
  intro kvs k v h
  unfold putK
  rw [if_pos]
  rw [List.any_eq_true]
  obtain ⟨p, hp, e⟩ := List.mem_map.mp h
  exact ⟨p, hp, by simpa using e⟩
theorem repl_fst : ∀ (kvs : List (Key × V)) (k : Key) (v : V), (kvs.map (fun kv => if kv.1 = k then (kv.1, v) else kv)).map (·.1) = kvs.map (·.1)
  | [], _, _ => rfl
  | p :: r, k, v => by
    rw [List.map_cons, List.map_cons, List.map_cons, repl_fst r k v]
    congr 1
    split <;> rfl
theorem repl_snd : ∀ (kvs : List (Key × V)) (k : Key) (v : V), (kvs.map (fun kv => if kv.1 = k then (kv.1, v) else kv)).map (·.2) = replL (kvs.map (·.1)) (kvs.map (·.2)) k v
  | [], _, _ => rfl
  | p :: r, k, v => by
    rw [List.map_cons, List.map_cons, List.map_cons, List.map_cons, repl_snd r k v]
    show _ = (if p.1 = k then v else p.2) :: _
    congr 1
    split <;> rfl
theorem Reps.repl {k : Key} {d : D} {v : V} (rd : Rep K H d v []) : ∀ {ks : List Key} {ds : List D} {vs : List V} {L : List Addr}, Reps K H ds vs L -> ks.length = ds.length -> ∃ L2, Reps K H (replL ks ds k d) (replL ks vs k v) L2 /\ List.Sublist L2 L
  | [], [], _, _, hq4, _ => by
    obtain ⟨e1, e2⟩ := hq4
    exact ⟨[], by subst e1; exact Reps.nil, List.nil_sublist _⟩
  | [], _ :: _, _, _, _, h => by cases h
  | _ :: _, [], _, _, _, h => by cases h
  | k' :: ks, d' :: ds, _, _, hq4, h => by
    obtain ⟨v', vs', L1, L2, e1, e2, h1, h2⟩ := hq4
    subst e1 e2
    obtain ⟨L3, a, b⟩ := Reps.repl (ks := ks) rd h2 (by simpa using h)
    by_cases e : k' = k
    · refine ⟨[] ++ L3, ?_, ?_⟩
      · show Reps K H ((if k' = k then d else d') :: replL ks ds k d) ((if k' = k then v else v') :: replL ks vs' k v) _
        rw [if_pos e, if_pos e]
        exact Reps.cons rd a
      · exact b.trans (List.sublist_append_right _ _)
    · refine ⟨L1 ++ L3, ?_, List.Sublist.append (List.Sublist.refl _) b⟩
      show Reps K H ((if k' = k then d else d') :: replL ks ds k d) ((if k' = k then v else v') :: replL ks vs' k v) _
      rw [if_neg e, if_neg e]
      exact Reps.cons h1 a
theorem rep_put {kvs : List (Key × V)} {ds : List D} {L : List Addr} {k : Key} {d : D} {v : V} (rs : Reps K H ds (kvs.map (·.2)) L) (nd : (kvs.map (·.1)).Nodup) (rd : Rep K H d v []) :
    (putK kvs k v).map (·.1) = (putP (kvs.map (·.1)) ds k d).1 /\ (putP (kvs.map (·.1)) ds k d).1.Nodup /\ ∃ L2, Reps K H (putP (kvs.map (·.1)) ds k d).2 ((putK kvs k v).map (·.2)) L2 /\ List.Sublist L2 L := by
  unfold putP
  by_cases h : k ∈ kvs.map (·.1)
  · rw [if_pos h, putK_in h, repl_fst, repl_snd]
    refine ⟨rfl, nd, Reps.repl rd rs ?_⟩
    rw [<- rs.length, List.length_map, List.length_map]
  · rw [if_neg h, putK_fresh h]
    refine ⟨by rw [List.map_append]; rfl, ?_, L, ?_, List.Sublist.refl _⟩
    · refine List.nodup_append.mpr ⟨nd, by simp, fun a ha b hb z => ?_⟩
      rw [List.mem_singleton] at hb
      subst hb z
      exact h ha
    · rw [List.map_append]
      have := Reps.append rs (Reps.cons rd (Reps.nil (K := K) (H := H)))
      rw [List.append_nil, List.append_nil] at this
      exact this
theorem rep_merge : ∀ (ps : List (Key × D)) (qs : List (Key × V)) (kvs : List (Key × V)) (ds : List D), Paired (fun (p : Key × D) (q : Key × V) => p.1 = q.1 /\ Rep K H p.2 q.2 []) ps qs -> Reps K H ds (kvs.map (·.2)) [] -> (kvs.map (·.1)).Nodup ->
    (mergeK kvs qs).map (·.1) = (mergeP (kvs.map (·.1)) ds ps).1 /\ (mergeP (kvs.map (·.1)) ds ps).1.Nodup /\ Reps K H (mergeP (kvs.map (·.1)) ds ps).2 ((mergeK kvs qs).map (·.2)) []
  | [], _, kvs, ds, h, rs, nd => by
    cases h
    exact ⟨rfl, nd, rs⟩
  | p :: ps, _, kvs, ds, h, rs, nd => by
    cases h with
    | @cons _ q _ qs e t =>
      obtain ⟨e1, e2⟩ := e
      obtain ⟨a1, a2, L2, a3, a4⟩ := rep_put (k := p.1) rs nd e2
      have z : L2 = [] := by simpa using a4
      subst z
      obtain ⟨b1, b2, b3⟩ := rep_merge ps qs (putK kvs p.1 q.2) _ t a3 (a1 ▸ a2)
      show (mergeK (putK kvs q.1 q.2) qs).map (·.1) = (mergeP (putP (kvs.map (·.1)) ds p.1 p.2).1 (putP (kvs.map (·.1)) ds p.1 p.2).2 ps).1 /\ _
      rw [<- e1, <- a1]
      refine ⟨b1, ?_, ?_⟩
      · show (mergeP (putP (kvs.map (·.1)) ds p.1 p.2).1 (putP (kvs.map (·.1)) ds p.1 p.2).2 ps).1.Nodup
        rw [<- a1]; exact b2
      · show Reps K H (mergeP (putP (kvs.map (·.1)) ds p.1 p.2).1 (putP (kvs.map (·.1)) ds p.1 p.2).2 ps).2 ((mergeK (putK kvs q.1 q.2) qs).map (·.2)) []
        rw [<- a1, <- e1]; exact b3
noncomputable def pairsOf : List D -> Option (List (Key × D))
  | [] => some []
  | .tup [k, d] :: ps => match keyOf k with
    | some k' => if d.imm = true then (pairsOf ps).map ((k', d) :: ·) else none
    | none => none
  | _ => none
theorem pairs_vals : ∀ {ps : List D} {kds : List (Key × D)} {vs : List V} {L : List Addr}, Reps K H ps vs L -> pairsOf ps = some kds ->
    ∃ qs : List (Key × V), Paired (fun (v : V) (q : Key × V) => ∃ b, v = .ref b /\ SqT K H b [kV q.1, q.2]) vs qs /\ Paired (fun (p : Key × D) (q : Key × V) => p.1 = q.1 /\ Rep K H p.2 q.2 []) kds qs
  | [], kds, _, _, hq4, h => by
    obtain ⟨e, _⟩ := hq4
    cases h; subst e
    exact ⟨[], .nil, .nil⟩
  | d :: ps, kds, _, _, hq4, h => by
    obtain ⟨v, vs', L1, L2, e1, e2, r1, r2⟩ := hq4
    subst e1
    unfold pairsOf at h
    split at h
    · rename_i e; cases e
    · rename_i k d' ps' e
      injection e with e3 e4
      subst e3 e4
      split at h
      · rename_i k' hk
        split at h
        · rename_i hi
          cases hp : pairsOf ps with
          | none => rw [hp] at h; cases h
          | some r =>
            rw [hp] at h
            cases h
            obtain ⟨qs, a, b⟩ := pairs_vals r2 hp
            obtain ⟨bb, ws, ev, hs, ⟨v1, ws', M1, M2, f1, f2, g1, v2, ws'', M3, M4, f3, f4, g2, g3, _⟩⟩ := r1
            subst f1 f3 g3
            have hM := Rep.imm _ _ _ g2 hi
            subst hM
            refine ⟨(k', v2) :: qs, .cons ⟨bb, ev, ?_⟩ a, .cons ⟨rfl, g2⟩ b⟩
            rw [<- keyOf_rep hk g1]
            exact hs
        · cases h
      · cases h
    · cases h
end
noncomputable def sKPut (i : Nat) (t ti : Tn -> R D) : Tn -> R Fl := fun τ => (t τ).bind fun d => (eVar i τ).bind fun l => (ti τ).bind fun k => match l, keyOf k with
  | .dic ks ds, some k => if d.imm = true /\ ks.length < sizeLine then .ok (.nx (τ.set i (some (.dic (putP ks ds k d).1 (putP ks ds k d).2)))) else .bad
  | _, _ => .bad
section
variable {X : Cx} {E : XK} {Γ Γ1 Γ' Γl : List Cl} {e a b o f : Expr} {es : List Expr} {t t' u v : Tn -> R D} {c ca cb : Rc} {pos : Pos}
theorem kput (i : Nat) {x : Str} {p0 p1 : Pos} {ix : Expr} {ti : Tn -> R D} (hu : X.A.units + 1 < cLine) (h : MV X E Γ e t Γ1) (hi : ME X E Γ1 ix ti c) (hN : autoParam (X.N[i]? = some x) L2.au3._auto_1) (hk : autoParam (Γ1[i]? = some .own) L2.au3._auto_1) (hv : autoParam (Vis X.env.scope x) L2.au5._auto_1) (hb : autoParam ((x == ("__debug__" : Str)) = false) L2.au1._auto_1) (hcd : autoParam ((x == ("__classdict__" : Str)) = false) L2.au1._auto_1)
    (hs : autoParam (swapsWith e (some (.Subscript (.Name x p0) ix p1)) pos.line X.env = pure false) L2.au3._auto_1) :
    MS X E Γl Γ (.Assign [.Subscript (.Name x p0) ix p1] e pos) (sKPut i t ti) Γ1 := by
  obtain ⟨te, p, q⟩ := h
  obtain ⟨te', p', q'⟩ := hi
  refine ⟨_, ps_dput hu (pe_var (pos := p0) hN hv hb hcd) p' p hs, fun B σ H τ Z ok h => q B σ H τ [] _ ok ?_⟩
  unfold sKPut at h
  cases ht : t τ with
  | ok d' =>
    rw [ht, R.ok_bind] at h
    refine fun y H1 Le s1 ry ok1 => ?_
    obtain ⟨v1, d1, L1, q1, q2, r1, n1, n2, _⟩ := ok1.slot hk
    refine ⟨v1, q1, ?_⟩
    have ev : eVar i τ = .ok d1 := by unfold eVar; rw [q2]
    rw [ev, R.ok_bind] at h
    obtain ⟨O, eo, _⟩ := ok1.eok
    refine q' O σ H1 τ _ eo ?_
    cases hk' : ti τ with
    | ok dk =>
      rw [hk', R.ok_bind] at h
      refine fun kv H2 Lk s2 rk _ => ?_
      have ok2 := ok1.same s2
      obtain ⟨v2, d2, L2, q3, q4, r2, m1, m2, fin⟩ := ok2.slot hk
      rw [q1] at q3
      cases q3
      rw [q2] at q4
      cases q4
      cases d1 with
      | dic ks ds =>
        cases hko : keyOf dk with
        | none => rw [hko] at h; exact h.elim
        | some k =>
          rw [hko] at h
          dsimp only at h
          by_cases hz : d'.imm = true /\ ks.length < sizeLine
          · rw [if_pos hz] at h
            obtain ⟨a, kvs, L', rfl, ha2, z2, hks, hnd, rs⟩ := r2
            subst z2
            have mu : (∃ vs, H2 a = some (.lst vs)) \/ ∃ kvs, H2 a = some (.dK kvs) := .inr ⟨_, ha2⟩
            have zL := Rep.imm _ _ _ ry hz.1
            subst zL
            obtain ⟨w1, w2⟩ := List.nodup_cons.mp m1
            have r3 := (ry.same s2).upd (o := .dK (putK kvs k y)) mu (by simp)
            have rs3 := rs.upd (o := .dK (putK kvs k y)) mu w1
            subst hks
            obtain ⟨a1, a2, L3, a3, a4⟩ := rep_put (k := k) rs3 hnd r3
            refine ⟨a, _, rfl, ?_, h _ _ (fin _ _ (a :: L3) [] [] rfl (TF.upd mu) (fun b hb _ => upd_ne fun z => hb (z ▸ List.mem_cons_self)) ⟨a, _, L3, rfl, upd_same, rfl, a1, a2, a3⟩ (fun b hb => ?_) ?_)⟩
            · rw [keyOf_rep hko rk]
              exact DPut.k ha2 (by have := hz.2; rw [List.length_map] at this; exact this)
            · rcases List.mem_cons.mp hb with z | z
              · exact .inl (z ▸ List.mem_cons_self)
              · exact .inl (List.mem_cons_of_mem _ (a4.subset z))
            · exact List.nodup_cons.mpr ⟨fun z => w1 (a4.subset z), w2.sublist a4⟩
          · rw [if_neg hz] at h; exact h.elim
      | _ => exact h.elim
    | err n => rw [hk'] at h; exact fun C H' e s => h C H' e (ok1.ext.trans s)
    | bad => rw [hk'] at h; exact h
  | err n => rw [ht] at h; exact h
  | bad => rw [ht] at h; exact h
end
end L2
set_option maxRecDepth 100000
set_option maxHeartbeats 4000000
namespace L2
open PySem PySem.Spec PyProof.Rows
noncomputable def rDictP (K : PySem.W.Frag) : List V -> Hp -> VK -> Prop := fun xs H Q => ∃ a vs, ∃ qs : List (Key × V), xs = [.ref a] /\ SqT K H a vs /\ Paired (fun (v : V) (q : Key × V) => ∃ b, v = .ref b /\ SqT K H b [kV q.1, q.2]) vs qs /\ ∀ l, H l = none -> Q (.ref l) (upd H l (.dK (mergeK [] qs)))
section
variable {X : Cx}
theorem pairs_at {pins : List (Addr × Obj)} {σ : St} {H : Hp} {s : Shared} (I : Inv X pins σ H s) : ∀ {vs : List V} {qs : List (Key × V)} {its : List Value}, Paired (fun (v : V) (q : Key × V) => ∃ b, v = .ref b /\ SqT X.K H b [kV q.1, q.2]) vs qs -> Vals vs its ->
    ∃ ps : List (Key × Value), PairsAt X.prog X.w s.heap its ps /\ KV qs ps
  | _, _, _, .nil, .nil => ⟨[], .nil, .nil⟩
  | _, _, _, .cons (b := q) h t, .cons r t2 => by
    obtain ⟨b, rfl, hs⟩ := h
    obtain ⟨ps, a1, a2⟩ := pairs_at I t t2
    obtain ⟨its2, r2, pl, _⟩ := I.tuple hs
    cases r
    cases r2 with
    | cons rk r3 =>
      cases r3 with
      | cons rv r4 =>
        cases r4
        rename_i key u
        exact ⟨(q.1, u) :: ps, .cons ⟨b, key, rfl, pl, kV_is rk⟩ a1, .cons ⟨rfl, rv⟩ a2⟩
theorem call_dictP (hc : X.calm = true) : CallR X (.type "dict") (rDictP X.K) := by
  intro pins s σ H xs us Q I r h
  obtain ⟨a, vs, qs, rfl, ha, hp, q⟩ := h
  obtain ⟨u, rfl, ru⟩ := vals1 r
  obtain rfl : u = Value.ref a := ru
  obtain ⟨its, rv, tn, hz⟩ := I.tupN ha
  obtain ⟨ps, hps, kv⟩ := pairs_at I hp rv
  have hl1 : vs.length = qs.length := Paired.length hp
  have hl2 := kv.length
  refine call_dict_pairs (I.ok.hd hc) tn hps (by omega) fun h' tk hD hk => ?_
  refine ⟨.ref s.heap.objs.size, _, I.laid (o := .dK (mergeK [] qs)) (t' := tk) hk (Nat.le_refl _) ?_, rfl, q _ (I.hok.fresh (Nat.le_refl _))⟩
  have hm : KV (mergeK [] qs) (merged [] ps) := KV.merge kv .nil
  refine ⟨?_, beq_eq_false_iff_ne.mpr (Ne.symm (Nat.ne_of_lt I.big)), _, hm, hD⟩
  have e1 := hm.length
  have e2 := merged_length_le [] ps
  simp only [List.length_nil] at e2
  omega
theorem call_dictA (hc : X.calm = true) : CallR X (.type "dict") (fun xs H Q => rDict1 xs H Q \/ rDictP X.K xs H Q) := CallR.or call_dict1 (call_dictP hc)
end
noncomputable def dictAD : List D -> R D
  | [.dic ks ds] => if D.imms ds = true then .ok (.dic ks ds) else .bad
  | [.tup ps] => match pairsOf ps with
    | some kds => .ok (.dic (mergeP [] [] kds).1 (mergeP [] [] kds).2)
    | none => .bad
  | _ => .bad
theorem N_dictA : NoErrL dictAD := fun ds n h => by
  unfold dictAD at h
  split at h
  · split at h <;> cases h
  · split at h <;> cases h
  · cases h
theorem B_dictA {K : PySem.W.Frag} : ClB K (fun xs H Q => rDict1 xs H Q \/ rDictP K xs H Q) dictAD := by
  rintro H xs ds L Q r ⟨d, hg, q⟩
  unfold dictAD at hg
  split at hg
  · rename_i ks ds
    refine .inl (B_dict1 H xs _ L Q r ⟨d, hg, q⟩)
  · rename_i ps
    split at hg
    · rename_i kds hp
      cases hg
      obtain ⟨v, rfl, a, vs, rfl, ha, rs⟩ := reps1 r
      obtain ⟨qs, h1, h2⟩ := pairs_vals rs hp
      refine .inr ⟨a, vs, qs, rfl, ha, h1, fun l hl => ?_⟩
      obtain ⟨b1, b2, b3⟩ := rep_merge kds qs [] [] h2 Reps.nil List.nodup_nil
      exact q _ _ [l] (Same.new hl) ⟨l, _, [], rfl, upd_same, rfl, b1, b2, b3.same (Same.new hl)⟩ (by simp) (fun b hb => by rw [List.mem_singleton.mp hb]; exact hl)
    · cases hg
  · cases hg
section
variable {X : Cx} {E : XK} {Γ : List Cl} {u : Tn -> R (List D)} {c : Rc} {p pos : Pos}
end
end L2
set_option maxRecDepth 100000
set_option maxHeartbeats 4000000
namespace L2
open PySem PySem.Spec PyProof.Rows
noncomputable def kputD (i : Nat) (τ : Tn) (d : D) : D -> D -> R Fl
  | .dic ks ds, k => (match keyOf k with
    | some k => if d.imm = true /\ ks.length < sizeLine then .ok (.nx (τ.set i (some (.dic (putP ks ds k d).1 (putP ks ds k d).2)))) else .bad
    | none => .bad)
  | _, _ => .bad
theorem ev_sKPut {i : Nat} {t ti : Tn -> R D} {τ : Tn} : sKPut i t ti τ = (t τ).bind fun d => (eVar i τ).bind fun l => (ti τ).bind fun k => kputD i τ d l k := by
  unfold sKPut
  congr 1; funext d; congr 1; funext l; congr 1; funext k
  cases l with
  | dic ks ds =>
    cases h : keyOf k <;> simp only [kputD, h]
  | _ => rfl
theorem ev_kput {i : Nat} {τ : Tn} {d : D} {ks : List Key} {ds : List D} {x : Str} (hd : d.imm = true) (hl : ks.length < 16777216) : kputD i τ d (.dic ks ds) (.str x) = .ok (.nx (τ.set i (some (.dic (putP ks ds (.inr x) d).1 (putP ks ds (.inr x) d).2)))) := if_pos ⟨hd, by rw [sizeLine_eq]; exact hl⟩
theorem look_repl : ∀ (ks : List Key) (ds : List D) (k : Key) (d : D), ks.length = ds.length -> k ∈ ks -> lookD ks (replL ks ds k d) k = some d
  | [], _, _, _, _, h => by cases h
  | _ :: _, [], _, _, h, _ => by cases h
  | k' :: ks, x :: ds, k, d, h, hm => by
    unfold replL lookD
    by_cases hk : k' = k
    · rw [if_pos hk, if_pos hk]
    · rw [if_neg hk]
      rcases List.mem_cons.mp hm with z | z
      · exact absurd z.symm hk
      · exact look_repl ks ds k d (by simpa using h) z
theorem look_app : ∀ (ks : List Key) (ds : List D) (k : Key) (d : D), ks.length = ds.length -> k ∉ ks -> lookD (ks ++ [k]) (ds ++ [d]) k = some d
  | [], [], k, d, _, _ => by
    show lookD [k] [d] k = _
    unfold lookD
    rw [if_pos rfl]
  | [], _ :: _, _, _, h, _ => by cases h
  | _ :: _, [], _, _, h, _ => by cases h
  | k' :: ks, x :: ds, k, d, h, hm => by
    show lookD (k' :: (ks ++ [k])) (x :: (ds ++ [d])) k = _
    unfold lookD
    rw [if_neg (show ¬ k' = k from fun z => hm (by rw [z]; exact List.mem_cons_self)), look_app ks ds k d (by simpa using h) (fun z => hm (List.mem_cons_of_mem _ z))]
theorem look_put (ks : List Key) (ds : List D) (k : Key) (d : D) (h : ks.length = ds.length) : lookD (putP ks ds k d).1 (putP ks ds k d).2 k = some d := by
  unfold putP
  by_cases hk : k ∈ ks
  · rw [if_pos hk]; exact look_repl ks ds k d h hk
  · rw [if_neg hk]; exact look_app ks ds k d h hk
end L2
set_option maxRecDepth 100000
set_option maxHeartbeats 4000000
namespace L2
open PySem PySem.Spec PyProof.Rows
section
variable {prog : Program} {w : World} {A : Around} {R : Result -> Shared -> Prop}
end
section
variable {prog : Program} {w : World} {A : Around} {E : Value -> Shared -> Prop} {s : Shared}
end
section
variable {X : Cx} {E : XK} {Γ : List Cl} {e f : Expr} {t u : Tn -> R D} {ca cb : Rc} {p pos kp : Pos} {te tf : TE}
end
end L2
set_option maxRecDepth 100000
set_option maxHeartbeats 4000000
namespace L2
open PySem PySem.Spec PyProof.Rows
end L2
set_option maxRecDepth 100000
set_option maxHeartbeats 4000000
namespace L2
open PySem PySem.Spec PyProof.Rows
section
open PySem.SeqAt PySem.MeetsSeq3
open PySem.AutoSeq1 (wpAny_loadPart')
end
end L2
set_option maxRecDepth 100000
set_option maxHeartbeats 4000000
namespace L2
open PySem PySem.Spec PyProof.Rows
section
variable {X : Cx} {E : XK} {Γ Γ1 Γ' Γl : List Cl} {e : Expr} {t : Tn -> R D} {pos : Pos}
end
end L2
set_option maxRecDepth 100000
set_option maxHeartbeats 4000000
namespace L2
open PySem PySem.Spec PyProof.Rows
section
open PySem.SeqAt PySem.MeetsSeq3
open PySem.AutoSeq1 (wpAny_loadPart')
end
section
variable {X : Cx} {pins : List (Addr × Obj)} {σ : St} {H : Hp} {s : Shared}
end
end L2
set_option maxRecDepth 100000
set_option maxHeartbeats 4000000
namespace L2
open PySem PySem.Spec PyProof.Rows
structure Src (P : Program) (w : World) (i l : Addr) (xs : Array Value) (st : Nat -> Heap -> Prop) : Prop where
  keep : ∀ k h h', st k h -> (∀ b, b = i \/ b = l -> ∀ o, h.get? b = some o -> h'.get? b = some o) -> st k h'
  obj : ∀ k h, st k h -> ∃ o vs, h.get? i = some o /\ o.data = .fields vs
  item : ∀ (A : Around) (k : Nat) (s : Shared) (Q : Value -> Shared -> Prop) (E : Value -> Shared -> Prop) (x : Value), st k s.heap -> xs[k]? = some x -> (∀ h', st (k + 1) h' -> Heap.SameBut i s.heap h' -> Q x { s with heap := h' }) -> wpAny (model P w) A (Builtin.SmallTypes.nextOf (.ref i)) Q E s
  stop : ∀ (A : Around) (k : Nat) (s : Shared) (Q : Value -> Shared -> Prop) (E : Value -> Shared -> Prop), A.handled = none -> st k s.heap -> xs[k]? = none -> (∀ h' e, Heap.ExtBut i s.heap h' -> (∃ o, h'.get? e = some o /\ o.cls = .type "StopIteration") -> E (.ref e) { s with heap := h' }) -> wpAny (model P w) A (Builtin.SmallTypes.nextOf (.ref i)) Q E s
section
variable {prog : Program} {w : World} {A : Around} {E : Value -> Shared -> Prop} {s : Shared}
end
section
variable {prog : Program} {w : World} {A : Around} {E : Value -> Shared -> Prop} {s : Shared}
variable {z TI TO i1 i2 l1 l2 : Addr} {k : Nat} {xs ys : Array Value} {st1 st2 : Nat -> Heap -> Prop} {a b : Value}
structure ZSt (z TI TO i1 i2 : Addr) (st1 st2 : Nat -> Heap -> Prop) (f0 : Value) (k1 k2 : Nat) (h : Heap) : Prop where
  z : IsZip h z TI TO f0
  ti : IsPair h TI (.ref i1) (.ref i2)
  to' : ∃ a b, IsPair h TO a b
  s1 : st1 k1 h
  s2 : st2 k2 h
theorem ZSt.keep {f0 : Value} {k1 k2 : Nat} {h h' : Heap} (D : ZipApart z TI TO i1 i2 l1 l2) (S1 : Src prog w i1 l1 xs st1) (S2 : Src prog w i2 l2 ys st2) (S : ZSt z TI TO i1 i2 st1 st2 f0 k1 k2 h) (e : ∀ c o, h.get? c = some o -> h'.get? c = some o) : ZSt z TI TO i1 i2 st1 st2 f0 k1 k2 h' :=
  ⟨e _ _ S.z, e _ _ S.ti, let ⟨a, b, q⟩ := S.to'; ⟨a, b, e _ _ q⟩, S1.keep _ _ _ S.s1 fun c _ o => e c o, S2.keep _ _ _ S.s2 fun c _ o => e c o⟩
end
end L2
set_option maxRecDepth 100000
set_option maxHeartbeats 4000000
namespace L2
open PySem PySem.Spec PyProof.Rows
noncomputable def IIt : Bool -> Heap -> Addr -> Addr -> Nat -> Prop
  | true, h, i, l, k => h.IsTupleIter i l k
  | false, h, i, l, k => h.IsListIter i l k
noncomputable def ISq : Bool -> Heap -> Addr -> Array Value -> Prop
  | true, h, l, xs => h.IsTuple l xs
  | false, h, l, xs => h.IsList l xs
theorem IIt.at {t : Bool} {h h' : Heap} {i l : Addr} {k : Nat} (x : IIt t h i l k) (e : ∀ o, h.get? i = some o -> h'.get? i = some o) : IIt t h' i l k := by
  cases t
  · exact Heap.IsListIter.at (h := h) x e
  · exact Heap.IsTupleIter.at (h := h) x e
theorem IIt.obj {t : Bool} {h : Heap} {i l : Addr} {k : Nat} (x : IIt t h i l k) : ∃ o vs, h.get? i = some o /\ o.data = .fields vs := by
  cases t
  · obtain ⟨o, a, _, b⟩ := (show h.IsListIter i l k from x); exact ⟨o, _, a, b⟩
  · obtain ⟨o, a, _, b⟩ := (show h.IsTupleIter i l k from x); exact ⟨o, _, a, b⟩
noncomputable def Sq (t : Bool) (K : PySem.W.Frag) (H : Hp) (a : Addr) (xs : List V) : Prop := if t = true then SqT K H a xs else SqL K H a xs
section
variable {X : Cx} {pins : List (Addr × Obj)} {σ : St} {H : Hp} {s : Shared} {a : Addr} {xs ys : List V} {h' : Heap}
theorem Inv.sq {t : Bool} (I : Inv X pins σ H s) (h : Sq t X.K H a xs) : ∃ its : List Value, Vals xs its /\ ISq t s.heap a its.toArray /\ xs.length <= sizeLine := by
  cases t
  · obtain ⟨its, r, p, z⟩ := I.list (show SqL X.K H a xs from h)
    exact ⟨its, r, p.isList, z⟩
  · obtain ⟨its, r, p, z⟩ := I.tuple (show SqT X.K H a xs from h)
    exact ⟨its, r, p, z⟩
end
noncomputable def Itz (K : PySem.W.Frag) (t1 t2 : Bool) (a b : Addr) : It :=
  ⟨fun i H => ∃ xs ys x y, Sq t1 K H a xs /\ Sq t2 K H b ys /\ xs[i]? = some x /\ ys[i]? = some y,
   fun i H v H' => ∃ p x y, H p = none /\ v = .ref p /\ H' = upd H p (.tup [x, y]) /\ ∀ xs ys, Sq t1 K H a xs -> Sq t2 K H b ys -> xs[i]? = some x /\ ys[i]? = some y,
   fun i H => ∃ xs ys, Sq t1 K H a xs /\ Sq t2 K H b ys /\ (xs.length <= i \/ ys.length <= i)⟩
end L2
set_option maxRecDepth 100000
set_option maxHeartbeats 4000000
namespace L2
open PySem PySem.Spec PyProof.Rows
section
variable {prog : Program} {w : World} {A : Around} {E : Value -> Shared -> Prop} {s : Shared}
end
section
variable {X : Cx}
end
noncomputable def zipGo (ds es : List D) : List D := (ds.zip es).map fun p => .tup [p.1, p.2]
theorem zipGo_get {ds es : List D} {i : Nat} {d : D} (h : (zipGo ds es)[i]? = some d) : ∃ x y, ds[i]? = some x /\ es[i]? = some y /\ d = .tup [x, y] := by
  unfold zipGo at h
  rw [List.getElem?_map] at h
  cases hz : (ds.zip es)[i]? with
  | none => rw [hz] at h; cases h
  | some p =>
    rw [hz] at h
    obtain ⟨h1, h2⟩ := List.getElem?_zip_eq_some.mp hz
    exact ⟨p.1, p.2, h1, h2, (Option.some.inj h).symm⟩
theorem zipGo_len (ds es : List D) : (zipGo ds es).length = min ds.length es.length := by unfold zipGo; rw [List.length_map, List.length_zip]
theorem ItOk.zip {K : PySem.W.Frag} {H : Hp} {t : Bool} {a b : Addr} {vs ws : List V} {ds es : List D} {L1 L1' L2 L2' : List Addr} (ha : ∀ H', TF H H' -> (∀ c ∈ L1, H' c = H c) -> Sq t K H' a vs) (h1 : Reps K H ds vs L1') (s1 : ∀ c ∈ L1', c ∈ L1) (d1 : ∀ c ∈ L1, H c ≠ none) (hb : H b = some (.lst ws)) (e2 : L2 = b :: L2') (h2 : Reps K H es ws L2') :
    ItOk K (Itz K t false a b) (zipGo ds es) (L1 ++ L2) H := by
  subst e2
  refine ⟨fun c hc => ?_, fun H' tf kp i => ⟨fun d hd => ?_, fun hl => ?_⟩⟩
  · rcases List.mem_append.mp hc with z | z
    · exact d1 c z
    · rcases List.mem_cons.mp z with z | z
      · rw [z, hb]; simp
      · exact h2.there z
  · have ha' := ha H' tf fun c hc => kp c (List.mem_append_left _ hc)
    have hb' : H' b = some (.lst ws) := (kp b (List.mem_append_right _ List.mem_cons_self)).trans hb
    obtain ⟨x, y, hx, hy, rfl⟩ := zipGo_get hd
    obtain ⟨v, M1, e1, r1, u1⟩ := h1.get hx
    obtain ⟨w, M2, e2, r2, u2⟩ := h2.get hy
    refine ⟨⟨vs, ws, v, w, ha', SqL.of hb', e1, e2⟩, fun z H'' ⟨p, x', y', hp, z1, z2, hq⟩ => ?_⟩
    subst z1 z2
    obtain ⟨q1, q2⟩ := hq vs ws ha' (SqL.of hb')
    rw [e1] at q1
    cases q1
    rw [e2] at q2
    cases q2
    have r1' : Rep K H' x v M1 := Rep.keep tf x _ M1 r1 fun c hc => kp c (List.mem_append_left _ (s1 c (u1.subset hc)))
    have r2' : Rep K H' y w M2 := Rep.keep tf y _ M2 r2 fun c hc => kp c (List.mem_append_right _ (List.mem_cons_of_mem _ (u2.subset hc)))
    refine ⟨Same.new hp, M1 ++ (M2 ++ []), ⟨p, _, rfl, SqT.of upd_same, ?_⟩, fun c hc => ?_⟩
    · exact Reps.cons (r1'.same (Same.new hp)) (Reps.cons (r2'.same (Same.new hp)) Reps.nil)
    · rw [List.append_nil] at hc
      rcases List.mem_append.mp hc with z | z
      · exact List.mem_append_left _ (s1 c (u1.subset z))
      · exact List.mem_append_right _ (List.mem_cons_of_mem _ (u2.subset z))
  · have ha' := ha H' tf fun c hc => kp c (List.mem_append_left _ hc)
    have hb' : H' b = some (.lst ws) := (kp b (List.mem_append_right _ List.mem_cons_self)).trans hb
    rw [zipGo_len] at hl
    have k1 := h1.length
    have k2 := h2.length
    refine ⟨vs, ws, ha', SqL.of hb', ?_⟩
    by_cases hc : vs.length <= i
    · exact .inl hc
    · exact .inr (by omega)
section
variable {X : Cx} {E : XK} {Γ : List Cl} {u : Tn -> R (List D)} {c : Rc} {p pos : Pos}
end
end L2
set_option maxRecDepth 100000
set_option maxHeartbeats 4000000
namespace L2
open PySem PySem.Spec PyProof.Rows
section
variable {prog : Program} {w : World} {A : Around} {E : Value -> Shared -> Prop} {s : Shared}
end
section
variable {X : Cx} {E : XK} {Γ : List Cl} {e : Expr} {t : Tn -> R D} {c : Rc} {p2 pos : Pos}
end
section
variable {X : Cx} {E : XK} {Γ Γl : List Cl} {pos : Pos}
end
end L2
set_option maxRecDepth 100000
set_option maxHeartbeats 4000000
namespace L2
open PySem PySem.Spec PyProof.Rows
end L2
set_option maxRecDepth 100000
set_option maxHeartbeats 4000000
namespace L2
open PySem PySem.Spec PyProof.Rows
noncomputable def sErr (x : Str) (u : Tn -> R (List D)) : Tn -> R Fl := fun τ => (u τ).bind fun ds => if ds.length <= sizeLine then .err x else .bad
theorem ms_raise {P : Program} {w : World} {K : PySem.W.Frag} {mg : Str -> Option Value} {base : Heap} {N : List Str} {qual : Str} {scope : Scope} {f : Addr} {cd : Value} {A : Around} {outer : List Env} {s : Shared} {H : Hp} {E : XK} {Γ Γl Γ' : List Cl}
    {x : Str} {C : Addr} {e₀ : Expr} {u : Tn -> R (List D)} {c : Rc} {np cpos pos : Pos} (hc : ErrC K x C) (hg : Gl (cxOf (cxx P w) P w K mg base N qual scope f cd A outer s H E) x)
    (ha : MA (cxOf (cxx P w) P w K mg base N qual scope f cd A outer s H E) E Γ [e₀] u c) (hd : autoParam ((x == ("__debug__" : Str)) = false) L2.au1._auto_1)
    (he : autoParam (starEach [e₀] (envOfC qual scope s.heap.objs.size f cd) = (false, eval e₀ (envOfC qual scope s.heap.objs.size f cd)) :: starEach [] (envOfC qual scope s.heap.objs.size f cd)) L2.au3._auto_1) :
    MS (cxOf (cxx P w) P w K mg base N qual scope f cd A outer s H E) E Γl Γ (.Raise (some (.Call (.Name x np) [e₀] [] cpos)) none pos) (sErr x u) Γ' := by
  obtain ⟨_, ta, pa, q⟩ := ha
  refine ⟨tRaise C E ta, fun pins s1 σ H1 D I h => ps_raise (A := A) (show A.handled = none from I.ok.hd rfl) hc hg pa hd he rfl pins s1 σ H1 D I h, fun B σ H1 τ Z ok h => ?_⟩
  obtain ⟨O, eok, _⟩ := ok.eok
  refine q O σ H1 τ _ eok ?_
  unfold sErr at h
  cases hu : u τ with
  | ok ds =>
    rw [hu, R.ok_bind] at h
    refine fun vs H' L s r _ => ?_
    by_cases hz : ds.length <= sizeLine
    · rw [if_pos hz] at h
      exact ⟨by rw [r.length]; exact hz, h C H' hc (ok.ext.trans s)⟩
    · rw [if_neg hz] at h; exact h.elim
  | err n => rw [hu] at h; exact fun C' H' e s => h C' H' e (ok.ext.trans s)
  | bad => rw [hu] at h; exact h.elim
noncomputable def sTryE (F : List D -> R D) (u : Tn -> R (List D)) (g : Str -> Option D) : Tn -> R Fl := fun τ => match u τ with
  | .ok ds => (match F ds with
    | .ok d => .ok (.nx τ)
    | .err m => (match g m with | some d => .ok (.rt d) | none => .bad)
    | .bad => .bad)
  | _ => .bad
noncomputable def Suite (X : Cx) (CS : Addr) (i : Nat) (sts : List Stmt) (g : Str -> Option D) : Prop := ∀ (m : Str) (d : D), g m = some d -> ∀ C, ErrC X.K m C -> PySem.W.exmOne X.K (.ref C) (.ref CS) = some true /\
  ∃ ts : Addr -> Obj -> TS, (∀ e oe, PSs (X.within e oe) sts (ts e oe)) /\ ∀ e oe (Z : Ends) (σ : St) (H : Hp), σ.length = X.N.length -> oe.cls = .ref C -> H e = none -> σ[i]? = some (some (.ref e)) -> (∀ v H', Same H H' -> Rep X.K H' d v [] -> Z.rt v H') -> ts e oe Z σ H
noncomputable def Suite.ts {X : Cx} {CS : Addr} {i : Nat} {sts : List Stmt} {g : Str -> Option D} (hs : Suite X CS i sts g) (e : Addr) (oe : Obj) : TS := fun Z σ H => ∃ (m : Str) (d : L2.D) (hg : g m = some d) (C : Addr) (hC : ErrC X.K m C), Classical.choose (hs m d hg C hC).2 e oe Z σ H
theorem Suite.pss {X : Cx} {CS : Addr} {i : Nat} {sts : List Stmt} {g : Str -> Option D} (hs : Suite X CS i sts g) (e : Addr) (oe : Obj) : PSs (X.within e oe) sts (hs.ts e oe) := by
  intro pins s σ H Z I h
  obtain ⟨m, d, hg, C, hC, z⟩ := h
  exact (Classical.choose_spec (hs m d hg C hC).2).1 e oe pins s σ H Z I z
section
variable {X : Cx} {E : XK} {Γ Γl Γ' : List Cl} {k : Nat} {CS : Addr} {ps : List Str} {F : List D -> R D} {nA : Nat} {x xc n : Str} {p pos pos' pc hpos tpos : Pos} {e : Expr} {es : List Expr} {u : Tn -> R (List D)} {c : Rc} {i : Nat} {b₀ : Stmt} {suite : List Stmt} {g : Str -> Option D}
theorem ms_tryE (O : Own X.prog X.w X.K X.mg X.base x k ps (spM X.K F nA)) (hN : X.N.Nodup) (hr : Room k X.A) (hg : Gl X x) (ha : MA X.nox (fun _ _ _ => False) Γ (e :: es) u c) (hgc : Gl X xc) (hmc : X.mg xc = some (.ref CS)) (hi : X.N[i]? = some n) (hx : X.env.scope.names.lookup n = some .local) (hil : i < X.N.length) (hΓ : Γ.length = X.N.length) (hs : Suite X CS i (b₀ :: suite) g)
    (hst : autoParam (X.stack = X.env :: X.outer) L2.au3._auto_1) (hf : autoParam (X.env.frame = some X.env.locals) L2.au3._auto_1) (hc : autoParam (X.calm = true) L2.au3._auto_1) (hl : autoParam ((e :: es).length = nA) L2.au3._auto_1)
    (hdb : autoParam ((x == ("__debug__" : Str)) = false) L2.au1._auto_1) (hdc : autoParam ((xc == ("__debug__" : Str)) = false) L2.au1._auto_1)
    (he : autoParam (starEach (e :: es) X.env = (false, eval e X.env) :: starEach es X.env) L2.au3._auto_1) (hpl : autoParam ((backTo pos (starEach es X.env)).any (·.1) = false) L2.au3._auto_1)
    (hsw : autoParam (swapsWith (.Call (.Name x p) (e :: es) [] pos) none pos'.line X.env = pure false) L2.au3._auto_1) :
    MS X E Γl Γ (.Try [.Expr (.Call (.Name x p) (e :: es) [] pos) pos'] [.ExceptHandler (some (.Name xc pc)) (some n) (b₀ :: suite) hpos] [] [] tpos) (sTryE F u g) Γ := by
  obtain ⟨hlen, ta, pa, q⟩ := ha
  refine ⟨_, ps_tryO O hst hf hc hN hr hg pa hgc hmc hi hx hs.pss hdb hdc he hpl hsw, fun B σ H τ Z ok h => ?_⟩
  obtain ⟨O', eok, _⟩ := ok.eok
  refine q O' σ H τ _ eok ?_
  unfold sTryE at h
  cases hu : u τ with
  | ok ds =>
    rw [hu] at h
    dsimp only at h
    refine fun vs H1 L s r _ => ?_
    have hv : (vs ++ []).length = nA := by rw [List.append_nil, r.length, hlen τ ds hu]; exact hl
    refine ⟨hv, ds, L, by rw [List.append_nil]; exact r, ?_⟩
    have sB : Same B H1 := ok.ext.trans s
    cases hF : F ds with
    | ok d =>
      rw [hF] at h
      exact fun v H' L' s' r' k' => h σ H' (ok.same (s.trans s'))
    | err m =>
      rw [hF] at h
      dsimp only at h
      cases hgm : g m with
      | some d =>
        rw [hgm] at h
        dsimp only at h
        intro C H' hC s'
        refine ⟨C, rfl, (hs m d hgm C hC).1, fun e1 oe hcls hn => ⟨m, d, hgm, C, hC, ?_⟩⟩
        refine (Classical.choose_spec (hs m d hgm C hC).2).2 e1 oe _ _ H' (by rw [List.length_set, ok.lσ, hΓ]) hcls hn ?_ fun v H2 s2 r2 => h v H2 [] ((sB.trans s').trans s2) r2 List.nodup_nil fun a ha => nomatch ha
        rw [List.getElem?_set_self (by rw [ok.lσ, hΓ]; exact hil)]
      | none => rw [hgm] at h; exact h.elim
    | bad => rw [hF] at h; exact h.elim
  | err m => rw [hu] at h; exact h.elim
  | bad => rw [hu] at h; exact h.elim
end
end L2
set_option maxRecDepth 100000
set_option maxHeartbeats 4000000
namespace L2
open PySem PySem.Spec PyProof.Rows
inductive ClVs : List V -> List Value -> Prop where
  | nil : ClVs [] []
  | cons {c : V} {u : Value} {cs : List V} {us : List Value} (h : ClV c u) (t : ClVs cs us) : ClVs (c :: cs) (u :: us)
theorem ClVs.vals : ∀ {cs : List V} {us its : List Value}, ClVs cs us -> Vals cs its -> its = us
  | _, _, _, .nil, .nil => rfl
  | _, _, _, .cons h t, .cons r rs => by
    rw [ClVs.vals t rs]
    congr 1
    cases h with
    | ref a => exact r
    | ty n => exact r
section
variable {X : Cx} {E : XK} {Γ Γl : List Cl} {pos : Pos}
end
end L2
set_option maxRecDepth 100000
set_option maxHeartbeats 4000000
namespace L2
open PySem PySem.Spec PyProof.Rows
theorem ms_raiseE {P : Program} {w : World} {K : PySem.W.Frag} {mg : Str -> Option Value} {base : Heap} {N : List Str} {qual : Str} {scope : Scope} {f : Addr} {cd : Value} {A : Around} {outer : List Env} {s : Shared} {H : Hp} {E : XK} {Γ Γl Γ' : List Cl}
    {x : Str} {e₀ : Expr} {u : Tn -> R (List D)} {c : Rc} {np cpos pos : Pos} (hc : ∃ C, ErrC K x C) (hg : Gl (cxOf (cxx P w) P w K mg base N qual scope f cd A outer s H E) x)
    (ha : MA (cxOf (cxx P w) P w K mg base N qual scope f cd A outer s H E) E Γ [e₀] u c) (hd : autoParam ((x == ("__debug__" : Str)) = false) L2.au1._auto_1)
    (he : autoParam (starEach [e₀] (envOfC qual scope s.heap.objs.size f cd) = (false, eval e₀ (envOfC qual scope s.heap.objs.size f cd)) :: starEach [] (envOfC qual scope s.heap.objs.size f cd)) L2.au3._auto_1) :
    MS (cxOf (cxx P w) P w K mg base N qual scope f cd A outer s H E) E Γl Γ (.Raise (some (.Call (.Name x np) [e₀] [] cpos)) none pos) (sErr x u) Γ' := by
  obtain ⟨C, hc⟩ := hc
  exact ms_raise hc hg ha hd he
section
variable {X : Cx} {E : XK} {Γ Γl Γ' : List Cl} {k : Nat} {ps : List Str} {F : List D -> R D} {nA : Nat} {x xc n : Str} {p pos pos' pc hpos tpos : Pos} {e : Expr} {es : List Expr} {u : Tn -> R (List D)} {c : Rc} {i : Nat} {b₀ : Stmt} {suite : List Stmt} {g : Str -> Option D}
theorem ms_tryEC (O : Own X.prog X.w X.K X.mg X.base x k ps (spM X.K F nA)) (hN : X.N.Nodup) (hr : Room k X.A) (hg : Gl X x) (ha : MA X.nox (fun _ _ _ => False) Γ (e :: es) u c) (hgc : Gl X xc) (hi : X.N[i]? = some n) (hx : X.env.scope.names.lookup n = some .local) (hil : i < X.N.length) (hΓ : Γ.length = X.N.length) (hs : ∃ CS, X.mg xc = some (.ref CS) /\ Suite X CS i (b₀ :: suite) g)
    (hst : autoParam (X.stack = X.env :: X.outer) L2.au3._auto_1) (hf : autoParam (X.env.frame = some X.env.locals) L2.au3._auto_1) (hc : autoParam (X.calm = true) L2.au3._auto_1) (hl : autoParam ((e :: es).length = nA) L2.au3._auto_1)
    (hdb : autoParam ((x == ("__debug__" : Str)) = false) L2.au1._auto_1) (hdc : autoParam ((xc == ("__debug__" : Str)) = false) L2.au1._auto_1)
    (he : autoParam (starEach (e :: es) X.env = (false, eval e X.env) :: starEach es X.env) L2.au3._auto_1) (hpl : autoParam ((backTo pos (starEach es X.env)).any (·.1) = false) L2.au3._auto_1)
    (hsw : autoParam (swapsWith (.Call (.Name x p) (e :: es) [] pos) none pos'.line X.env = pure false) L2.au3._auto_1) :
    MS X E Γl Γ (.Try [.Expr (.Call (.Name x p) (e :: es) [] pos) pos'] [.ExceptHandler (some (.Name xc pc)) (some n) (b₀ :: suite) hpos] [] [] tpos) (sTryE F u g) Γ := by
  obtain ⟨CS, h1, h2⟩ := hs
  exact ms_tryE O hN hr hg ha hgc h1 hi hx hil hΓ h2 hst hf hc hl hdb hdc he hpl hsw
end
end L2
set_option maxRecDepth 100000
set_option maxHeartbeats 4000000
namespace L2
open PySem PySem.Spec PyProof.Rows
structure CompScopeC (X : Cx) (xc : Str) (N' : List Str) (fr : List (Option Nat)) (scope : Scope) : Prop where
  kind : scope.kind = .function
  one : ∃ pre post, scope.names = pre ++ (xc, NameKind.cell) :: post /\ ∀ y ∈ pre ++ post, y.2 ≠ .cell
  nox : ∀ y ∈ scope.names, y.1 = xc -> y.2 = .cell
  loc : ∀ y ∈ scope.names, y.2 = .local -> scope.names.lookup y.1 = some .local
  free : ∀ y ∈ scope.names, y.2 = .free -> ∃ c, X.env.cells.lookup y.1 = some c
  len : fr.length = N'.length
  fre : ∀ (j i : Nat) (x : Str), fr[j]? = some (some i) -> N'[j]? = some x -> X.N[i]? = some x /\ scope.names.lookup x = some .free /\ (X.env.kindOf x = some .cell \/ X.env.kindOf x = some .free)
section
variable {X : Cx} {pins : List (Addr × Obj)} {σ : St} {H : Hp} {s : Shared} {xc : Str} {N' : List Str} {fr : List (Option Nat)} {scope : Scope} {fp : List Addr}
end
section
variable {X : Cx} {pins : List (Addr × Obj)} {σ τ : St} {H H₃ H5 : Hp} {s₃ s5 : Shared} {xc : Str} {N' : List Str} {scope : Scope} {fp : List Addr}
end
end L2
set_option maxRecDepth 100000
set_option maxHeartbeats 4000000
namespace L2
open PySem PySem.Spec PyProof.Rows
section
variable {X : Cx} {E : XK} {Γ : List Cl} {pos : Pos}
end
theorem lenS {α : Type} {us : List α} {n : Nat} (h : us.length = n + 1) : ∃ a t, us = a :: t /\ t.length = n := by
  cases us with
  | nil => cases h
  | cons a t => exact ⟨a, t, rfl, Nat.succ.inj h⟩
theorem len0 {α : Type} {us : List α} (h : us.length = 0) : us = [] := List.length_eq_zero_iff.mp h
theorem bd1 {α : Type} {P : List α -> Prop} (h : ∀ a, P [a]) : ∀ us : List α, us.length = 1 -> P us := fun us hl => by
  obtain ⟨a, t, rfl, h1⟩ := lenS hl
  cases len0 h1
  exact h a
theorem bd2 {α : Type} {P : List α -> Prop} (h : ∀ a b, P [a, b]) : ∀ us : List α, us.length = 2 -> P us := fun us hl => by
  obtain ⟨a, t, rfl, h1⟩ := lenS hl
  exact bd1 (P := fun t => P (a :: t)) (h a) t h1
theorem bd3 {α : Type} {P : List α -> Prop} (h : ∀ a b c, P [a, b, c]) : ∀ us : List α, us.length = 3 -> P us := fun us hl => by
  obtain ⟨a, t, rfl, h1⟩ := lenS hl
  exact bd2 (P := fun t => P (a :: t)) (h a) t h1
end L2
set_option maxRecDepth 100000
set_option maxHeartbeats 4000000
namespace L2
open PySem PySem.Spec PyProof.Rows
end L2
set_option maxRecDepth 100000
set_option maxHeartbeats 4000000
namespace L2
open PySem PySem.Spec PyProof.Rows
section
variable {X : Cx} {E : XK} {Γ Γl : List Cl} {x1 x2 xr d nm : Str} {F1 F2 : List D -> R D} {es : List Expr} {u : Tn -> R (List D)} {c : Rc} {i k n : Nat} {f1 f2 : Addr} {ps : List Str} {p1 p2 p3 p4 p5 p6 p7 p8 p9 p10 p11 p12 : Pos} {ct : Nat} {jj : _}
end
theorem me_disp0 {X : Cx} {E : XK} {Γ : List Cl} {pos : Pos} : ME X E Γ (.Dict [] [] pos) (eC (.dic [] [])) .fresh :=
  ⟨_, pe_dnewK, fun O σ H τ Q ok h p hp => h (.ref p) _ [p] (Same.new hp) ⟨p, [], [], rfl, upd_same, rfl, rfl, List.nodup_nil, rfl, rfl⟩ ⟨List.nodup_cons.mpr ⟨List.not_mem_nil, List.nodup_nil⟩, fun a ha => by rw [List.mem_singleton.mp ha]; exact hp⟩⟩
end L2
set_option maxRecDepth 100000
set_option maxHeartbeats 4000000
namespace L2
open PySem PySem.Spec PyProof.Rows
section
variable {K : PySem.W.Frag} {Γ : List Cl} {B H : Hp} {σ : St} {τ : Tn} {T T' : List Addr}
end
end L2
set_option maxRecDepth 100000
set_option maxHeartbeats 4000000
namespace L2
open PySem PySem.Spec PyProof.Rows
section
variable {P : Program} {w : World} {K : PySem.W.Frag} {mg : Str -> Option Value} {base : Heap} {x : Str} {st : Stmt} {N ps : List Str} {k : Nat} {t : Tn -> R Fl} {Γ' : List Cl}
end
noncomputable def isB (neg : Bool) : D -> D -> R D
  | .bl c, .bl d => .ok (.bl (if neg = true then c != d else c == d))
  | _, _ => .bad
theorem N_isB {neg : Bool} : NoErr (isB neg) := fun x y n h => by
  unfold isB at h
  split at h <;> cases h
theorem op_isB {X : Cx} : OpR X (compareOp .Is) (fun x y H Q => ∃ c d, x = .bl c /\ y = .bl d /\ Q (.bl (c == d)) H) := by
  intro pins s σ H x y v u Q I rx ry h
  obtain ⟨c, d, rfl, rfl, q⟩ := h
  cases rx
  cases ry
  exact is_bool (fin_bl I q rfl)
theorem B_isB {K : PySem.W.Frag} : OpB K (fun x y H Q => ∃ c d, x = .bl c /\ y = .bl d /\ Q (.bl (c == d)) H) (isB false) := by
  rintro H x y dx dy Lx Ly Q rx ry ⟨d, hg, q⟩
  unfold isB at hg
  split at hg
  · cases hg
    exact ⟨_, _, rx.1, ry.1, q _ H [] (Same.refl H) ⟨rfl, rfl⟩ (by simp) (fun a ha => nomatch ha)⟩
  · cases hg
section
variable {K : PySem.W.Frag} {pn : List (Addr × Obj)} {σ : St} {H : Hp} {Q : VK} {e : Addr} {oe : Obj} {C : Addr}
theorem isi_of {i : Nat} {c : V} {u : Value} {b : Bool} (mem : (e, oe) ∈ pn) (hcls : oe.cls = .ref C) (iT : ErrI K C) (hc : ClV c u) (k : PySem.W.kitOne K (.ref C) u = some b) (hσ : σ[i]? = some (some (.ref e))) (h : Q (.bl b) H) : tIsi K pn c (tVar i) σ H Q :=
  ⟨_, hσ, _, _, _, _, _, rfl, .exc mem hcls iT, hc, k, h⟩
theorem tcat {A1 : TE} {j : Nat} {p : Addr} {xs ys : List V} (hj : σ[j]? = some (some (.ref p))) (hp : H p = some (.lst xs)) (hl : xs.length + ys.length <= 100) (h1 : ∀ Q : VK, (∀ q H', Same H H' -> H' q = some (.lst ys) -> Q (.ref q) H') -> A1 σ H Q)
    (h : ∀ q H', Same H H' -> H' q = some (.lst (xs ++ ys)) -> Q (.ref q) H') : tOp rCat (tVar j) A1 σ H Q :=
  ⟨_, hj, h1 _ fun q H' s hq => ⟨p, q, xs, ys, rfl, rfl, s _ _ hp, hq, by rw [sizeLine_eq]; omega, fun r hr => h r _ (s.trans (Same.new hr)) upd_same⟩⟩
theorem tnot {j : Nat} {p : Addr} {xs : List V} (hj : σ[j]? = some (some (.ref p))) (hp : H p = some (.lst xs)) (hf : xs.all flatV = true) (hi : inV (.bl true) xs = false) (h : Q (.bl true) H) : tOp (rIn K true) (tC (.bl true)) (tVar j) σ H Q :=
  ⟨_, hj, p, xs, rfl, .inl (SqL.of hp), rfl, hf, by rw [hi]; exact h⟩
theorem tand {A1 A2 : TE} (h1 : ∀ Q : VK, Q (.bl true) H -> A1 σ H Q) (h2 : A2 σ H Q) : tAndV A1 A2 σ H Q := h1 _ ⟨true, rfl, by rw [if_pos rfl]; exact h2⟩
end
theorem seq_set {te : TE} {i : Nat} {u : TS} {D : Ends} {σ : St} {H : Hp} (h : te σ H fun v H1 => u D (σ.set i (some v)) H1) : tSeq (tAsg te (gName i)) u D σ H := h
theorem ret_of {te : TE} {D : Ends} {σ : St} {H : Hp} (h : te σ H D.rt) : tRet te D σ H := h
end L2
set_option maxRecDepth 100000
set_option maxHeartbeats 4000000
namespace L2
open PySem PySem.Spec PyProof.Rows
section
variable {X : Cx} {E : XK} {Γ Γ1 Γ2 Γa Γb Γl Γ' : List Cl} {pos : Pos}
theorem pe_lstF {es : List Expr} {t : TA} (h : PA X es t) : PE X (.List es pos) (fun σ H Q => t σ H fun xs H1 => xs.length <= sizeLine /\ ∀ p, H1 p = none -> ∀ o, Q (.ref p) (upd H1 p (.frz o (.lst xs)))) := by
  intro pins s σ H Q I hq
  refine wpAny_List_spliced (thn (h pos pins s σ H _ I hq) fun us s1 q0 => ?_)
  obtain ⟨xs, H1, I1, r, z, q⟩ := q0
  refine ⟨by rw [<- r.length]; exact z, ?_⟩
  have hf : H1 s1.heap.objs.size = none := I1.hok.fresh (Nat.le_refl _)
  have hg : (s1.heap.push { cls := .type "list", data := .seq us.toArray }).get? s1.heap.objs.size = some { cls := .type "list", data := .seq us.toArray } := Heap.get?_push_size _ rfl
  refine ⟨.ref s1.heap.objs.size, upd H1 s1.heap.objs.size (.frz { cls := .type "list", data := .seq us.toArray } (.lst xs)), I1.laid (t' := s1.toks) (fun b u e => Heap.get?_push_of_some _ e) (Nat.le_refl _) ?_, rfl, q _ hf _⟩
  exact ⟨hg, z, us, 0, r, hg⟩
noncomputable def frzD (ds : List D) : R D := if D.imms ds = true then .ok (.frl ds) else .bad
theorem me_lstF {es : List Expr} {u : Tn -> R (List D)} {c : Rc} (h : MA X E Γ es u c) (hz : autoParam (es.length <= 1000) L2.au1._auto_1) : ME X E Γ (.List es pos) (eL frzD u) .fresh := by
  obtain ⟨hlen, ta, p, q⟩ := h
  refine ⟨_, pe_lstF p, fun O σ H τ Q ok h => q O σ H τ _ ok ?_⟩
  unfold eL at h
  cases hu : u τ with
  | err n => rw [hu] at h; exact h
  | bad => rw [hu] at h; exact h
  | ok ds =>
    rw [hu, R.ok_bind] at h
    refine fun vs H1 L s1 r1 _ => ⟨by rw [r1.length, hlen τ ds hu, sizeLine_eq]; omega, fun p hp o => ?_⟩
    unfold frzD at h
    by_cases hi : D.imms ds = true
    · rw [if_pos hi] at h
      have sn : Same H1 (upd H1 p (.frz o (.lst vs))) := Same.new hp
      exact h (.ref p) _ [] (s1.trans sn) ⟨p, vs, rfl, .inl ⟨o, upd_same⟩, rfl, hi, (imms_nil r1 hi).same sn⟩ RcOk.nil
    · rw [if_neg hi] at h; exact h.elim
end
theorem at_of {K : PySem.W.Frag} {H : Hp} {d : D} : ∀ {ds : List D} {vs : List V} {L : List Addr} {k : Nat}, Reps K H ds vs L -> ds[k]? = some d -> L.Nodup -> ∃ v Ld, vs[k]? = some v /\ Rep K H d v Ld /\ Ld.Nodup /\ (∀ a ∈ Ld, a ∈ L) /\
    ∀ (H2 : Hp) (d2 : D) (L2 : List Addr), TF H H2 -> (∀ b, b ∉ Ld -> H b ≠ none -> H2 b = H b) -> Rep K H2 d2 v L2 -> (∀ a ∈ L2, a ∈ Ld) -> L2.Nodup -> ∃ L', Reps K H2 (ds.set k d2) vs L' /\ (∀ a ∈ L', a ∈ L) /\ L'.Nodup
  | [], _, _, k, _, h, _ => by cases k <;> cases h
  | e :: ds, _, _, 0, hq, h, nd => by
    obtain ⟨v, vs', L1, L2, e1, e2, r1, r2⟩ := hq
    subst e1 e2
    cases h
    obtain ⟨n1, n2, n3⟩ := List.nodup_append.mp nd
    refine ⟨v, L1, rfl, r1, n1, fun a ha => List.mem_append_left _ ha, fun H2 d2 L3 tf kp r3 sb nd3 => ⟨L3 ++ L2, ?_, fun a ha => ?_, ?_⟩⟩
    · exact ⟨v, vs', L3, L2, rfl, rfl, r3, Reps.keep tf ds vs' L2 r2 fun a ha => kp a (fun z => n3 a z a ha rfl) (r2.there ha)⟩
    · rcases List.mem_append.mp ha with z | z
      · exact List.mem_append_left _ (sb a z)
      · exact List.mem_append_right _ z
    · exact List.nodup_append.mpr ⟨nd3, n2, fun a ha b hb z => n3 a (sb a ha) b hb z⟩
  | e :: ds, _, _, k + 1, hq, h, nd => by
    obtain ⟨v, vs', L1, L2, e1, e2, r1, r2⟩ := hq
    subst e1 e2
    obtain ⟨n1, n2, n3⟩ := List.nodup_append.mp nd
    obtain ⟨w, Ld, g1, g2, g3, g4, g5⟩ := at_of (k := k) r2 (by simpa using h) n2
    refine ⟨w, Ld, by simpa using g1, g2, g3, fun a ha => List.mem_append_right _ (g4 a ha), fun H2 d2 L3 tf kp r3 sb nd3 => ?_⟩
    obtain ⟨L', q1, q2, q3⟩ := g5 H2 d2 L3 tf kp r3 sb nd3
    refine ⟨L1 ++ L', ?_, fun a ha => ?_, ?_⟩
    · exact ⟨v, vs', L1, L', rfl, rfl, Rep.keep tf e v L1 r1 fun a ha => kp a (fun z => n3 a ha a (g4 a z) rfl) (r1.there ha), q1⟩
    · rcases List.mem_append.mp ha with z | z
      · exact List.mem_append_left _ z
      · exact List.mem_append_right _ (q2 a z)
    · exact List.nodup_append.mpr ⟨n1, q3, fun a ha b hb z => n3 a ha b (q2 b hb) z⟩
theorem SOk.at {K : PySem.W.Frag} {Γ : List Cl} {B H : Hp} {σ : St} {τ : Tn} {i k : Nat} {ds : List D} {d : D} (h : SOk K Γ B H σ τ []) (e : Γ[i]? = some .own) (hτ : τ[i]? = some (some (.lst ds))) (hk : ds[k]? = some d) :
    ∃ a vs v Ld, σ[i]? = some (some (.ref a)) /\ H a = some (.lst vs) /\ vs[k]? = some v /\ Rep K H d v Ld /\ Ld.Nodup /\ ∀ (H2 : Hp) (d2 : D) (L2 : List Addr), TF H H2 -> (∀ b, b ∉ Ld -> H b ≠ none -> H2 b = H b) -> Rep K H2 d2 v L2 -> (∀ a ∈ L2, a ∈ Ld) -> L2.Nodup -> SOk K Γ B H2 σ (τ.set i (some (.lst (ds.set k d2)))) [] := by
  obtain ⟨v0, d0, L, e1, e2, r, nd, n2, fin⟩ := h.slot e
  rw [hτ] at e2
  cases e2
  obtain ⟨a, vs, L', rfl, ha, rfl, rs⟩ := r
  obtain ⟨m1, m2⟩ := List.nodup_cons.mp nd
  obtain ⟨v, Ld, g1, g2, g3, g4, g5⟩ := at_of rs hk m2
  refine ⟨a, vs, v, Ld, e1, ha, g1, g2, g3, fun H2 d2 L2 tf kp r2 sb nd2 => ?_⟩
  obtain ⟨L3, q1, q2, q3⟩ := g5 H2 d2 L2 tf kp r2 sb nd2
  have hal : a ∉ Ld := fun z => m1 (g4 a z)
  have ha2 : H2 a = some (.lst vs) := by rw [kp a hal (by rw [ha]; simp)]; exact ha
  refine fin H2 _ (a :: L3) [] [] rfl tf (fun b hb hn => kp b (fun z => hb (List.mem_cons_of_mem _ (g4 b z))) hn) ⟨a, vs, L3, rfl, ha2, rfl, q1⟩ (fun b hb => .inl ?_) (List.nodup_cons.mpr ⟨fun z => m1 (q2 a z), q3⟩)
  rcases List.mem_cons.mp hb with z | z
  · rw [z]; exact List.mem_cons_self
  · exact List.mem_cons_of_mem _ (q2 b z)
section
variable {X : Cx} {E : XK} {Γ Γl : List Cl} {pos : Pos} {e : Expr} {t : Tn -> R D} {c : Rc}
end
end L2
set_option maxRecDepth 100000
set_option maxHeartbeats 4000000
namespace L2
open PySem PySem.Spec PyProof.Rows
section
open PySem.SeqAt PySem.MeetsSeq3
open PySem.AutoSeq1 (wpAny_loadPart')
end
end L2
set_option maxRecDepth 100000
set_option maxHeartbeats 4000000
namespace L2
open PySem PySem.Spec PyProof.Rows
section
variable {X : Cx} {E : XK} {Γ Γl : List Cl} {pos : Pos} {e : Expr} {t : Tn -> R D} {c : Rc}
end
end L2
set_option maxRecDepth 100000
set_option maxHeartbeats 4000000
namespace L2
open PySem PySem.Spec PyProof.Rows
noncomputable def eSm0 (g : Str -> R D) (t : Tn -> R D) : Tn -> R D := fun τ => (t τ).bind fun d => match d with
  | .str z => g z
  | _ => .bad
noncomputable def upD (z : Str) : R D := if z.length <= 5592405 then .ok (.str (Txt.upper z)) else .bad
section
variable {X : Cx} {E : XK} {Γ : List Cl} {o : Expr} {t : Tn -> R D} {c : Rc} {apos cpos : Pos}
theorem me_upper (ho : ME X E Γ o t c) (hbase : autoParam (attributeBase o "upper" X.env (eval o X.env) = eval o X.env) L2.au3._auto_1) (hline : autoParam ((apos.endLine == cpos.line) = true) L2.au3._auto_1) :
    ME X E Γ (.Call (.Attribute o "upper" apos) [] [] cpos) (eSm0 upD t) .fresh := by
  obtain ⟨te, p, q⟩ := ho
  refine ⟨_, pe_bm0 PySem.F.plainAttrs_str PySem.F.slot_str_upper PySem.F.type_str_upper mt_upper p hbase hline, fun O σ H τ Q ok h => ?_⟩
  unfold eSm0 at h
  refine q O σ H τ _ ok (post.bind h fun d hd h x H1 L1 s1 r1 _ => ?_)
  cases d with
  | str z =>
    obtain ⟨rfl, _⟩ := r1
    dsimp only at h
    unfold upD at h
    by_cases hz : z.length <= 5592405
    · rw [if_pos hz] at h
      exact ⟨rfl, z, rfl, rfl, hz, h _ H1 [] s1 ⟨rfl, rfl⟩ ⟨by simp, fun a ha => nomatch ha⟩⟩
    · rw [if_neg hz] at h; exact h.elim
  | _ => exact h.elim
end
end L2
set_option maxRecDepth 100000
set_option maxHeartbeats 4000000
namespace L2
open PySem PySem.Spec PyProof.Rows
section
variable {X : Cx} {E : XK} {Γ : List Cl} {e : Expr} {t : Tn -> R D} {c : Rc}
end
end L2
set_option maxRecDepth 100000
set_option maxHeartbeats 4000000
namespace L2
open PySem PySem.Spec PyProof.Rows
section
variable {X : Cx} {E : XK} {Γ : List Cl} {e : Expr} {t : Tn -> R D} {c : Rc} {p2 p3 p4 pos : Pos} {j : Nat}
end
end L2
set_option maxRecDepth 100000
set_option maxHeartbeats 4000000
namespace L2
open PySem PySem.Spec PyProof.Rows
theorem TF.trans {H H1 H2 : Hp} (a : TF H H1) (b : TF H1 H2) : TF H H2 := ⟨fun x xs e => b.tup x xs (a.tup x xs e), fun x o u e => b.frz x o u (a.frz x o u e)⟩
theorem SOk.slotF {K : PySem.W.Frag} {Γ : List Cl} {B H : Hp} {σ : St} {τ : Tn} {i : Nat} (h : SOk K Γ B H σ τ []) (e : Γ[i]? = some .own) : ∃ v d L, σ[i]? = some (some v) /\ τ[i]? = some (some d) /\ Rep K H d v L /\ L.Nodup /\ (∀ a ∈ L, B a = none) /\
    ∀ (H2 : Hp) (d2 : D) (L2 : List Addr), TF H H2 -> (∀ b, b ∉ L -> H b ≠ none -> H2 b = H b) -> Rep K H2 d2 v L2 -> (∀ a ∈ L2, a ∈ L \/ H a = none) -> L2.Nodup -> SOk K Γ B H2 σ (τ.set i (some d2)) [] := by
  obtain ⟨Ls, h1, h2, h3, h4, h5, h6⟩ := h.ex
  obtain ⟨v, d, e1, e2, r⟩ := h1 i _ e (by simp)
  refine ⟨v, d, Ls i, e1, e2, r, (h2 i e).1, (h2 i e).2, ?_⟩
  intro H2 d2 L2 tf kp r2 sub nd
  have hτ : i < τ.length := (List.getElem?_eq_some_iff.mp e2).1
  have notL : ∀ b, B b ≠ none -> b ∉ Ls i := fun b hb hm => hb ((h2 i e).2 b hm)
  refine ⟨fun b o q => ?_, h.lσ, by rw [List.length_set]; exact h.lτ, putL Ls i L2, fun j c ej hc => ?_, fun j ej => ?_, fun j k c hjk ej ek hc a ha hm => ?_, List.nodup_nil, fun a ha => (nomatch ha), fun j c ej hc a ha hm => (nomatch hm)⟩
  · have hq := h.ext b o q
    rw [kp b (notL b (by rw [q]; simp)) (by rw [hq]; simp)]; exact hq
  · by_cases z : j = i
    · subst z
      refine ⟨v, d2, e1, by rw [List.getElem?_set_self hτ], ?_⟩
      rw [putL_self]; exact r2
    · obtain ⟨v', d', q1, q2, r'⟩ := h1 j c ej hc
      refine ⟨v', d', q1, by rw [List.getElem?_set_ne (Ne.symm z)]; exact q2, ?_⟩
      rw [putL_ne z]
      exact Rep.keep tf d' v' _ r' fun a ha => kp a (fun hm => h3 i j c (Ne.symm z) e ej hc a hm ha) (r'.there ha)
  · by_cases z : j = i
    · subst z
      rw [putL_self]
      refine ⟨nd, fun a ha => ?_⟩
      rcases sub a ha with m | m
      · exact (h2 _ e).2 a m
      · exact h.ext.non m
    · rw [putL_ne z]; exact h2 j ej
  · by_cases z : j = i
    · subst z
      rw [putL_self] at ha
      rw [putL_ne (Ne.symm hjk)] at hm
      rcases sub a ha with m | m
      · exact h3 _ k c hjk e ek hc a m hm
      · obtain ⟨v', d', q1, q2, r'⟩ := h1 k c ek hc
        exact r'.there hm m
    · rw [putL_ne z] at ha
      by_cases z2 : k = i
      · subst z2
        rw [putL_self] at hm
        rcases sub a hm with m | m
        · exact h3 j _ _ hjk ej e (by simp) a ha m
        · obtain ⟨v', d', q1, q2, r'⟩ := h1 j _ ej (by simp)
          exact r'.there ha m
      · rw [putL_ne z2] at hm; exact h3 j k c hjk ej ek hc a ha hm
section
variable {X : Cx} {E : XK} {Γ Γl : List Cl} {pos : Pos} {e : Expr} {t : Tn -> R D} {c : Rc}
end
end L2
set_option maxRecDepth 100000
set_option maxHeartbeats 4000000
namespace L2
open PySem PySem.Spec PyProof.Rows
section
variable {X : Cx} {E : XK} {Γ Γl : List Cl} {pos : Pos} {e : Expr} {t : Tn -> R D} {c : Rc}
end
end L2
set_option maxRecDepth 100000
set_option maxHeartbeats 4000000
namespace L2
open PySem PySem.Spec PyProof.Rows PySem.Builtin.Str
section
variable {X : Cx} {E : XK} {Γ : List Cl} {o : Expr} {t : Tn -> R D} {c : Rc} {apos cpos : Pos}
end
end L2
set_option maxRecDepth 100000
set_option maxHeartbeats 4000000
namespace L2
open PySem PySem.Spec PyProof.Rows
noncomputable def PEp (X : Cx) (e : Expr) (t : TE) : Prop :=
  ∀ (pins : List (Addr × Obj)) (s : Shared) (σ : St) (H : Hp) (Q : VK), 0 < s.toks -> Inv X pins σ H s -> t σ H Q -> wpAny (model X.prog X.w) X.A (eval e X.env) (EP X pins σ Q) X.xe s
theorem PE.p {X : Cx} {e : Expr} {t : TE} (h : PE X e t) : PEp X e t := fun pins s σ H Q _ I => h pins s σ H Q I
theorem PEp.up {X : Cx} {e : Expr} {t : TE} (h : PEp X e t) {pins : List (Addr × Obj)} {s : Shared} {σ : St} {H : Hp} {Q : VK} (hs : 0 < s.toks) (I : Inv X pins σ H s) (ht : t σ H Q) : wpAny (model X.prog X.w) X.A (eval e X.env) (fun v s' => 0 < s'.toks /\ EP X pins σ Q v s') X.xe s :=
  wpAny_mono (wpAny_toks_of (n := 1) hs (h pins s σ H Q hs I ht)) (fun _ _ h => h) fun _ _ h => h.2
section
variable {X : Cx} {o : Expr} {to : TE} {a b : Str} {j1 j2 : Nat} {p1 p2 apos cpos : Pos}
end
section
end
end L2
set_option maxRecDepth 100000
set_option maxHeartbeats 4000000
namespace L2
open PySem PySem.Spec PyProof.Rows
noncomputable def MEp (X : Cx) (E : XK) (Γ : List Cl) (e : Expr) (t : Tn -> R D) (c : Rc) : Prop :=
  ∃ te, PEp X e te /\ ∀ O σ H τ Q, EOk X.K Γ O H σ τ -> post X.K E O c H Q (t τ) -> te σ H Q
section
variable {X : Cx} {E : XK} {Γ Γ' Γl : List Cl} {e o : Expr} {t : Tn -> R D} {c : Rc} {a b : Str} {j1 j2 : Nat} {p1 p2 apos cpos pos : Pos}
theorem ME.p (h : ME X E Γ e t c) : MEp X E Γ e t c := by
  obtain ⟨te, p, q⟩ := h
  exact ⟨te, p.p, q⟩
end
section
variable {P : Program} {w : World} {K : PySem.W.Frag} {mg : Str -> Option Value} {base : Heap} {x : Str} {st : Stmt} {N ps : List Str} {k : Nat} {t : Tn -> R Fl} {Γ' : List Cl}
end
end L2
set_option maxRecDepth 100000
set_option maxHeartbeats 4000000
namespace L2
open PySem PySem.Spec PyProof.Rows
section
open PySem.SeqAt PySem.MeetsSeq3
open PySem.AutoSeq1 (wpAny_loadPart')
end
end L2
set_option maxRecDepth 100000
set_option maxHeartbeats 4000000
namespace L2
open PySem PySem.Spec PyProof.Rows
section
open PySem.SeqAt PySem.MeetsSeq PySem.MeetsSeq3
open PySem.AutoSeq1 (wpAny_loadPart')
end
end L2
set_option maxRecDepth 100000
set_option maxHeartbeats 4000000
namespace L2
open PySem PySem.Spec PyProof.Rows
section
variable {X : Cx} {E : XK} {Γ Γs Γl : List Cl} {x : Str} {k : Nat} {ps : List Str} {F : List D -> R D} {e : Expr} {es : List Expr} {t : Tn -> R D} {u : Tn -> R (List D)} {c : Rc} {p pos : Pos} {n : Nat}
end
end L2
set_option maxRecDepth 100000
set_option maxHeartbeats 4000000
namespace L2
open PySem PySem.Spec PyProof.Rows
section
variable {X : Cx} {E : XK} {Γ Γl : List Cl} {pos : Pos}
end
end L2
set_option maxRecDepth 100000
set_option maxHeartbeats 4000000
namespace L2
open PySem PySem.Spec PyProof.Rows
section
end
end L2
set_option maxRecDepth 100000
set_option maxHeartbeats 4000000
namespace L2
open PySem PySem.Spec PyProof.Rows
noncomputable def SuiteA (X : Cx) (CS : Addr) (i j : Nat) (sts : List Stmt) (g : Str -> Option Int) : Prop := ∀ (m : Str) (k : Int), g m = some k -> ∀ C, ErrC X.K m C -> PySem.W.exmOne X.K (.ref C) (.ref CS) = some true /\
  ∃ ts : Addr -> Obj -> TS, (∀ e oe, PSs (X.within e oe) sts (ts e oe)) /\ ∀ e oe (Z : Ends) (σ : St) (H : Hp) (n : Int), σ.length = X.N.length -> oe.cls = .ref C -> H e = none -> σ[i]? = some (some (.ref e)) -> σ[j]? = some (some (.int n)) -> (∀ H', Same H H' -> Z.nx (σ.set j (some (.int (n + k)))) H') -> ts e oe Z σ H
noncomputable def SuiteA.ts {X : Cx} {CS : Addr} {i j : Nat} {sts : List Stmt} {g : Str -> Option Int} (hs : SuiteA X CS i j sts g) (e : Addr) (oe : Obj) : TS := fun Z σ H => ∃ (m : Str) (k : Int) (hg : g m = some k) (C : Addr) (hC : ErrC X.K m C), Classical.choose (hs m k hg C hC).2 e oe Z σ H
theorem SuiteA.pss {X : Cx} {CS : Addr} {i j : Nat} {sts : List Stmt} {g : Str -> Option Int} (hs : SuiteA X CS i j sts g) (e : Addr) (oe : Obj) : PSs (X.within e oe) sts (hs.ts e oe) := by
  intro pins s σ H Z I h
  obtain ⟨m, k, hg, C, hC, z⟩ := h
  exact (Classical.choose_spec (hs m k hg C hC).2).1 e oe pins s σ H Z I z
section
variable {X : Cx} {E : XK} {Γ Γl Γ' : List Cl} {k : Nat} {CS : Addr} {ps : List Str} {F : List D -> R D} {nA : Nat} {x xc n : Str} {p pos pos' pc hpos tpos : Pos} {e : Expr} {es : List Expr} {u : Tn -> R (List D)} {c : Rc} {i j : Nat} {b₀ : Stmt} {suite : List Stmt} {g : Str -> Option Int}
end
end L2
set_option maxRecDepth 100000
set_option maxHeartbeats 4000000
namespace L2
open PySem PySem.Spec PyProof.Rows
section
variable {X : Cx} {E : XK} {Γ : List Cl} {pos : Pos} {x : Str}
end
section
variable {X : Cx} {E : XK} {Γ Γl : List Cl} {pos p0 : Pos} {ix : Expr} {ti : Tn -> R D} {c : Rc}
end
section
variable {X : Cx} {E : XK} {Γ Γl Γ' : List Cl} {k : Nat} {ps : List Str} {F : List D -> R D} {nA : Nat} {x xc n : Str} {p pos pos' pc hpos tpos : Pos} {e : Expr} {es : List Expr} {u : Tn -> R (List D)} {c : Rc} {i j : Nat} {b₀ : Stmt} {suite : List Stmt} {g : Str -> Option Int}
end
end L2
set_option maxRecDepth 100000
set_option maxHeartbeats 4000000
namespace L2
open PySem PySem.Spec PyProof.Rows
section
variable {X : Cx} {E : XK} {Γ Γl : List Cl} {pos : Pos}
end
end L2
set_option maxRecDepth 100000
set_option maxHeartbeats 4000000
namespace L2
open PySem PySem.Spec PyProof.Rows
section
variable {X : Cx} {st : Stmt} {rest : List Stmt} {t u : TS}
end
section
variable {X : Cx} {tg : Expr}
end
section
variable {X : Cx} {E : XK} {Γ Γ1 Γ2 Γ' Γl : List Cl} {pos : Pos} {e : Expr} {t : Tn -> R D} {c : Rc}
end
end L2
set_option maxRecDepth 100000
set_option maxHeartbeats 4000000
namespace L2
open PySem PySem.Spec PyProof.Rows
end L2
set_option maxRecDepth 100000
set_option maxHeartbeats 4000000
namespace L2
open PySem PySem.Spec PyProof.Rows
theorem op_pow10 {X : Cx} : OpR X (binaryOp .Pow) (rI (fun i j => i = 10 /\ j = 20) fun i j => .int (i ^ j.toNat)) := opI fun i j t u s Q E hc q => by
  obtain ⟨rfl, rfl⟩ := hc
  exact AutoIntOps.pow_4 (by decide) (by decide) (by decide) (by decide) (by decide +kernel) q
noncomputable def powD : D -> D -> R D
  | .int i, .int j => if i = 10 /\ j = 20 then .ok (.int (i ^ j.toNat)) else .bad
  | _, _ => .bad
theorem N_pow : NoErr powD := fun x y n h => by
  unfold powD at h
  split at h
  · split at h <;> cases h
  · cases h
theorem B_pow {K : PySem.W.Frag} : OpB K (rI (fun i j => i = 10 /\ j = 20) fun i j => .int (i ^ j.toNat)) powD := by
  rintro H x y dx dy Lx Ly Q rx ry ⟨d, hg, q⟩
  unfold powD at hg
  split at hg
  · split at hg
    · rename_i hz
      cases hg
      exact ⟨_, _, rx.1, ry.1, hz, q _ H [] (Same.refl H) ⟨rfl, rfl⟩ (by simp) (fun a ha => nomatch ha)⟩
    · cases hg
  · cases hg
end L2
set_option maxRecDepth 100000
set_option maxHeartbeats 4000000
namespace L2
open PySem PySem.Spec PyProof.Rows
theorem kv_keys : ∀ {kvs : List (Key × V)} {vs : List (Key × Value)}, KV kvs vs -> vs.map (·.1) = kvs.map (·.1)
  | _, _, .nil => rfl
  | _, _, .cons h1 r => by rw [List.map_cons, List.map_cons, kv_keys r, h1.1]
section
variable {X : Cx}
end
end L2
set_option maxRecDepth 100000
set_option maxHeartbeats 4000000
namespace L2
open PySem PySem.Spec PyProof.Rows
section
variable {prog : Program} {w : World} {A : Around} {E : Value -> Shared -> Prop} {s : Shared}
end
section
variable {X : Cx} {E : XK} {Γ : List Cl} {e : Expr} {t : Tn -> R D} {c : Rc} {p2 p3 p4 pos : Pos} {j : Nat}
end
end L2
set_option maxRecDepth 100000
set_option maxHeartbeats 4000000
namespace L2
open PySem PySem.Spec PyProof.Rows
noncomputable def rNotK : R2 := fun x y H Q => ∃ a o, y = .ref a /\ DGet H a x o /\ Q (.bl (!o.isSome)) H
theorem op_notInK {X : Cx} (hu : X.A.units + 1 < cLine) : OpR X (compareOp .NotIn) rNotK := by
  intro pins s σ H x y v u Q I rx ry h
  obtain ⟨a, o, rfl, g, q⟩ := h
  obtain rfl : u = Value.ref a := ry
  exact d_notIn hu I g rx fun s3 I3 => ⟨.bl (!o.isSome), H, I3, rfl, q⟩
noncomputable def notKD (x y : D) : R D := match y with
  | .dic ks ds => (match keyOf x with
    | some k => .ok (.bl (!(lookD ks ds k).isSome))
    | none => .bad)
  | _ => .bad
theorem N_notK : NoErr notKD := fun x y n h => by
  unfold notKD at h
  split at h
  · split at h <;> cases h
  · cases h
theorem B_notK {K : PySem.W.Frag} : OpB K rNotK notKD := by
  rintro H x y dx dy Lx Ly Q rx ry ⟨d, hg, q⟩
  unfold notKD at hg
  split at hg
  · rename_i ks ds
    split at hg
    · rename_i k hk
      cases hg
      obtain ⟨ad, kvs, L', rfl, had, e2, hks, _, rs⟩ := ry
      have e : (valV kvs k).isSome = (lookD ks ds k).isSome := by
        cases hl : lookD ks ds k with
        | some d =>
          rw [<- hks] at hl
          obtain ⟨v, L1, g1, _⟩ := look_some rs hl
          rw [g1]; rfl
        | none =>
          rw [<- hks] at hl
          rw [look_none rs hl]; rfl
      refine ⟨ad, valV kvs k, rfl, ?_, ?_⟩
      · rw [keyOf_rep hk rx]; exact DGet.k had
      · rw [e]
        exact q _ H [] (Same.refl H) ⟨rfl, rfl⟩ (by simp) (fun a ha => nomatch ha)
    · cases hg
  · cases hg
noncomputable def keyD : Key -> D
  | .inl i => .int i
  | .inr z => .str z
  | .non => .non
theorem key_items {P : Program} {w : World} {vs : List (Key × Value)} {acc : Array Value} (hacc : ItemsOf (fun i v => ∃ k x, vs[i]? = some (k, x) /\ (mixKind P w).is k v = true) acc vs.length) : Vals ((vs.map (·.1)).map kV) acc.toList := by
  obtain ⟨hsz, hit⟩ := hacc
  have key : ∀ (n : Nat), n <= vs.length -> Vals (((vs.map (·.1)).map kV).drop (vs.length - n)) (acc.toList.drop (vs.length - n)) := by
    intro n
    induction n with
    | zero =>
      intro _
      rw [Nat.sub_zero, List.drop_of_length_le (by rw [List.length_map, List.length_map]; exact Nat.le_refl _), List.drop_of_length_le (by rw [Array.length_toList, hsz]; exact Nat.le_refl _)]
      exact .nil
    | succ n ih =>
      intro hn
      have ih := ih (by omega)
      have h0 : acc.toList.length = vs.length := Array.length_toList.trans hsz
      have h1 : vs.length - (n + 1) < ((vs.map (·.1)).map kV).length := by rw [List.length_map, List.length_map]; omega
      have h2 : vs.length - (n + 1) < acc.toList.length := by omega
      have h3 : vs.length - (n + 1) < vs.length := by omega
      have e0 : vs.length - (n + 1) + 1 = vs.length - n := by omega
      rw [List.drop_eq_getElem_cons h1, List.drop_eq_getElem_cons h2, e0]
      have hv : acc[vs.length - (n + 1)]? = some (acc.toList[vs.length - (n + 1)]) := by
        rw [<- Array.getElem?_toList]
        exact List.getElem?_eq_getElem h2
      obtain ⟨k, x, e1, e2⟩ := hit _ _ hv
      rw [List.getElem?_eq_getElem h3] at e1
      have e3 : vs[vs.length - (n + 1)] = (k, x) := Option.some.inj e1
      have e2 : keyIs k acc.toList[vs.length - (n + 1)] = true := e2
      refine .cons ?_ ih
      rw [List.getElem_map, List.getElem_map, e3]
      rcases keyIs_shape e2 with ⟨i, t, q1, q2⟩ | ⟨y, t, q1, q2⟩ | ⟨q1, q2⟩
      · rw [q1, q2]; exact ⟨t, rfl⟩
      · rw [q1, q2]; exact ⟨t, rfl⟩
      · rw [q1, q2]; exact rfl
  have := key vs.length (Nat.le_refl _)
  rw [Nat.sub_self, List.drop_zero, List.drop_zero] at this
  exact this
theorem reps_keys {K : PySem.W.Frag} {H : Hp} : ∀ ks : List Key, Reps K H (ks.map keyD) (ks.map kV) []
  | [] => Reps.nil
  | .inl i :: ks => ⟨_, _, [], [], rfl, rfl, ⟨rfl, rfl⟩, reps_keys ks⟩
  | .inr z :: ks => ⟨_, _, [], [], rfl, rfl, ⟨rfl, rfl⟩, reps_keys ks⟩
  | .non :: ks => ⟨_, _, [], [], rfl, rfl, ⟨rfl, rfl⟩, reps_keys ks⟩
end L2
set_option maxRecDepth 100000
set_option maxHeartbeats 4000000
namespace L2
open PySem PySem.Spec PyProof.Rows
noncomputable def dropDs : List Key -> List D -> Key -> List Key × List D
  | k' :: ks, d :: ds, k => if k' = k then dropDs ks ds k else (k' :: (dropDs ks ds k).1, d :: (dropDs ks ds k).2)
  | _, _, _ => ([], [])
theorem rep_drop {K : PySem.W.Frag} {H : Hp} {k : Key} : ∀ {kvs : List (Key × V)} {ds : List D} {L : List Addr}, Reps K H ds (kvs.map (·.2)) L -> (kvs.map (·.1)).Nodup ->
    (dropK kvs k).map (·.1) = (dropDs (kvs.map (·.1)) ds k).1 /\ ((dropDs (kvs.map (·.1)) ds k).1).Nodup /\ ∃ L3, Reps K H (dropDs (kvs.map (·.1)) ds k).2 ((dropK kvs k).map (·.2)) L3 /\ List.Sublist L3 L
  | [], ds, L, r, _ => by
    cases ds with
    | nil => exact ⟨rfl, List.nodup_nil, [], Reps.nil, List.nil_sublist _⟩
    | cons d ds => obtain ⟨v, vs', L1, L2, e1, _⟩ := r; cases e1
  | p :: kvs, [], L, r, _ => by obtain ⟨e, _⟩ := r; cases e
  | p :: kvs, d :: ds, L, r, nd => by
    obtain ⟨v, vs', L1, L2, e1, e2, r1, r2⟩ := r
    rw [List.map_cons] at e1
    cases e1
    subst e2
    rw [List.map_cons, List.nodup_cons] at nd
    obtain ⟨h1, h2, L3, h3, h4⟩ := rep_drop (k := k) r2 nd.2
    have ef : dropK (p :: kvs) k = if p.1 = k then dropK kvs k else p :: dropK kvs k := by
      unfold dropK
      by_cases e : p.1 = k
      · rw [if_pos e, List.filter_cons_of_neg (by simp [e])]
      · rw [if_neg e, List.filter_cons_of_pos (by simp [e])]
    rw [List.map_cons]
    show (dropK (p :: kvs) k).map (·.1) = (if p.1 = k then dropDs (kvs.map (·.1)) ds k else (p.1 :: (dropDs (kvs.map (·.1)) ds k).1, d :: (dropDs (kvs.map (·.1)) ds k).2)).1 /\ ((if p.1 = k then dropDs (kvs.map (·.1)) ds k else (p.1 :: (dropDs (kvs.map (·.1)) ds k).1, d :: (dropDs (kvs.map (·.1)) ds k).2)).1).Nodup /\ ∃ L3, Reps K H (if p.1 = k then dropDs (kvs.map (·.1)) ds k else (p.1 :: (dropDs (kvs.map (·.1)) ds k).1, d :: (dropDs (kvs.map (·.1)) ds k).2)).2 ((dropK (p :: kvs) k).map (·.2)) L3 /\ List.Sublist L3 (L1 ++ L2)
    rw [ef]
    by_cases e : p.1 = k
    · rw [if_pos e, if_pos e]
      exact ⟨h1, h2, L3, h3, h4.trans (List.sublist_append_right _ _)⟩
    · rw [if_neg e, if_neg e]
      refine ⟨by rw [List.map_cons, h1], List.nodup_cons.mpr ⟨fun hm => nd.1 ?_, h2⟩, L1 ++ L3, ⟨_, _, L1, L3, rfl, rfl, r1, h3⟩, List.Sublist.append (List.Sublist.refl _) h4⟩
      have hm : p.1 ∈ (dropDs (kvs.map (·.1)) ds k).1 := hm
      rw [<- h1] at hm
      obtain ⟨y, hy, ey⟩ := List.mem_map.mp hm
      exact List.mem_map.mpr ⟨y, (List.mem_filter.mp hy).1, ey⟩
noncomputable def sKPop (i : Nat) (ti : Tn -> R D) : Tn -> R Fl := fun τ => (eVar i τ).bind fun l => match l with
  | .dic ks ds => (ti τ).bind fun k => (match keyOf k with
    | some k => if (lookD ks ds k).isSome = true then .ok (.nx (τ.set i (some (.dic (dropDs ks ds k).1 (dropDs ks ds k).2)))) else .bad
    | none => .bad)
  | _ => .bad
section
variable {X : Cx} {E : XK} {Γ Γl : List Cl} {pos : Pos}
theorem kpop (i : Nat) {x : Str} {e : Expr} {ti : Tn -> R D} {c : Rc} {p0 p1 p2 : Pos} (hi : ME X E Γ e ti c) (hN : autoParam (X.N[i]? = some x) L2.au3._auto_1) (h0 : autoParam (Γ[i]? = some .own) L2.au3._auto_1) (hv : autoParam (Vis X.env.scope x) L2.au5._auto_1) (hb : autoParam ((x == ("__debug__" : Str)) = false) L2.au1._auto_1) (hcd : autoParam ((x == ("__classdict__" : Str)) = false) L2.au1._auto_1)
    (hbase : autoParam (attributeBase (.Name x p0) "pop" X.env (eval (.Name x p0) X.env) = eval (.Name x p0) X.env) L2.au3._auto_1)
    (hfew : autoParam (((backTo p2 (starEach [e] X.env)).all (fun x => !x.1) && (backToKw p2 (keywordEach [] X.env)).all (fun x => x.1.isSome) && decide (([e] : List Expr).length + ([] : List Keyword).length + (if ([] : List Keyword).isEmpty then 0 else 1) < 30)) = true) L2.au3._auto_1)
    (hline : autoParam ((p1.endLine == p2.line) = true) L2.au3._auto_1) (htr : autoParam (backTo p2 (starEach [e] X.env) = [(false, eval e X.env)]) L2.au3._auto_1)
    (hsw : autoParam (swapsWith (.Call (.Attribute (.Name x p0) "pop" p1) [e] [] p2) none pos.line X.env = pure false) L2.au3._auto_1) :
    MS X E Γl Γ (.Expr (.Call (.Attribute (.Name x p0) "pop" p1) [e] [] p2) pos) (sKPop i ti) Γ := by
  obtain ⟨te', p', q'⟩ := hi
  refine ⟨_, ps_expr (pe_dpop1 (pe_var (pos := p0) hN hv hb hcd) p' ⟨hbase, hfew, hline, htr⟩) hsw, fun B σ H τ Z ok h => ?_⟩
  obtain ⟨v1, d1, L1, e1, e2, r1, _⟩ := ok.slotF h0
  unfold sKPop at h
  have ev : eVar i τ = .ok d1 := by unfold eVar; rw [e2]
  rw [ev, R.ok_bind] at h
  cases d1 with
  | dic ks ds =>
    obtain ⟨a, kvs, L', rfl, ha, z2, hks, hnd, rs⟩ := r1
    refine ⟨_, e1, a, rfl, .inl ⟨kvs, .inl ha⟩, ?_⟩
    obtain ⟨O, eo, _⟩ := ok.eok
    refine q' O σ H τ _ eo ?_
    dsimp only at h
    cases hk' : ti τ with
    | ok dk =>
      rw [hk', R.ok_bind] at h
      refine fun kv H2 Lk s2 rk _ => ?_
      have ok2 := ok.same s2
      obtain ⟨v2, d2, L2, q3, q4, r2, m1, m2, fin⟩ := ok2.slotF h0
      rw [e1] at q3
      cases q3
      rw [e2] at q4
      cases q4
      cases hko : keyOf dk with
      | none => rw [hko] at h; exact h.elim
      | some k =>
        rw [hko] at h
        dsimp only at h
        by_cases hz : (lookD ks ds k).isSome = true
        · rw [if_pos hz] at h
          obtain ⟨a2, kvs2, L2', e5, ha2, z3, hks2, hnd2, rs2⟩ := r2
          cases e5
          subst z3
          subst hks2
          have mu : (∃ vs, H2 a = some (.lst vs)) \/ ∃ kvs, H2 a = some (.dK kvs) := .inr ⟨_, ha2⟩
          obtain ⟨w1, w2⟩ := List.nodup_cons.mp m1
          obtain ⟨dv, hdv⟩ := Option.isSome_iff_exists.mp hz
          obtain ⟨vv, LL, g1, g2, g3⟩ := look_some rs2 hdv
          obtain ⟨f1, f2, L3, f3, f4⟩ := rep_drop (k := k) rs2 hnd2
          have na : a ∉ L3 := fun z => w1 (f4.subset z)
          refine ⟨kvs2, k, vv, ha2, keyOf_rep hko rk, g1, ?_⟩
          exact h _ _ (fin _ _ (a :: L3) (TF.upd mu) (fun b hb _ => upd_ne fun z => hb (z ▸ List.mem_cons_self)) ⟨a, _, L3, rfl, upd_same, rfl, f1, f2, f3.upd mu na⟩ (fun b hb => .inl (by
            rcases List.mem_cons.mp hb with z | z
            · exact z ▸ List.mem_cons_self
            · exact List.mem_cons_of_mem _ (f4.subset z))) (List.nodup_cons.mpr ⟨na, w2.sublist f4⟩))
        · rw [if_neg hz] at h; exact h.elim
    | err n => rw [hk'] at h; exact fun C H' e s => h C H' e (ok.ext.trans s)
    | bad => rw [hk'] at h; exact h
  | _ => exact h.elim
end
end L2
set_option maxRecDepth 100000
set_option maxHeartbeats 4000000
namespace L2
open PySem PySem.Spec PyProof.Rows
noncomputable def sPopPut (i : Nat) (tk ti : Tn -> R D) : Tn -> R Fl := fun τ => (eVar i τ).bind fun l => match l with
  | .dic ks ds => (tk τ).bind fun k => (match keyOf k with
    | some k => (match lookD ks ds k with
      | some d => (ti (τ.set i (some (.dic (dropDs ks ds k).1 (dropDs ks ds k).2)))).bind fun j => (match keyOf j with
        | some j => if d.imm = true /\ (dropDs ks ds k).1.length < sizeLine then .ok (.nx ((τ.set i (some (.dic (dropDs ks ds k).1 (dropDs ks ds k).2))).set i (some (.dic (putP (dropDs ks ds k).1 (dropDs ks ds k).2 j d).1 (putP (dropDs ks ds k).1 (dropDs ks ds k).2 j d).2)))) else .bad
        | none => .bad)
      | none => .bad)
    | none => .bad)
  | _ => .bad
section
variable {X : Cx} {E : XK} {Γ Γl : List Cl} {pos : Pos}
theorem popput (i : Nat) {x : Str} {e ix : Expr} {tk ti : Tn -> R D} {c ci : Rc} {p0 p1 p2 p3 p4 : Pos} (hu : X.A.units + 1 < cLine) (hk : ME X E Γ e tk c) (hi : ME X E Γ ix ti ci) (hN : autoParam (X.N[i]? = some x) L2.au3._auto_1) (h0 : autoParam (Γ[i]? = some .own) L2.au3._auto_1) (hv : autoParam (Vis X.env.scope x) L2.au5._auto_1) (hb : autoParam ((x == ("__debug__" : Str)) = false) L2.au1._auto_1) (hcd : autoParam ((x == ("__classdict__" : Str)) = false) L2.au1._auto_1)
    (hbase : autoParam (attributeBase (.Name x p0) "pop" X.env (eval (.Name x p0) X.env) = eval (.Name x p0) X.env) L2.au3._auto_1)
    (hfew : autoParam (((backTo p2 (starEach [e] X.env)).all (fun x => !x.1) && (backToKw p2 (keywordEach [] X.env)).all (fun x => x.1.isSome) && decide (([e] : List Expr).length + ([] : List Keyword).length + (if ([] : List Keyword).isEmpty then 0 else 1) < 30)) = true) L2.au3._auto_1)
    (hline : autoParam ((p1.endLine == p2.line) = true) L2.au3._auto_1) (htr : autoParam (backTo p2 (starEach [e] X.env) = [(false, eval e X.env)]) L2.au3._auto_1)
    (hsw : autoParam (swapsWith (.Call (.Attribute (.Name x p0) "pop" p1) [e] [] p2) (some (.Subscript (.Name x p3) ix p4)) pos.line X.env = pure false) L2.au3._auto_1) :
    MS X E Γl Γ (.Assign [.Subscript (.Name x p3) ix p4] (.Call (.Attribute (.Name x p0) "pop" p1) [e] [] p2) pos) (sPopPut i tk ti) Γ := by
  obtain ⟨te', p', q'⟩ := hk
  obtain ⟨te2, p5, q5⟩ := hi
  refine ⟨_, ps_dput hu (pe_var (pos := p3) hN hv hb hcd) p5 (pe_dpop1 (pe_var (pos := p0) hN hv hb hcd) p' ⟨hbase, hfew, hline, htr⟩) hsw, fun B σ H τ Z ok h => ?_⟩
  obtain ⟨v1, d1, L1, e1, e2, r1, _⟩ := ok.slotF h0
  unfold sPopPut at h
  have ev : eVar i τ = .ok d1 := by unfold eVar; rw [e2]
  rw [ev, R.ok_bind] at h
  cases d1 with
  | dic ks ds =>
    obtain ⟨a, kvs, L', rfl, ha, z2, hks, hnd, rs⟩ := r1
    refine ⟨_, e1, a, rfl, .inl ⟨kvs, .inl ha⟩, ?_⟩
    obtain ⟨O, eo, _⟩ := ok.eok
    refine q' O σ H τ _ eo ?_
    dsimp only at h
    cases hk' : tk τ with
    | ok dk =>
      rw [hk', R.ok_bind] at h
      refine fun kv H2 Lk s2 rk _ => ?_
      have ok2 := ok.same s2
      obtain ⟨v2, d2, L2, q3, q4, r2, m1, m2, fin⟩ := ok2.slotF h0
      rw [e1] at q3
      cases q3
      rw [e2] at q4
      cases q4
      cases hko : keyOf dk with
      | none => rw [hko] at h; exact h.elim
      | some k =>
        rw [hko] at h
        dsimp only at h
        cases hlk : lookD ks ds k with
        | none => rw [hlk] at h; exact h.elim
        | some dv =>
          rw [hlk] at h
          dsimp only at h
          obtain ⟨a2, kvs2, L2', e5, ha2, z3, hks2, hnd2, rs2⟩ := r2
          cases e5
          subst z3
          subst hks2
          have mu : (∃ vs, H2 a = some (.lst vs)) \/ ∃ kvs, H2 a = some (.dK kvs) := .inr ⟨_, ha2⟩
          obtain ⟨w1, w2⟩ := List.nodup_cons.mp m1
          obtain ⟨vv, LL, g1, g2, g3⟩ := look_some rs2 hlk
          obtain ⟨f1, f2, L3, f3, f4⟩ := rep_drop (k := k) rs2 hnd2
          have na : a ∉ L3 := fun z => w1 (f4.subset z)
          refine ⟨kvs2, k, vv, ha2, keyOf_rep hko rk, g1, ?_⟩
          have ok3 : SOk X.K Γ B (upd H2 a (.dK (dropK kvs2 k))) σ (τ.set i (some (.dic (dropDs (kvs2.map (·.1)) ds k).1 (dropDs (kvs2.map (·.1)) ds k).2))) [] := fin _ _ (a :: L3) (TF.upd mu) (fun b hb _ => upd_ne fun z => hb (z ▸ List.mem_cons_self)) ⟨a, _, L3, rfl, upd_same, rfl, f1, f2, f3.upd mu na⟩ (fun b hb => .inl (by
            rcases List.mem_cons.mp hb with z | z
            · exact z ▸ List.mem_cons_self
            · exact List.mem_cons_of_mem _ (f4.subset z))) (List.nodup_cons.mpr ⟨na, w2.sublist f4⟩)
          have gv := fun hz : dv.imm = true => (by
            have zL := Rep.imm _ _ _ g2 hz
            subst zL
            exact g2.upd (o := .dK (dropK kvs2 k)) mu (by simp) : Rep X.K (upd H2 a (.dK (dropK kvs2 k))) dv vv [])
          clear fin
          generalize upd H2 a (.dK (dropK kvs2 k)) = H3 at *
          generalize (dropDs (kvs2.map (·.1)) ds k).1 = ks1 at *
          generalize (dropDs (kvs2.map (·.1)) ds k).2 = ds1 at *
          generalize hτ1 : τ.set i (some (.dic ks1 ds1)) = τ1 at *
          obtain ⟨v4, d4, L4, t1, t2, r4, _⟩ := ok3.slotF h0
          refine ⟨v4, t1, ?_⟩
          obtain ⟨O3, eo3, _⟩ := ok3.eok
          refine q5 O3 σ H3 τ1 _ eo3 ?_
          cases hi' : ti τ1 with
          | ok dj =>
            rw [hi', R.ok_bind] at h
            refine fun jv H4 Lj s4 rj _ => ?_
            have ok4 := ok3.same s4
            obtain ⟨v5, d5, L5, q6, q7, r5, n1, n2, fin⟩ := ok4.slotF h0
            cases hjo : keyOf dj with
            | none => rw [hjo] at h; exact h.elim
            | some j =>
              rw [hjo] at h
              dsimp only at h
              by_cases hz : dv.imm = true /\ ks1.length < sizeLine
              · rw [if_pos hz] at h
                have hd5 : d5 = .dic ks1 ds1 := by
                  have hl : i < τ.length := (List.getElem?_eq_some_iff.mp e2).1
                  rw [<- hτ1, List.getElem?_set_self hl] at q7
                  exact (Option.some.inj (Option.some.inj q7)).symm
                subst hd5
                rw [t1] at q6
                cases q6
                obtain ⟨b, kvs3, L6, rfl, hb3, z4, hks3, hnd3, rs3⟩ := r5
                subst z4
                have mu4 : (∃ vs, H4 b = some (.lst vs)) \/ ∃ kvs, H4 b = some (.dK kvs) := .inr ⟨_, hb3⟩
                have ry := (gv hz.1).same s4
                obtain ⟨x1, x2⟩ := List.nodup_cons.mp n1
                have r3 := ry.upd (o := .dK (putK kvs3 j vv)) mu4 (by simp)
                have rs4 := rs3.upd (o := .dK (putK kvs3 j vv)) mu4 x1
                subst hks3
                obtain ⟨a1, a2, L7, a3, a4⟩ := rep_put (k := j) rs4 hnd3 r3
                refine ⟨b, _, rfl, ?_, h _ _ (fin _ _ (b :: L7) (TF.upd mu4) (fun y hy _ => upd_ne fun z => hy (z ▸ List.mem_cons_self)) ⟨b, _, L7, rfl, upd_same, rfl, a1, a2, a3⟩ (fun y hy => .inl ?_) ?_)⟩
                · rw [keyOf_rep hjo rj]
                  exact DPut.k hb3 (by have := hz.2; rw [List.length_map] at this; exact this)
                · rcases List.mem_cons.mp hy with z | z
                  · exact z ▸ List.mem_cons_self
                  · exact List.mem_cons_of_mem _ (a4.subset z)
                · exact List.nodup_cons.mpr ⟨fun z => x1 (a4.subset z), x2.sublist a4⟩
              · rw [if_neg hz] at h; exact h.elim
          | err n => rw [hi'] at h; exact fun C H' e s => h C H' e (ok3.ext.trans s)
          | bad => rw [hi'] at h; exact h
    | err n => rw [hk'] at h; exact fun C H' e s => h C H' e (ok.ext.trans s)
    | bad => rw [hk'] at h; exact h
  | _ => exact h.elim
end
end L2
set_option maxRecDepth 100000
set_option maxHeartbeats 4000000
namespace L2
open PySem PySem.Spec PyProof.Rows
noncomputable def Items (H : Hp) (kvs : List (Key × V)) (ys : List V) (n : Nat) : Prop := ∃ ps : List Addr, ys = ps.map V.ref /\ ps.length = n /\ ∀ (i : Nat) (p : Addr) (kv : Key × V), ps[i]? = some p -> kvs[i]? = some kv -> H p = some (.tup [kV kv.1, kv.2])
theorem valV_at : ∀ {kvs : List (Key × V)} {i : Nat} {k : Key} {v : V}, (kvs.map (·.1)).Nodup -> kvs[i]? = some (k, v) -> valV kvs k = some v
  | [], _, _, _, _, h => by cases h
  | p :: kvs, 0, k, v, nd, h => by
    cases h
    exact valV_pos rfl
  | p :: kvs, i + 1, k, v, nd, h => by
    rw [List.map_cons, List.nodup_cons] at nd
    rw [List.getElem?_cons_succ] at h
    have hm : k ∈ kvs.map (·.1) := List.mem_map.mpr ⟨(k, v), List.mem_of_getElem? h, rfl⟩
    rw [valV_neg (fun z => nd.1 (by rw [z]; exact hm))]
    exact valV_at nd.2 h
theorem tItems_ok {σ : St} {H : Hp} {a : Addr} {kvs : List (Key × V)} {fr : List (Option Nat)} {d j : Nat} {Q : VK} (hσ : σ[d]? = some (some (.ref a))) (hj : (compSt fr σ)[j]? = some (some (.ref a))) (hj0 : j ≠ 0) (hl : 0 < (compSt fr σ).length) (ha : H a = some (.dK kvs)) (hnd : (kvs.map (·.1)).Nodup) (hz : kvs.length < sizeLine)
    (h : ∀ H' D ys o, H' a = some (.frz o (.dK kvs)) -> (∀ b, b ≠ a -> H b ≠ none -> H' b = H b) -> H D = none -> D ≠ a -> H' D = some (.lst ys) -> Items H' kvs ys kvs.length -> Q (.ref D) H') :
    tComp fr (iKeys (tVar d)) (gName 0) tYes (tTup (tCons (tVar 0) (tCons (tDGet (tVar j) (tVar 0)) tNil))) σ H Q := by
  refine ⟨.ref a, hσ, a, kvs, rfl, .inl ha, fun o D hD => ?_⟩
  have hDa : D ≠ a := fun z => by rw [z, upd_same] at hD; cases hD
  have hD0 : H D = none := by rw [upd_ne hDa] at hD; exact hD
  refine ⟨fun i m ys τ H2 => m = kvs.length - i /\ i <= kvs.length /\ H2 D = some (.lst ys) /\ H2 a = some (.frz o (.dK kvs)) /\ (∀ b, b ≠ a -> H b ≠ none -> H2 b = H b) /\ 0 < τ.length /\ τ[j]? = some (some (.ref a)) /\ Items H2 kvs ys i, ⟨kvs.length, rfl, Nat.zero_le _, upd_same, by rw [upd_ne (Ne.symm hDa), upd_same], fun b hb hn => by rw [upd_ne (fun z => hn (by rw [z]; exact hD0)), upd_ne hb], hl, hj, [], rfl, rfl, fun i p kv z => by cases z⟩, ?_⟩
  rintro i m ys τ H2 ⟨rfl, hi, h1, h2, h3, h4, h5, ps, rfl, hps, hit⟩
  refine ⟨h1, ?_⟩
  by_cases hlt : i < kvs.length
  · refine .inr ⟨⟨h2, hlt⟩, fun x H3 y => ?_⟩
    obtain ⟨rfl, k, v, hk, rfl⟩ := y
    refine ⟨_, List.getElem?_set_self h4, _, by rw [List.getElem?_set_ne (Ne.symm hj0)]; exact h5, _, List.getElem?_set_self h4, a, v, rfl, .inl ⟨kvs, k, .inr ⟨o, h2⟩, rfl, ?_⟩, ?_⟩
    · exact (valV_at hnd hk).symm
    · refine ⟨by show 2 <= sizeLine; rw [sizeLine_eq]; decide, fun p hp => ⟨?_, by rw [List.length_map, hps]; omega, kvs.length - (i + 1), by omega, rfl, hlt, upd_same, ?_, fun b hb hn => ?_, by rw [List.length_set]; exact h4, by rw [List.getElem?_set_ne (Ne.symm hj0)]; exact h5, ps ++ [p], by rw [List.map_append]; rfl, by rw [List.length_append, hps]; rfl, fun i' p' kv' hp' hk' => ?_⟩⟩
      · have : p ≠ D := fun z => by rw [z, h1] at hp; cases hp
        rw [upd_ne (Ne.symm this)]
        exact h1
      · have pa : p ≠ a := fun z => by rw [z, h2] at hp; cases hp
        rw [upd_ne (Ne.symm hDa), upd_ne (Ne.symm pa)]
        exact h2
      · have pb : b ≠ p := fun z => by
          have := h3 b hb hn
          rw [z, hp] at this
          exact hn (by rw [z]; exact this.symm)
        have Db : b ≠ D := fun z => hn (by rw [z]; exact hD0)
        rw [upd_ne Db, upd_ne pb]
        exact h3 b hb hn
      · have pD : p ≠ D := fun z => by rw [z, h1] at hp; cases hp
        by_cases hlt2 : i' < ps.length
        · rw [List.getElem?_append_left hlt2] at hp'
          have q := hit i' p' kv' hp' hk'
          have np : p' ≠ p := fun z => by rw [z, hp] at q; cases q
          have nD : p' ≠ D := fun z => by rw [z, h1] at q; cases q
          rw [upd_ne nD, upd_ne np]
          exact q
        · have e : i' = ps.length := by
            have := (List.getElem?_eq_some_iff.mp hp').1
            rw [List.length_append] at this
            have : i' < ps.length + 1 := this
            omega
          subst e
          rw [List.getElem?_append_right (Nat.le_refl _), Nat.sub_self] at hp'
          cases hp'
          rw [hps, hk] at hk'
          cases hk'
          rw [upd_ne pD, upd_same]
  · have e : i = kvs.length := by omega
    subst e
    exact .inl ⟨⟨h2, Nat.le_refl _⟩, h H2 D _ o h2 h3 hD0 hDa h1 ⟨ps, rfl, hps, hit⟩⟩
end L2
set_option maxRecDepth 100000
set_option maxHeartbeats 4000000
namespace L2
open PySem PySem.Spec PyProof.Rows PySem.W
open AutoSeq1 (wpAny_loadPart')
section
variable {prog : Program} {w : World} {A : Around} {E : Value -> Shared -> Prop} {s : Shared} {T : String} {r d : Addr} {n : Nat} {P : Nat -> Value -> Prop} {OK : Heap -> Prop}
theorem code_tuple_new_d {Q₁ : Value -> Shared -> Prop} (K : KdlSrc prog w T r d n P OK) (hh : A.handled = none) (hok : OK s.heap) (hn : n <= sizeLine)
    (h : ∀ (h' : Heap) (tk : Nat) (acc : Array Value), (∀ b o, s.heap.get? b = some o -> h'.get? b = some o) -> ItemsOf P acc n -> Q₁ (.ref h'.objs.size) { s with heap := h'.push { cls := .type "tuple", data := .seq acc }, toks := tk }) (hT2 : (Value.type T == Value.type "tuple") = false) :
    codeAny (model prog w) A (.call (.builtin "tuple.__new__") ⟨[.type "tuple", .ref r], []⟩) (wants Q₁ E) s := by
  refine codeAny_of_tree ?_
  show wpAny _ A.in1 (do checkBuiltinCall "tuple.__new__" ⟨[.type "tuple", .ref r], []⟩; again (.builtin "tuple.__new__" ⟨[.type "tuple", .ref r], []⟩)) _ _ s
  refine wpAny_bind (wpAny_of_eq (F.newCall_tuple_1 _) (wpAny_pure ⟨plainId_quiet F.plain_tuple_new _, codeAny_builtin F.entry_tuple_new ?_⟩))
  rw [Around.under_plainId F.plain_tuple_new _]
  have hsub := sub_tuple_self
  have hinit := init_tuple_lookup
  have hmh := madeHere_tuple
  have hTI := K.type s hok
  have hh1 : A.in1.handled = none := hh
  wp_walk using wpAny_typeOf hTI, kdu_collect K hh1 hok hn
  intro h' tk acc hk hacc
  show wpAny _ _ (Builtin.Tuple.tupleExact acc.toList.toArray >>= fun v => ret v) _ _ _
  unfold Builtin.Tuple.tupleExact
  refine wpAny_bind (wpAny_newObj_type ?_ (by show acc.toList.toArray.size <= sizeLine; simp only [Array.toArray_toList]; rw [hacc.1]; exact hn))
  refine wpAny_pure ?_
  have e : acc.toList.toArray = acc := by simp
  rw [e]
  exact h h' tk acc hk hacc
theorem call_tuple_d {Q : Value -> Shared -> Prop} (K : KdlSrc prog w T r d n P OK) (hh : A.handled = none) (hok : OK s.heap) (hn : n <= sizeLine)
    (hQ : ∀ (h' : Heap) (tk : Nat) (acc : Array Value), (∀ b o, s.heap.get? b = some o -> h'.get? b = some o) -> ItemsOf P acc n -> Q (.ref h'.objs.size) { s with heap := h'.push { cls := .type "tuple", data := .seq acc }, toks := tk }) :
    wpAny (model prog w) A (call (.type "tuple") [.ref r]) Q E s := by
  refine callType_codes (Q₁ := fun obj s₁ => s₁.TypeIs obj "tuple" /\ Q obj s₁) F.called_tuple (F.typeCall_tuple_1 _) F.entry_object_init
    (code_tuple_new_d K hh hok hn (fun h' tk acc hk hacc => ⟨⟨_, Heap.get?_push_size _ rfl, rfl⟩, hQ h' tk acc hk hacc⟩) K.notTuple) fun obj s₁ h₁ => ?_
  exact ⟨h₁.1, F.args_object_init_2 obj _, object_init_meets F.called_tuple.init.lookup F.called_tuple.made (by decide) prog w A.in1 _ s₁ ⟨h₁.1, rfl, h₁.2⟩⟩
end
noncomputable def rTupK : List V -> Hp -> VK -> Prop := fun xs H Q => ∃ (a : Addr) (kvs : List (Key × V)), xs = [.ref a] /\ Rd H a (.dK kvs) /\ ∀ l, H l = none -> Q (.ref l) (upd H l (.tup ((kvs.map (·.1)).map kV)))
noncomputable def rLstK : List V -> Hp -> VK -> Prop := fun xs H Q => ∃ (a : Addr) (kvs : List (Key × V)), xs = [.ref a] /\ Rd H a (.dK kvs) /\ ∀ l, H l = none -> Q (.ref l) (upd H l (.lst ((kvs.map (·.1)).map kV)))
theorem call_tupK {X : Cx} (hc : X.calm = true) : CallR X (.type "tuple") rTupK := by
  intro pins s σ H xs us Q I r h
  obtain ⟨a, kvs, rfl, ha, q⟩ := h
  obtain ⟨u, rfl, ru⟩ := vals1 r
  obtain rfl : u = Value.ref a := ru
  obtain ⟨hz, hlo, vs, kv, dd⟩ := dk_rd I.hok ha
  obtain ⟨ep, dd⟩ := dd.dictAt
  have hkv := kv_keys kv
  have hlen : vs.length = kvs.length := by have := congrArg List.length hkv; simpa using this
  refine call_tuple_d (kdl_dict hlo) (I.ok.hd hc) dd (by rw [hlen]; exact hz) fun h' tk acc hk hacc => ?_
  have hv := key_items hacc
  rw [hkv] at hv
  have I1 : Inv X pins σ H { s with heap := h', toks := tk } := I.kept hk
  refine ⟨.ref h'.objs.size, _, I1.laid (t' := tk) (o := .tup ((kvs.map (·.1)).map kV)) (fun b ob e => Heap.get?_push_of_some _ e) (Nat.le_refl _) ⟨by rw [List.length_map, List.length_map]; exact hz, acc.toList, hv, ?_⟩, rfl, q _ (I1.hok.fresh (Nat.le_refl _))⟩
  have e : acc.toList.toArray = acc := by simp
  rw [e]
  exact TupN.new _ _
theorem call_lstK {X : Cx} (hc : X.calm = true) : CallR X (.type "list") rLstK := by
  intro pins s σ H xs us Q I r h
  obtain ⟨a, kvs, rfl, ha, q⟩ := h
  obtain ⟨u, rfl, ru⟩ := vals1 r
  obtain rfl : u = Value.ref a := ru
  obtain ⟨hz, hlo, vs, kv, dd⟩ := dk_rd I.hok ha
  obtain ⟨ep, dd⟩ := dd.dictAt
  have hkv := kv_keys kv
  have hlen : vs.length = kvs.length := by have := congrArg List.length hkv; simpa using this
  refine kdl_call (kdl_dict hlo) (I.ok.hd hc) dd (by rw [hlen]; exact hz) fun h' tk acc c' hk he hacc => ?_
  have hv := key_items hacc
  rw [hkv] at hv
  exact ⟨.ref s.heap.objs.size, _, I.laid (t' := tk) (o := .lst ((kvs.map (·.1)).map kV)) hk (Nat.le_refl _) ⟨by rw [List.length_map, List.length_map]; exact hz, acc.toList, c', hv, by rw [Array.toArray_toList]; exact he⟩, rfl, q _ (I.hok.fresh (Nat.le_refl _))⟩
end L2
set_option maxRecDepth 100000
set_option maxHeartbeats 4000000
namespace L2
open PySem PySem.Spec PyProof.Rows
noncomputable def hitsX (js : List Key) (ys : List D) : List Key -> List D -> Option Bool
  | k :: ks, x :: xs => match lookD js ys k with
    | none => some false
    | some y => (match eqF 2 x y, hitsX js ys ks xs with
      | some a, some b => some (a && b)
      | _, _ => none)
  | _, _ => some true
theorem hitsX_of {X : Cx} {pins : List (Addr × Obj)} {σ : St} {H : Hp} {s : Shared} (I : Inv X pins σ H s) {A : Around} (hu : A.units + 2 < cLine) {kvb : List (Key × V)} {vb : List (Key × Value)} {ys : List D} {Lb : List Addr} (rb : KV kvb vb) (qb : Reps X.K H ys (kvb.map (·.2)) Lb) :
    ∀ {kva : List (Key × V)} {va : List (Key × Value)} {xs : List D} {La : List Addr} {b : Bool}, KV kva va -> Reps X.K H xs (kva.map (·.2)) La -> hitsX (kvb.map (·.1)) ys (kva.map (·.1)) xs = some b -> PySem.W.KeqHits A s vb va b := by
  intro kva va xs La b ra
  induction ra generalizing xs La b with
  | nil =>
    intro r h
    cases xs with
    | nil => cases h; exact .nil
    | cons _ _ => obtain ⟨_, _, _, _, e, _⟩ := r; cases e
  | @cons p q l1 l2 h1 _ ih =>
    intro r h
    cases xs with
    | nil => obtain ⟨e, _⟩ := r; cases e
    | cons x xs =>
      obtain ⟨v, vs', L1, L2, e1, e2, r1, r2⟩ := r
      rw [List.map_cons] at e1
      cases e1
      rw [List.map_cons] at h
      unfold hitsX at h
      have ek : q.1 = p.1 := h1.1.symm
      have hv := rb.val p.1
      cases hl : lookD (kvb.map (·.1)) ys p.1 with
      | none =>
        rw [hl] at h
        cases h
        rw [look_none qb hl] at hv
        have : valueAt vb q.1 = none := by
          rw [ek]
          cases hq : valueAt vb p.1 with
          | none => rfl
          | some y => rw [hq] at hv; exact hv.elim
        exact PySem.W.KeqHits.miss (k := q.1) (v := q.2) this
      | some y =>
        rw [hl] at h
        dsimp only at h
        cases hf : eqF 2 x y with
        | none => rw [hf] at h; cases h
        | some a =>
          cases hr : hitsX (kvb.map (·.1)) ys (l1.map (·.1)) xs with
          | none => rw [hf, hr] at h; cases h
          | some b' =>
            rw [hf, hr] at h
            have h : (a && b') = b := Option.some.inj h
            obtain ⟨w, Lw, g1, g2, _⟩ := look_some qb hl
            rw [g1] at hv
            obtain ⟨yv, hy, ry⟩ := RelO.some_of (v := w) (o := valueAt vb p.1) hv
            rw [<- h]
            exact PySem.W.KeqHits.hit (k := q.1) (v := q.2) (by rw [ek]; exact hy) (rc_eq I 2 A x y _ _ _ _ _ _ a hu hf r1 g2 h1.2 ry).2.1 (ih r2 hr)
noncomputable def rEqX (K : PySem.W.Frag) : R2 := fun x y H Q => ∃ a b kva kvb xs ys La Lb r, x = .ref a /\ y = .ref b /\ H a = some (.dK kva) /\ H b = some (.dK kvb) /\ Reps K H xs (kva.map (·.2)) La /\ Reps K H ys (kvb.map (·.2)) Lb /\
  kva.length = kvb.length /\ hitsX (kvb.map (·.1)) ys (kva.map (·.1)) xs = some r /\ Q (.bl r) H
theorem op_eqX {X : Cx} (hu : X.A.units + 12 < cLine) : OpR X (compareOp .Eq) (rEqX X.K) := by
  rintro pins s σ H x y v u Q I rx ry ⟨a, b, kva, kvb, xs, ys, La, Lb, r, e1, e2, ha, hb, qa, qb, hl, hh, q⟩
  subst e1 e2
  obtain rfl : v = Value.ref a := rx
  obtain rfl : u = Value.ref b := ry
  obtain ⟨_, da, va, ra, oa⟩ := dk_of I.hok ha
  obtain ⟨_, db, vb, rb, ob⟩ := dk_of I.hok hb
  have l1 : va.length = kva.length := ra.length.symm
  have l2 : vb.length = kvb.length := rb.length.symm
  refine PySem.W.keq_eq (r := r) da db oa ob (by omega) (fun e => hitsX_of I (by show X.A.units + 1 + 2 < cLine; omega) rb qb ra qa hh) ?_
  rw [l1, l2, hl, beq_self_eq_true, Bool.true_and]
  exact ⟨.bl _, H, I, rfl, q⟩
noncomputable def eqKD : D -> D -> R D
  | .dic ks xs, .dic js ys => if ks.length = js.length then (match hitsX js ys ks xs with
    | some b => .ok (.bl b)
    | none => .bad) else .bad
  | _, _ => .bad
theorem N_eqX : NoErr eqKD := fun x y n h => by
  unfold eqKD at h
  split at h
  · split at h
    · split at h <;> cases h
    · cases h
  · cases h
theorem B_eqX {K : PySem.W.Frag} : OpB K (rEqX K) eqKD := by
  rintro H x y dx dy Lx Ly Q rx ry ⟨d, hg, q⟩
  unfold eqKD at hg
  split at hg
  · rename_i ks xs js ys
    obtain ⟨a, kva, L1, rfl, ha, _, hk, _, rs⟩ := rx
    obtain ⟨b, kvb, L2, rfl, hb, _, hj, _, qs⟩ := ry
    split at hg
    · rename_i hl
      split at hg
      · rename_i r hr
        cases hg
        exact ⟨a, b, kva, kvb, xs, ys, _, _, r, rfl, rfl, ha, hb, rs, qs, by rw [<- hk, <- hj, List.length_map, List.length_map] at hl; exact hl, by rw [hk, hj]; exact hr, q _ H [] (Same.refl H) ⟨rfl, rfl⟩ (by simp) (fun a ha => nomatch ha)⟩
      · cases hg
    · cases hg
  · cases hg
noncomputable def RepK (K : PySem.W.Frag) (d : D) (v : V) : Prop := ∀ H, Rep K H d v []
theorem me_globT {X : Cx} {E : XK} {Γ : List Cl} {pos : Pos} {x : Str} {d : D} (h : ∃ a, X.mg x = some (.ref a) /\ RepK X.K d (.ref a)) (hg : autoParam (Gl X x) L2.au9._auto_1) (hd : autoParam ((x == ("__debug__" : Str)) = false) L2.au1._auto_1) : ME X E Γ (.Name x pos) (eC d) .fresh := by
  obtain ⟨a, ht, r⟩ := h
  exact me_c (pe_glob (v := .ref a) hg ht rfl hd) r
end L2
set_option maxRecDepth 100000
set_option maxHeartbeats 4000000
namespace L2
open PySem PySem.Spec PyProof.Rows
section
variable {K : PySem.W.Frag} {Γ : List Cl} {B H H1 : Hp} {σ : St} {τ : Tn}
theorem SOk.chg {L N T : List Addr} (h : SOk K Γ B H σ τ (L ++ T)) (tf : TF H H1) (kp : ∀ b, b ∉ L -> H b ≠ none -> H1 b = H b) (n1 : N.Nodup) (n2 : ∀ a ∈ N, H a = none /\ H1 a ≠ none) : SOk K Γ B H1 σ τ (N ++ T) := by
  obtain ⟨Ls, h1, h2, h3, h4, h5, h6⟩ := h.ex
  obtain ⟨d1, d2, d3⟩ := List.nodup_append.mp h4
  have keepT : ∀ a ∈ T, H1 a = H a := fun a ha => kp a (fun z => d3 a z a ha rfl) (h5 a (List.mem_append_right _ ha)).2
  refine ⟨fun b o e => ?_, h.lσ, h.lτ, Ls, fun i c e hc => ?_, h2, h3, List.nodup_append.mpr ⟨n1, d2, fun a ha b hb z => ?_⟩, fun a ha => ?_, fun i c e hc a ha hm => ?_⟩
  · have hq := h.ext b o e
    rw [kp b (fun z => by have := (h5 b (List.mem_append_left _ z)).1; rw [e] at this; cases this) (by rw [hq]; simp)]
    exact hq
  · obtain ⟨v, d, e1, e2, r⟩ := h1 i c e hc
    exact ⟨v, d, e1, e2, Rep.keep tf d v _ r fun a ha => kp a (fun z => h6 i c e hc a ha (List.mem_append_left _ z)) (r.there ha)⟩
  · subst z
    exact (h5 a (List.mem_append_right _ hb)).2 (n2 a ha).1
  · rcases List.mem_append.mp ha with z | z
    · exact ⟨h.ext.non (n2 a z).1, (n2 a z).2⟩
    · exact ⟨(h5 a (List.mem_append_right _ z)).1, by rw [keepT a z]; exact (h5 a (List.mem_append_right _ z)).2⟩
  · obtain ⟨v, d, e1, e2, r⟩ := h1 i c e hc
    rcases List.mem_append.mp hm with z | z
    · exact r.there ha (n2 a z).1
    · exact h6 i c e hc a ha (List.mem_append_right _ z)
noncomputable def itemsD : List Key -> List D -> List D
  | k :: ks, d :: ds => .tup [keyD k, d] :: itemsD ks ds
  | _, _ => []
theorem rep_key (k : Key) : Rep K H (keyD k) (kV k) [] := by
  cases k <;> exact ⟨rfl, rfl⟩
theorem reps_items : ∀ {kvs : List (Key × V)} {ds : List D} {ps : List Addr}, Reps K H ds (kvs.map (·.2)) [] -> ps.length = kvs.length -> (∀ (i : Nat) (p : Addr) (kv : Key × V), ps[i]? = some p -> kvs[i]? = some kv -> H p = some (.tup [kV kv.1, kv.2])) -> Reps K H (itemsD (kvs.map (·.1)) ds) (ps.map V.ref) []
  | [], ds, [], r, _, _ => by
    cases ds with
    | nil => exact ⟨rfl, rfl⟩
    | cons _ _ => obtain ⟨_, _, _, _, e, _⟩ := r; cases e
  | [], _, _ :: _, _, hl, _ => by cases hl
  | _ :: _, _, [], _, hl, _ => by cases hl
  | kv :: kvs, [], _ :: _, r, _, _ => by obtain ⟨e, _⟩ := r; cases e
  | kv :: kvs, d :: ds, p :: ps, r, hl, hit => by
    obtain ⟨v, vs', L1, L2, e1, e2, r1, r2⟩ := r
    rw [List.map_cons] at e1
    cases e1
    obtain ⟨rfl, rfl⟩ := List.append_eq_nil_iff.mp e2.symm
    refine ⟨.ref p, ps.map V.ref, [], [], rfl, rfl, ⟨p, _, rfl, SqT.of (hit 0 p kv rfl rfl), ?_⟩, reps_items r2 (by simpa using hl) fun i p' kv' h1 h2 => hit (i + 1) p' kv' (by simpa using h1) (by simpa using h2)⟩
    exact ⟨_, _, [], [], rfl, rfl, rep_key kv.1, _, _, [], [], rfl, rfl, r1, rfl, rfl⟩
end
noncomputable def sItems (i j : Nat) : Tn -> R Fl := fun τ => (eVar j τ).bind fun l => match l with
  | .dic ks ds => if D.imms ds = true /\ ks.length < sizeLine then .ok (.nx (τ.set i (some (.lst [.lst (itemsD ks ds), .tup (ks.map keyD), .non, .str "rules", .int 5, .lst [], .dic [] [], .lst (ks.map keyD)])))) else .bad
  | _ => .bad
theorem tf_of {H H1 : Hp} {a : Addr} {kvs : List (Key × V)} (ha : H a = some (.dK kvs)) (kp : ∀ b, b ≠ a -> H b ≠ none -> H1 b = H b) : TF H H1 := by
  refine ⟨fun b xs e => ?_, fun b o u e => ?_⟩
  · rw [kp b (fun z => by rw [z, ha] at e; cases e) (by rw [e]; simp)]; exact e
  · rw [kp b (fun z => by rw [z, ha] at e; cases e) (by rw [e]; simp)]; exact e
section
variable {X : Cx} {E : XK} {Γ Γl : List Cl} {pos pos' : Pos}
theorem ms_items (i j : Nat) {x : Str} {e1 e2 e8 : Expr} {k3 k4 k5 : Nat} {p3 p4 p5 p6 p7 pl : Pos} (nd : X.N.Nodup)
    (h1 : PE X e1 (tComp [none, some j] (iKeys (tVar j)) (gName 0) tYes (tTup (tCons (tVar 0) (tCons (tDGet (tVar 1) (tVar 0)) tNil))))) (h2 : PE X e2 (tCB rTupK (tCons (tVar j) tNil))) (h8 : PE X e8 (tCB rLstK (tCons (tVar j) tNil)))
    (hs1 : ∀ es, starEach (e1 :: es) X.env = (false, eval e1 X.env) :: starEach es X.env) (hs2 : ∀ es, starEach (e2 :: es) X.env = (false, eval e2 X.env) :: starEach es X.env) (hs8 : ∀ es, starEach (e8 :: es) X.env = (false, eval e8 X.env) :: starEach es X.env)
    (h0 : autoParam (Γ[j]? = some .own) L2.au3._auto_1) (hij : autoParam (i ≠ j) L2.au1._auto_1) (hi : autoParam (X.N[i]? = some x) L2.au3._auto_1) (hl : autoParam (i < Γ.length) L2.au1._auto_1) (hx : autoParam (Loc X.env.scope x) L2.au7._auto_1)
    (hs : autoParam (swapsWith (.List [e1, e2, .Constant .none k3 p3, .Constant (.str "rules") k4 p4, .Constant (.int 5) k5 p5, .List [] p6, .Dict [] [] p7, e8] pl) (some (.Name x pos')) pos.line X.env = pure false) L2.au3._auto_1) (hf : autoParam (X.fn x = true \/ X.env.scope.names.lookup x = some .local) L2.au0._auto_1) :
    MS X E Γl Γ (.Assign [.Name x pos'] (.List [e1, e2, .Constant .none k3 p3, .Constant (.str "rules") k4 p4, .Constant (.int 5) k5 p5, .List [] p6, .Dict [] [] p7, e8] pl) pos) (sItems i j) ((Γ.set j .dead).set i .own) := by
  refine ⟨_, ps_set nd hi hx (pe_lst (pa_cons h1 (pa_cons h2 (pa_cons pe_non (pa_cons pe_str (pa_cons pe_int (pa_cons (pe_lst pa_nil) (pa_cons pe_dnewK (pa_cons h8 pa_nil (hs8 _))))))) (hs2 _)) (hs1 _))) hs hf, fun B σ H τ Z ok h => ?_⟩
  obtain ⟨v, d, L, q1, q2, r, ok1⟩ := ok.out h0
  unfold sItems at h
  have ev : eVar j τ = .ok d := by unfold eVar; rw [q2]
  rw [ev, R.ok_bind] at h
  cases d with
  | dic ks ds =>
    dsimp only at h
    by_cases hz : D.imms ds = true /\ ks.length < sizeLine
    · rw [if_pos hz] at h
      obtain ⟨a, kvs, L', rfl, ha, rfl, rfl, hnd, rs⟩ := r
      have hL := Reps.imm _ _ _ rs hz.1
      subst hL
      have hlen : kvs.length < sizeLine := by have := hz.2; rw [List.length_map] at this; exact this
      have hc1 : (compSt [none, some j] σ)[1]? = some (some (.ref a)) := by
        show some ((σ[j]?).join) = _
        rw [q1]; rfl
      unfold tAsg tLst
      show (tCons (tComp [none, some j] (iKeys (tVar j)) (gName 0) tYes (tTup (tCons (tVar 0) (tCons (tDGet (tVar 1) (tVar 0)) tNil)))) _) σ H _
      unfold tCons
      show tComp [none, some j] (iKeys (tVar j)) (gName 0) tYes (tTup (tCons (tVar 0) (tCons (tDGet (tVar 1) (tVar 0)) tNil))) σ H _
      refine tItems_ok (d := j) (j := 1) q1 hc1 (by decide) (by show 0 < 2; decide) ha hnd hlen fun H1 D ys o g1 g2 g3 g4 g5 g6 => ?_
      obtain ⟨ps, rfl, hps, hit⟩ := g6
      have tf := tf_of ha g2
      have ok2 : SOk X.K (Γ.set j .dead) B H1 σ τ ([D] ++ []) := ok1.chg (L := [a]) tf (fun b hb => g2 b (fun z => hb (by rw [z]; exact List.mem_singleton.mpr rfl))) (by simp) (fun b hb => by rw [List.mem_singleton.mp hb]; exact ⟨g3, by rw [g5]; simp⟩)
      have rs1 := Reps.keep tf _ _ _ rs (fun b hb => nomatch hb)
      have ri := reps_items rs1 hps hit
      refine ⟨_, q1, a, kvs, rfl, .inr ⟨o, g1⟩, fun l1 hl1 => ?_⟩
      have s1 : Same H1 (upd H1 l1 (.tup ((kvs.map (·.1)).map kV))) := Same.new hl1
      refine ⟨Nat.zero_le _, fun l2 hl2 => fun l3 hl3 => ⟨_, q1, a, kvs, rfl, .inr ⟨o, ?_⟩, fun l4 hl4 => ⟨by show 8 <= sizeLine; rw [sizeLine_eq]; decide, fun p hp => h _ _ ?_⟩⟩⟩
      · exact (Same.new hl3) _ _ ((Same.new hl2) _ _ (s1 _ _ g1))
      · have s2 := Same.new (o := .lst []) hl2
        have s3 := Same.new (o := .dK []) hl3
        have s4 := Same.new (o := .lst ((kvs.map (·.1)).map kV)) hl4
        have n2 := s1.non hl2
        have n3 := s1.non (s2.non hl3)
        have n4 := s1.non (s2.non (s3.non hl4))
        have n5 := s1.non (s2.non (s3.non (s4.non hp)))
        have m3 : l3 ≠ l2 := fun z => by rw [z, upd_same] at hl3; cases hl3
        have m4 : l4 ≠ l2 := fun z => by have := s3.non hl4; rw [z, upd_same] at this; cases this
        have m5 : l4 ≠ l3 := fun z => by rw [z, upd_same] at hl4; cases hl4
        have m6 : p ≠ l2 := fun z => by have := s3.non (s4.non hp); rw [z, upd_same] at this; cases this
        have m7 : p ≠ l3 := fun z => by have := s4.non hp; rw [z, upd_same] at this; cases this
        have m8 : p ≠ l4 := fun z => by rw [z, upd_same] at hp; cases hp
        have s5 := Same.new (o := .lst [.ref D, .ref l1, .non, .str "rules", .int 5, .ref l2, .ref l3, .ref l4]) hp
        have SS := ((s1.trans s2).trans s3).trans (s4.trans s5)
        have b1 := (s2.trans s3).trans (s4.trans s5) l1 _ upd_same
        have b2 := s3.trans (s4.trans s5) l2 _ upd_same
        have b3 := (s4.trans s5) l3 _ upd_same
        have b4 := s5 l4 _ upd_same
        have bD := SS D _ g5
        have ok3 := ok2.aside (L := [p, l2, l3, l4]) SS (fun b hb => ?_) (by simp [m3, m4, m5, m6, m7, m8, Ne.symm m3, Ne.symm m4, Ne.symm m5]) (fun b hb => ?_)
        · refine (ok3.perm (T' := [p, D, l2, l3, l4] ++ []) ?_).into (d := .lst [.lst (itemsD (kvs.map (·.1)) ds), .tup ((kvs.map (·.1)).map keyD), .non, .str "rules", .int 5, .lst [], .dic [] [], .lst ((kvs.map (·.1)).map keyD)]) ?_ (by rw [List.length_set]; exact hl)
          · exact List.Perm.cons p (List.perm_append_comm (l₁ := [l2, l3, l4]) (l₂ := [D]))
          · refine ⟨p, _, [D, l2, l3, l4], rfl, upd_same, rfl, ?_⟩
            refine ⟨_, _, [D], [l2, l3, l4], rfl, rfl, ⟨D, _, [], rfl, bD, rfl, ri.same SS⟩, ?_⟩
            refine ⟨_, _, [], [l2, l3, l4], rfl, rfl, ⟨l1, _, rfl, SqT.of b1, reps_keys _⟩, ?_⟩
            refine ⟨_, _, [], [l2, l3, l4], rfl, rfl, ⟨rfl, rfl⟩, ?_⟩
            refine ⟨_, _, [], [l2, l3, l4], rfl, rfl, ⟨rfl, rfl⟩, ?_⟩
            refine ⟨_, _, [], [l2, l3, l4], rfl, rfl, ⟨rfl, rfl⟩, ?_⟩
            refine ⟨_, _, [l2], [l3, l4], rfl, rfl, ⟨l2, _, [], rfl, b2, rfl, Reps.nil⟩, ?_⟩
            refine ⟨_, _, [l3], [l4], rfl, rfl, ⟨l3, _, [], rfl, b3, rfl, rfl, List.nodup_nil, Reps.nil⟩, ?_⟩
            exact ⟨_, _, [l4], [], rfl, rfl, ⟨l4, _, [], rfl, b4, rfl, reps_keys _⟩, rfl, rfl⟩
        · simp only [List.mem_cons, List.not_mem_nil, or_false] at hb
          rcases hb with rfl | rfl | rfl | rfl
          · rw [upd_same]; simp
          · rw [b2]; simp
          · rw [b3]; simp
          · rw [b4]; simp
        · simp only [List.mem_cons, List.not_mem_nil, or_false] at hb
          rcases hb with rfl | rfl | rfl | rfl
          · exact n5
          · exact n2
          · exact n3
          · exact n4
    · rw [if_neg hz] at h; exact h.elim
  | _ => exact h.elim
end
end L2
set_option maxRecDepth 100000
set_option maxHeartbeats 4000000
namespace L2
open PySem PySem.Spec PyProof.Rows
theorem repK_tup {K : PySem.W.Frag} {a : Addr} {its : Array Value} {n : Nat} {vs : List V} {ds : List D} (h : K.lookup a = some ⟨.type "tuple", none, .seq its n, #[]⟩) (hz : its.size <= 100) (v : Vals vs its.toList) (r : ∀ H, Reps K H ds vs []) : RepK K (.tup ds) (.ref a) :=
  fun H => ⟨a, vs, rfl, .inr ⟨_, its, n, h, rfl, ⟨rfl, rfl⟩, rfl, Nat.le_trans hz (by rw [sizeLine_eq]; decide), v⟩, r H⟩
theorem repsK_nil {K : PySem.W.Frag} : ∀ H, Reps K H [] [] [] := fun _ => Reps.nil
theorem repsK_cons {K : PySem.W.Frag} {d : D} {v : V} {ds : List D} {vs : List V} (h : RepK K d v) (t : ∀ H, Reps K H ds vs []) : ∀ H, Reps K H (d :: ds) (v :: vs) [] := fun H => ⟨v, vs, [], [], rfl, rfl, h H, t H⟩
theorem repK_int {K : PySem.W.Frag} {i : Int} : RepK K (.int i) (.int i) := fun _ => ⟨rfl, rfl⟩
theorem repK_str {K : PySem.W.Frag} {x : Str} : RepK K (.str x) (.str x) := fun _ => ⟨rfl, rfl⟩
theorem relV_ref {a : Addr} : RelV (.ref a) (.ref a) := rfl
theorem relV_int {i : Int} {t : Tok} : RelV (.int i) (.int i t) := ⟨t, rfl⟩
theorem relV_str {x : Str} {t : Tok} : RelV (.str x) (.str x t) := ⟨t, rfl⟩
end L2
set_option maxRecDepth 100000
set_option maxHeartbeats 4000000
namespace K02
open PySem PySem.Spec PyProof.Rows L2
noncomputable def top (i : Nat) : Stmt := PySem.Challenge.pw_quirehand_k02_rules_refused.main.body.getD i (.Pass ⟨0, 0, 0, 0⟩)
section
variable {P : Program} {w : World} {K : PySem.W.Frag} {mg : Str -> Option Value} {base : Heap}
noncomputable def g_BOUNDS : D := (.tup [(.tup [.str "width", .int 4, .int 2000]), (.tup [.str "height", .int 2, .int 200]), (.tup [.str "part", .int 0, .int 100000]), (.tup [.str "twin", .int 0, .int 100000]), (.tup [.str "lone", .int 0, .int 100000]), (.tup [.str "late", .int 0, .int 100000]), (.tup [.str "over", .int 1, .int 100000]), (.tup [.str "gap", .int 0, .int 5]), (.tup [.str "ahead", .int 1, .int 6]), (.tup [.str "behind", .int 1, .int 6])])
structure Gl0 (K : PySem.W.Frag) (mg : Str -> Option Value) : Prop where
  BOUNDS : ∃ a, mg "BOUNDS" = some (.ref a) /\ RepK K g_BOUNDS (.ref a)
theorem it_of {C : Addr} {bm : List Value} {n : String} (h : PySem.W.excIn K C bm n = true) : (PySem.W.clsIn K C).isSome = true := by
  unfold PySem.W.excIn at h
  split at h
  · rename_i hl
    unfold PySem.W.clsIn
    rw [hl]
    rfl
  · cases h
structure Cls (K : PySem.W.Frag) (mg : Str -> Option Value) : Prop where
  e_BadRules : ∃ C, ErrC K "BadRules" C
  ve : mg "ValueError" = none
  ex : ∃ CS CT c1 c2 c3 c4 c5 c6 c7 c8 c9 : Addr, mg "SetError" = some (.ref CS) /\ ErrC K "BadRules" CT /\ ErrI K CT /\ mg "BadRules" = some (.ref CT) /\ PySem.W.kitOne K (.ref CT) (.type "ValueError") = some true /\ PySem.W.exmOne K (.ref CT) (.ref CS) = some true /\ (mg "BadBlocks" = some (.ref c1) /\ PySem.W.kitOne K (.ref CT) (.ref c1) = some false) /\ (mg "BadBook" = some (.ref c2) /\ PySem.W.kitOne K (.ref CT) (.ref c2) = some false) /\ (mg "BadBreaks" = some (.ref c3) /\ PySem.W.kitOne K (.ref CT) (.ref c3) = some false) /\ (mg "BadFace" = some (.ref c4) /\ PySem.W.kitOne K (.ref CT) (.ref c4) = some false) /\ (mg "BadText" = some (.ref c5) /\ PySem.W.kitOne K (.ref CT) (.ref c5) = some false) /\ (mg "BadWord" = some (.ref c6) /\ PySem.W.kitOne K (.ref CT) (.ref c6) = some false) /\ (mg "NoNote" = some (.ref c7) /\ PySem.W.kitOne K (.ref CT) (.ref c7) = some false) /\ (mg "NoPlace" = some (.ref c8) /\ PySem.W.kitOne K (.ref CT) (.ref c8) = some false) /\ (mg "TooWide" = some (.ref c9) /\ PySem.W.kitOne K (.ref CT) (.ref c9) = some false)
noncomputable def t_is_whole : Tn -> R Fl := (sRet (eAnd (eUn (isiD "int") (eVar 0)) (eNot (eUn (isiD "bool") (eVar 0)))))
noncomputable def F_is_whole : List D -> R D := runB 1 t_is_whole
theorem sc_is_whole : FnScope ["thing"] ["thing"] (defScope (top 13)) := ⟨rfl, rfl, rfl, by decide +kernel, rfl, by decide +kernel, by decide +kernel⟩
theorem ok_is_whole (Df : DefIn K mg "is_whole" (top 13) ["thing"]) (B : Bl mg) (G : Gl0 K mg) (Cl : Cls K mg)  : Own P w K mg base "is_whole" 1 ["thing"] (spM K F_is_whole 1) :=
  Df.mir (k := 0) (Γ' := [.shr]) sc_is_whole (by decide) fun f cdv A outer s H E hr => (mss_one (ms_ret (mv_fresh (me_and (me_isi (T := "int") (by decide) rfl B.isinstance (pe_bltn (v := .ty "int") rfl B.int Boot.«int» rfl) (mn 0 .shr)) (me_one (me_not (me_isi (T := "bool") (by decide) rfl B.isinstance (pe_bltn (v := .ty "bool") rfl B.bool Boot.«bool» rfl) (mn 0 .shr))))))))
noncomputable def t_is_within : Tn -> R Fl := (sRet (eAnd (eL F_is_whole (aCons (eVar 0) aNil)) (eChain leD leD (eVar 1) (eVar 0) (eVar 2))))
noncomputable def F_is_within : List D -> R D := runB 3 t_is_within
theorem sc_is_within : FnScope ["thing", "least", "most"] ["thing", "least", "most"] (defScope (top 14)) := ⟨rfl, rfl, rfl, by decide +kernel, rfl, by decide +kernel, by decide +kernel⟩
theorem ok_is_within (Df : DefIn K mg "is_within" (top 14) ["thing", "least", "most"]) (B : Bl mg) (G : Gl0 K mg) (Cl : Cls K mg) (O_is_whole : Own P w K mg base "is_whole" 1 ["thing"] (spM K F_is_whole 1)) : Own P w K mg base "is_within" 2 ["thing", "least", "most"] (spM K F_is_within 3) :=
  Df.mir (k := 1) (Γ' := [.shr, .shr, .shr]) sc_is_within (by decide) fun f cdv A outer s H E hr => (mss_one (ms_ret (mv_fresh (me_and (me_call (O_is_whole.mono (by decide)) hr (by exact rfl) passes_cxx (ma_cons (mn 0 .shr) ma_nil)) (me_one (me_chain op_le B_le N_int op_le B_le N_int (mn 1 .shr) (mn 0 .shr) (mn 2 .shr)))))))
noncomputable def t_are_rules : Tn -> R Fl := (sSeq (sIf (bOr (bNot (eTest (eUn (isiD "dict") (eVar 0)))) (eTest (eBin (eqR true) (eL lenD (aCons (eVar 0) aNil)) (eL lenD (aCons (eC g_BOUNDS) aNil))))) (sRet (eC (.bl false))) sSkip) (sSeq (sFor (iSeq (eC g_BOUNDS)) (.many [1, 2, 3]) (sIf (bOr (eTest (eBin notKD (eVar 1) (eVar 0))) (bNot (eTest (eL F_is_within (aCons (eBin ixD (eVar 0) (eVar 1)) (aCons (eVar 2) (aCons (eVar 3) aNil))))))) (sRet (eC (.bl false))) sSkip)) (sRet (eC (.bl true)))))
noncomputable def F_are_rules : List D -> R D := runB 4 t_are_rules
theorem sc_are_rules : FnScope ["thing", "key", "least", "most"] ["thing"] (defScope (top 17)) := ⟨rfl, rfl, rfl, by decide +kernel, rfl, by decide +kernel, by decide +kernel⟩
theorem ok_are_rules (Df : DefIn K mg "are_rules" (top 17) ["thing"]) (B : Bl mg) (G : Gl0 K mg) (Cl : Cls K mg) (O_is_within : Own P w K mg base "is_within" 2 ["thing", "least", "most"] (spM K F_is_within 3)) : Own P w K mg base "are_rules" 3 ["thing"] (spM K F_are_rules 1) :=
  Df.mir (k := 2) (Γ' := [.shr, .dead, .dead, .dead]) sc_are_rules (by decide) fun f cdv A outer s H E hr => (mss_cons (ms_if (MW.mt (mw_or (mt_not (mt_val (me_isi (T := "dict") (by decide) rfl B.isinstance (pe_bltn (v := .ty "dict") rfl B.dict Boot.«dict» rfl) (mn 0 .shr)))) (mw_or1 (mt_cmp (op_neAll hr.u12) B_eq N_eq (me_callB call_lenA B_len N_len (by exact rfl) B.len PySem.boot_len (ma_cons (mn 0 .shr) ma_nil)) (me_callB call_lenA B_len N_len (by exact rfl) B.len PySem.boot_len (ma_cons (me_globT G.BOUNDS) ma_nil)) (nomark _))))) (mss_one (ms_ret (mv_fresh me_bl))) mss_nil) (mss_cons (ms_for (Γ2 := [.shr, .shr, .shr, .shr]) PassesOwn.leaving rfl (mi_seq (me_globT G.BOUNDS)) (by decide) (mg_many rfl (mgs_cons (pgn 1 sc_are_rules.nd) (mgs_cons (pgn 2 sc_are_rules.nd) (mgs_cons (pgn 3 sc_are_rules.nd) mgs_nil)))) (by decide) (mss_one (ms_if (MW.mt (mw_or (mt_cmp (op_notInK hr.u1) B_notK N_notK (mn 1 .shr) (mn 0 .shr) (by exact rfl)) (mw_or1 (mt_not (mt_val (me_call (O_is_within.mono (by decide)) hr (by exact rfl) passes_cxx (ma_cons (me_ix hr.u1 (mn 0 .shr) (mn 1 .shr)) (ma_cons (mn 2 .shr) (ma_cons (mn 3 .shr) ma_nil))))))))) (mss_one (ms_ret (mv_fresh me_bl))) mss_nil)) rfl) (mss_one (ms_ret (mv_fresh me_bl)))))
noncomputable def t_need_rules : Tn -> R Fl := (sSeq (sIf (bNot (eTest (eL F_are_rules (aCons (eVar 0) aNil)))) (sErr "BadRules" (aCons (eC (.str "rules are a dict of ten keys, each with a whole number within its bounds")) aNil)) sSkip) (sRet (eC (.bl true))))
noncomputable def F_need_rules : List D -> R D := runB 1 t_need_rules
theorem sc_need_rules : FnScope ["rules"] ["rules"] (defScope (top 18)) := ⟨rfl, rfl, rfl, by decide +kernel, rfl, by decide +kernel, by decide +kernel⟩
theorem ok_need_rules (Df : DefIn K mg "need_rules" (top 18) ["rules"]) (B : Bl mg) (G : Gl0 K mg) (Cl : Cls K mg) (O_are_rules : Own P w K mg base "are_rules" 3 ["thing"] (spM K F_are_rules 1)) : Own P w K mg base "need_rules" 4 ["rules"] (spM K F_need_rules 1) :=
  Df.mir (k := 3) (Γ' := [.shr]) sc_need_rules (by decide) fun f cdv A outer s H E hr => (mss_cons (ms_if (mt_not (mt_val (me_call (O_are_rules.mono (by decide)) hr (by exact rfl) passes_cxx (ma_cons (mn 0 .shr) ma_nil)))) (mss_one (ms_raiseE Cl.e_BadRules rfl (ma_cons me_str ma_nil))) mss_nil) (mss_one (ms_ret (mv_fresh me_bl))))
noncomputable def t__law_cell_at : Tn -> R Fl := (sSeq (sIf (eTest (eBin ltD (eVar 1) (eL lenD (aCons (eVar 0) aNil)))) (sRet (eImm (eBin ixD (eVar 0) (eVar 1)))) sSkip) (sRet (eC (.int 0))))
noncomputable def F__law_cell_at : List D -> R D := runB 2 t__law_cell_at
theorem sc__law_cell_at : FnScope ["_law_script", "_law_k"] ["_law_script", "_law_k"] (defScope (top 20)) := ⟨rfl, rfl, rfl, by decide +kernel, rfl, by decide +kernel, by decide +kernel⟩
theorem ok__law_cell_at (Df : DefIn K mg "_law_cell_at" (top 20) ["_law_script", "_law_k"]) (B : Bl mg) (G : Gl0 K mg) (Cl : Cls K mg)  : Own P w K mg base "_law_cell_at" 1 ["_law_script", "_law_k"] (spM K F__law_cell_at 2) :=
  Df.mir (k := 0) (Γ' := [.shr, .shr]) sc__law_cell_at (by decide) fun f cdv A outer s H E hr => (mss_cons (ms_if (mt_cmp op_lt B_lt N_int (mn 1 .shr) (me_callB call_lenA B_len N_len (by exact rfl) B.len PySem.boot_len (ma_cons (mn 0 .shr) ma_nil)) (nomark _)) (mss_one (ms_ret (mv_fresh (me_imm (me_ix hr.u1 (mn 0 .shr) (mn 1 .shr)))))) mss_nil) (mss_one (ms_ret (mv_fresh me_int))))
noncomputable def t__law_bounds : Tn -> R Fl := (sSeq (sSet 0 (eL (fun ds => .ok (.lst ds)) (aCons (eL (fun ds => .ok (.tup ds)) (aCons (eC (.str "width")) (aCons (eC (.int 4)) (aCons (eC (.int 2000)) aNil)))) (aCons (eL (fun ds => .ok (.tup ds)) (aCons (eC (.str "height")) (aCons (eC (.int 2)) (aCons (eC (.int 200)) aNil)))) (aCons (eL (fun ds => .ok (.tup ds)) (aCons (eC (.str "part")) (aCons (eC (.int 0)) (aCons (eC (.int 100000)) aNil)))) (aCons (eL (fun ds => .ok (.tup ds)) (aCons (eC (.str "twin")) (aCons (eC (.int 0)) (aCons (eC (.int 100000)) aNil)))) (aCons (eL (fun ds => .ok (.tup ds)) (aCons (eC (.str "over")) (aCons (eC (.int 1)) (aCons (eC (.int 100000)) aNil)))) aNil))))))) (sRet (eBin addD (eVar 0) (eL (fun ds => .ok (.lst ds)) (aCons (eL (fun ds => .ok (.tup ds)) (aCons (eC (.str "lone")) (aCons (eC (.int 0)) (aCons (eC (.int 100000)) aNil)))) (aCons (eL (fun ds => .ok (.tup ds)) (aCons (eC (.str "late")) (aCons (eC (.int 0)) (aCons (eC (.int 100000)) aNil)))) (aCons (eL (fun ds => .ok (.tup ds)) (aCons (eC (.str "gap")) (aCons (eC (.int 0)) (aCons (eC (.int 5)) aNil)))) (aCons (eL (fun ds => .ok (.tup ds)) (aCons (eC (.str "ahead")) (aCons (eC (.int 1)) (aCons (eC (.int 6)) aNil)))) (aCons (eL (fun ds => .ok (.tup ds)) (aCons (eC (.str "behind")) (aCons (eC (.int 1)) (aCons (eC (.int 6)) aNil)))) aNil)))))))))
noncomputable def F__law_bounds : List D -> R D := runB 1 t__law_bounds
theorem sc__law_bounds : FnScope ["_law_some"] [] (defScope (top 21)) := ⟨rfl, rfl, rfl, by decide +kernel, rfl, by decide +kernel, by decide +kernel⟩
theorem ok__law_bounds (Df : DefIn K mg "_law_bounds" (top 21) []) (B : Bl mg) (G : Gl0 K mg) (Cl : Cls K mg)  : Own P w K mg base "_law_bounds" 1 [] (spM K F__law_bounds 0) :=
  Df.mir (k := 0) (Γ' := [.dead]) sc__law_bounds (by decide) fun f cdv A outer s H E hr => (mss_cons (L2.st 0 sc__law_bounds.nd (mv_fresh (me_lst (ma_cons (me_tup (ma_cons me_str (ma_cons me_int (ma_cons me_int ma_nil)))) (ma_cons (me_tup (ma_cons me_str (ma_cons me_int (ma_cons me_int ma_nil)))) (ma_cons (me_tup (ma_cons me_str (ma_cons me_int (ma_cons me_int ma_nil)))) (ma_cons (me_tup (ma_cons me_str (ma_cons me_int (ma_cons me_int ma_nil)))) (ma_cons (me_tup (ma_cons me_str (ma_cons me_int (ma_cons me_int ma_nil)))) ma_nil)))))))) (mss_one (ms_ret (mv_fresh (me_op op_addA B_add N_add (mn 0 .own) (me_lst (ma_cons (me_tup (ma_cons me_str (ma_cons me_int (ma_cons me_int ma_nil)))) (ma_cons (me_tup (ma_cons me_str (ma_cons me_int (ma_cons me_int ma_nil)))) (ma_cons (me_tup (ma_cons me_str (ma_cons me_int (ma_cons me_int ma_nil)))) (ma_cons (me_tup (ma_cons me_str (ma_cons me_int (ma_cons me_int ma_nil)))) (ma_cons (me_tup (ma_cons me_str (ma_cons me_int (ma_cons me_int ma_nil)))) ma_nil)))))))))))
noncomputable def t__law_rules : Tn -> R Fl := (sSeq (sSet 1 (eC (.dic [] []))) (sSeq (sFor (iL enumL (aCons (fun _ => F__law_bounds []) aNil)) (.many [2, 3]) (sSeq (sAsg (.many [4, 5, 6]) (eVar 3)) (sSeq (sSet 7 (eL F__law_cell_at (aCons (eVar 0) (aCons (eBin addD (eC (.int 3)) (eVar 2)) aNil)))) (sSeq (sKPut 1 (eBin addD (eVar 5) (eBin modD (eBin fdivD (eVar 7) (eC (.int 4))) (eBin addD (eBin subD (eVar 6) (eVar 5)) (eC (.int 1))))) (eVar 4)) (sSeq (sIf (eTest (eBin (eqR false) (eBin modD (eVar 7) (eC (.int 4))) (eC (.int 1)))) (sKPut 1 (eImm (eVar 5)) (eVar 4)) sSkip) (sIf (eTest (eBin (eqR false) (eBin modD (eVar 7) (eC (.int 4))) (eC (.int 2)))) (sKPut 1 (eImm (eVar 6)) (eVar 4)) sSkip)))))) (sRet (eVar 1))))
noncomputable def F__law_rules : List D -> R D := runB 8 t__law_rules
theorem sc__law_rules : FnScope ["_law_script", "_law_rules_here", "_law_k", "_law_bound", "_law_name", "_law_least", "_law_most", "_law_cell"] ["_law_script"] (defScope (top 22)) := ⟨rfl, rfl, rfl, by decide +kernel, rfl, by decide +kernel, by decide +kernel⟩
theorem ok__law_rules (Df : DefIn K mg "_law_rules" (top 22) ["_law_script"]) (B : Bl mg) (G : Gl0 K mg) (Cl : Cls K mg) (O__law_bounds : Own P w K mg base "_law_bounds" 1 [] (spM K F__law_bounds 0)) (O__law_cell_at : Own P w K mg base "_law_cell_at" 1 ["_law_script", "_law_k"] (spM K F__law_cell_at 2)) : Own P w K mg base "_law_rules" 2 ["_law_script"] (spM K F__law_rules 1) :=
  Df.mir (k := 1) (Γ' := [.shr, .dead, .dead, .dead, .dead, .dead, .dead, .dead]) sc__law_rules (by decide) fun f cdv A outer s H E hr => (mss_cons (L2.st 1 sc__law_rules.nd (mv_fresh me_disp0)) (mss_cons (ms_for (Γ2 := [.shr, .own, .shr, .shr, .shr, .shr, .shr, .own]) PassesOwn.leaving rfl (mi_enum rfl B.enumerate (ma_cons (me_call0 (O__law_bounds.mono (by decide)) hr rfl passes_cxx) ma_nil)) (by decide) (mg_many rfl (mgs_cons (pgn 2 sc__law_rules.nd) (mgs_cons (pgn 3 sc__law_rules.nd) mgs_nil))) (by decide) (mss_cons (ms_asg (mn 3 .shr) (by decide) (mg_many rfl (mgs_cons (pgn 4 sc__law_rules.nd) (mgs_cons (pgn 5 sc__law_rules.nd) (mgs_cons (pgn 6 sc__law_rules.nd) mgs_nil)))) (by decide)) (mss_cons (L2.st 7 sc__law_rules.nd (mv_fresh (me_call (O__law_cell_at.mono (by decide)) hr (by exact rfl) passes_cxx (ma_cons (mn 0 .shr) (ma_cons (me_op op_addA B_add N_add me_int (mn 2 .shr)) ma_nil))))) (mss_cons (kput 1 hr.u1 (mv_fresh (me_op op_addA B_add N_add (mn 5 .shr) (me_op op_mod B_mod N_int (me_op op_fdiv B_fdiv N_int (mn 7 .own) me_int) (me_op op_addA B_add N_add (me_op op_sub B_sub N_int (mn 6 .shr) (mn 5 .shr)) me_int)))) (mn 4 .shr)) (mss_cons (ms_if (mt_cmp (op_eqAll hr.u12) B_eq N_eq (me_op op_mod B_mod N_int (mn 7 .own) me_int) me_int (nomark _)) (mss_one (kput 1 hr.u1 (mv_fresh (me_imm (mn 5 .shr))) (mn 4 .shr))) mss_nil) (mss_one (ms_if (mt_cmp (op_eqAll hr.u12) B_eq N_eq (me_op op_mod B_mod N_int (mn 7 .own) me_int) me_int (nomark _)) (mss_one (kput 1 hr.u1 (mv_fresh (me_imm (mn 6 .shr))) (mn 4 .shr))) mss_nil)))))) rfl) (mss_one (ms_ret (mvn 1)))))
noncomputable def t__law_spoilt : Tn -> R Fl := (sSeq (sAsg (.many [2, 3, 4]) (eBin ixD (fun _ => F__law_bounds []) (eBin modD (eVar 1) (eC (.int 10))))) (sSeq (sSet 5 (eBin fdivD (eVar 1) (eC (.int 10)))) (sSeq (sSet 6 (eBin modD (eBin fdivD (eVar 5) (eC (.int 9))) (eBin powD (eC (.int 10)) (eC (.int 20))))) (sSeq (sSet 7 (eL dictAD (aCons (eVar 0) aNil))) (sSeq (sIf (eTest (eBin (eqR false) (eBin modD (eVar 5) (eC (.int 9))) (eC (.int 0)))) (sKPop 7 (eVar 2)) (sIf (eTest (eBin (eqR false) (eBin modD (eVar 5) (eC (.int 9))) (eC (.int 1)))) (sPopPut 7 (eVar 2) (eBin ixD (eL (fun ds => .ok (.lst ds)) (aCons (eBin addD (eVar 2) (eC (.str "s"))) (aCons (eSl (eVar 2) oNone (oSome (eUn negD (eC (.int 1))))) (aCons (eSm0 upD (eVar 2)) (aCons (eC (.str "")) (aCons (eC (.str "other")) (aCons (eC (.int 5)) (aCons (eC .non) aNil)))))))) (eBin modD (eBin fdivD (eVar 5) (eC (.int 9))) (eC (.int 7))))) (sIf (eTest (eBin (eqR false) (eBin modD (eVar 5) (eC (.int 9))) (eC (.int 2)))) (sKPut 7 (eImm (eVar 3)) (eBin ixD (eL (fun ds => .ok (.lst ds)) (aCons (eBin addD (eVar 2) (eC (.str "s"))) (aCons (eSl (eVar 2) oNone (oSome (eUn negD (eC (.int 1))))) (aCons (eSm0 upD (eVar 2)) (aCons (eC (.str "")) (aCons (eC (.str "other")) (aCons (eC (.int 5)) (aCons (eC .non) aNil)))))))) (eBin modD (eBin fdivD (eVar 5) (eC (.int 9))) (eC (.int 7))))) (sSeq (sSet 8 (eL (fun ds => .ok (.lst ds)) (aCons (eBin subD (eVar 3) (eC (.int 1))) (aCons (eBin addD (eVar 4) (eC (.int 1))) (aCons (eBin subD (eBin subD (eVar 3) (eC (.int 1))) (eVar 6)) (aCons (eBin addD (eBin addD (eVar 4) (eC (.int 1))) (eVar 6)) (aCons (eBin ixD (eL (fun ds => .ok (.lst ds)) (aCons (eC (.bl true)) (aCons (eC (.bl false)) aNil))) (eBin modD (eBin fdivD (eVar 5) (eC (.int 9))) (eC (.int 2)))) aNil))))))) (sKPut 7 (eBin ixD (eBin addD (eVar 8) (eL (fun ds => .ok (.lst ds)) (aCons (eBin ixD (eL (fun ds => .ok (.lst ds)) (aCons (eC .non) (aCons (eL str1D (aCons (eVar 3) aNil)) (aCons (eL frzD (aCons (eVar 3) aNil)) (aCons (eL (fun ds => .ok (.tup ds)) (aCons (eVar 3) aNil)) aNil))))) (eBin modD (eBin fdivD (eVar 5) (eC (.int 9))) (eC (.int 4)))) aNil))) (eBin subD (eBin modD (eVar 5) (eC (.int 9))) (eC (.int 3)))) (eVar 2)))))) (sRet (eVar 7)))))))
noncomputable def F__law_spoilt : List D -> R D := runB 9 t__law_spoilt
theorem sc__law_spoilt : FnScope ["_law_rules_here", "_law_cell", "_law_name", "_law_least", "_law_most", "_law_more", "_law_far", "_law_found", "_law_some"] ["_law_rules_here", "_law_cell"] (defScope (top 23)) := ⟨rfl, rfl, rfl, by decide +kernel, rfl, by decide +kernel, by decide +kernel⟩
theorem ok__law_spoilt (Df : DefIn K mg "_law_spoilt" (top 23) ["_law_rules_here", "_law_cell"]) (B : Bl mg) (G : Gl0 K mg) (Cl : Cls K mg) (O__law_bounds : Own P w K mg base "_law_bounds" 1 [] (spM K F__law_bounds 0)) : Own P w K mg base "_law_spoilt" 2 ["_law_rules_here", "_law_cell"] (spM K F__law_spoilt 2) :=
  Df.mir (k := 1) (Γ' := [.shr, .shr, .dead, .dead, .dead, .dead, .dead, .dead, .dead]) sc__law_spoilt (by decide) fun f cdv A outer s H E hr => (mss_cons (ms_asg (me_ix hr.u1 (me_call0 (O__law_bounds.mono (by decide)) hr rfl passes_cxx) (me_op op_mod B_mod N_int (mn 1 .shr) me_int)) (by decide) (mg_many rfl (mgs_cons (pgn 2 sc__law_spoilt.nd) (mgs_cons (pgn 3 sc__law_spoilt.nd) (mgs_cons (pgn 4 sc__law_spoilt.nd) mgs_nil)))) (by decide)) (mss_cons (L2.st 5 sc__law_spoilt.nd (mv_fresh (me_op op_fdiv B_fdiv N_int (mn 1 .shr) me_int))) (mss_cons (L2.st 6 sc__law_spoilt.nd (mv_fresh (me_op op_mod B_mod N_int (me_op op_fdiv B_fdiv N_int (mn 5 .own) me_int) (me_op op_pow10 B_pow N_pow me_int me_int)))) (mss_cons (L2.st 7 sc__law_spoilt.nd (mv_fresh (me_callTy (call_dictA (by exact rfl)) B_dictA N_dictA (by exact rfl) B.dict Boot.«dict» (ma_cons (mn 0 .shr) ma_nil)))) (mss_cons (ms_if (mt_cmp (op_eqAll hr.u12) B_eq N_eq (me_op op_mod B_mod N_int (mn 5 .own) me_int) me_int (nomark _)) (mss_one (kpop 7 (mn 2 .shr))) (mss_one (ms_if (mt_cmp (op_eqAll hr.u12) B_eq N_eq (me_op op_mod B_mod N_int (mn 5 .own) me_int) me_int (nomark _)) (mss_one (popput 7 hr.u1 (mn 2 .shr) (me_ix hr.u1 (me_lst (ma_cons (me_op op_addA B_add N_add (mn 2 .shr) me_str) (ma_cons (me_sl (mn 2 .shr) mo_none (mo_some (me_neg me_int))) (ma_cons (me_upper (mn 2 .shr)) (ma_cons me_str (ma_cons me_str (ma_cons me_int (ma_cons me_non ma_nil)))))))) (me_op op_mod B_mod N_int (me_op op_fdiv B_fdiv N_int (mn 5 .own) me_int) me_int)))) (mss_one (ms_if (mt_cmp (op_eqAll hr.u12) B_eq N_eq (me_op op_mod B_mod N_int (mn 5 .own) me_int) me_int (nomark _)) (mss_one (kput 7 hr.u1 (mv_fresh (me_imm (mn 3 .shr))) (me_ix hr.u1 (me_lst (ma_cons (me_op op_addA B_add N_add (mn 2 .shr) me_str) (ma_cons (me_sl (mn 2 .shr) mo_none (mo_some (me_neg me_int))) (ma_cons (me_upper (mn 2 .shr)) (ma_cons me_str (ma_cons me_str (ma_cons me_int (ma_cons me_non ma_nil)))))))) (me_op op_mod B_mod N_int (me_op op_fdiv B_fdiv N_int (mn 5 .own) me_int) me_int)))) (mss_weak (Γ' := [.shr, .shr, .shr, .shr, .shr, .own, .own, .own, .dead]) (mss_cons (L2.st 8 sc__law_spoilt.nd (mv_fresh (me_lst (ma_cons (me_op op_sub B_sub N_int (mn 3 .shr) me_int) (ma_cons (me_op op_addA B_add N_add (mn 4 .shr) me_int) (ma_cons (me_op op_sub B_sub N_int (me_op op_sub B_sub N_int (mn 3 .shr) me_int) (mn 6 .own)) (ma_cons (me_op op_addA B_add N_add (me_op op_addA B_add N_add (mn 4 .shr) me_int) (mn 6 .own)) (ma_cons (me_ix hr.u1 (me_lst (ma_cons me_bl (ma_cons me_bl ma_nil))) (me_op op_mod B_mod N_int (me_op op_fdiv B_fdiv N_int (mn 5 .own) me_int) me_int)) ma_nil)))))))) (mss_one (kput 7 hr.u1 (mv_fresh (me_ix hr.u1 (me_op op_addA B_add N_add (mn 8 .own) (me_lst (ma_cons (me_ix hr.u1 (me_lst (ma_cons me_non (ma_cons (me_callTy call_str_int B_str1 N_str1 (by exact rfl) B.str Boot.«str» (ma_cons (mn 3 .shr) ma_nil)) (ma_cons (me_lstF (ma_cons (mn 3 .shr) ma_nil)) (ma_cons (me_tup (ma_cons (mn 3 .shr) ma_nil)) ma_nil))))) (me_op op_mod B_mod N_int (me_op op_fdiv B_fdiv N_int (mn 5 .own) me_int) me_int)) ma_nil))) (me_op op_sub B_sub N_int (me_op op_mod B_mod N_int (mn 5 .own) me_int) me_int))) (mn 2 .shr)))) rfl)))))) (mss_one (ms_ret (mvn 7))))))))
theorem nd__law_refused : (["_law_rules_here", "e", "_law_some"] : List Str).Nodup := by decide +kernel
noncomputable def g__law_refused : Str -> Option D := fun m => if m = "BadRules" then some (.bl true) else none
noncomputable def sts__law_refused : List Stmt := match defBody (top 24) with
  | .Try _ [.ExceptHandler _ _ b _] _ _ _ :: _ => b
  | _ => []
noncomputable abbrev cxR (P : Program) (w : World) (K : PySem.W.Frag) (mg : Str -> Option Value) (base : Heap) (f : Addr) (cdv : Value) (A : Around) (outer : List Env) (s : Shared) (H : Hp) (E : XK) : Cx := cxOf (cxx P w) P w K mg base ["_law_rules_here", "e", "_law_some"] "_law_refused" (defScope (top 24)) f cdv A outer s H E
theorem tl4 {A1 A2 A3 A4 : TE} {σ : L2.St} {H : Hp} {Q : VK} (h1 : ∀ Q : VK, Q (.bl false) H -> A1 σ H Q) (h2 : ∀ Q : VK, Q (.bl false) H -> A2 σ H Q) (h3 : ∀ Q : VK, Q (.bl false) H -> A3 σ H Q) (h4 : ∀ Q : VK, Q (.bl false) H -> A4 σ H Q)
    (h : ∀ p H', Same H H' -> H' p = some (.lst [.bl false, .bl false, .bl false, .bl false]) -> Q (.ref p) H') : tLst (tCons A1 (tCons A2 (tCons A3 (tCons A4 tNil)))) σ H Q :=
  h1 _ (h2 _ (h3 _ (h4 _ ⟨by show 4 <= sizeLine; decide, fun p hp => h p _ (Same.new hp) upd_same⟩)))
theorem suite__law_refused (Cl : Cls K mg) (B : Bl mg) (f : Addr) (cdv : Value) (A : Around) (outer : List Env) (s : Shared) (H : Hp) (E : XK) :
    ∃ CS, (cxR P w K mg base f cdv A outer s H E).mg "SetError" = some (.ref CS) /\ Suite (cxR P w K mg base f cdv A outer s H E) CS 1 sts__law_refused g__law_refused := by
  obtain ⟨CS, CT, c1, c2, c3, c4, c5, c6, c7, c8, c9, hS, eT, iT, mT, kV, xS, ⟨m1, k1⟩, ⟨m2, k2⟩, ⟨m3, k3⟩, ⟨m4, k4⟩, ⟨m5, k5⟩, ⟨m6, k6⟩, ⟨m7, k7⟩, ⟨m8, k8⟩, ⟨m9, k9⟩⟩ := Cl.ex
  refine ⟨CS, hS, fun m d hg C hC => ?_⟩
  have hm : m = "BadRules" /\ d = .bl true := by
    unfold g__law_refused at hg
    split at hg
    · exact ⟨by assumption, (Option.some.inj hg).symm⟩
    · cases hg
  obtain ⟨rfl, rfl⟩ := hm
  have hCT : C = CT := by
    have h1 : PySem.W.nsIn K mainGlobals "BadRules" = some (some (.ref C)) := hC.ns
    rw [eT.ns] at h1
    cases h1
    rfl
  subst hCT
  refine ⟨xS, _, fun e oe =>
    pss_cons (ps_set (i := 2) nd__law_refused rfl (Or.inl rfl) (pe_lst (pa_cons (pe_isi rfl B.isinstance (pv 1) (pe_glob (v := .ref c1) rfl m1 rfl)) (pa_cons (pe_isi rfl B.isinstance (pv 1) (pe_glob (v := .ref c2) rfl m2 rfl)) (pa_cons (pe_isi rfl B.isinstance (pv 1) (pe_glob (v := .ref c3) rfl m3 rfl)) (pa_cons (pe_isi rfl B.isinstance (pv 1) (pe_glob (v := .ref c4) rfl m4 rfl)) pa_nil))))))
    (pss_cons (ps_set (i := 2) nd__law_refused rfl (Or.inl rfl) (pe_op op_cat (pv 2) (pe_lst (pa_cons (pe_isi rfl B.isinstance (pv 1) (pe_glob (v := .ref c5) rfl m5 rfl)) (pa_cons (pe_isi rfl B.isinstance (pv 1) (pe_glob (v := .ref c6) rfl m6 rfl)) (pa_cons (pe_isi rfl B.isinstance (pv 1) (pe_glob (v := .ref c7) rfl m7 rfl)) (pa_cons (pe_isi rfl B.isinstance (pv 1) (pe_glob (v := .ref c8) rfl m8 rfl)) pa_nil)))))))
    (pss_one (ps_ret (pe_and (pe_isi rfl B.isinstance (pv 1) (pe_glob (v := .ref C) rfl mT rfl)) (pe_and (pe_isi rfl B.isinstance (pv 1) (pe_bltn (v := .ty "ValueError") rfl Cl.ve Boot.«ValueError» rfl)) (pe_and (pe_cmpR op_notIn_seq pe_bl (pv 2) rfl) (pe_one (pe_not (pe_isi rfl B.isinstance (pv 1) (pe_glob (v := .ref c9) rfl m9 rfl)))))))))), fun e oe Z σ H1 hl hcls hn hσ hQ => ?_⟩
  have hl3 : 2 < σ.length := by rw [hl]; show 2 < 3; decide
  have q3 : PySem.W.kitOne K (.ref C) (.ref C) = some true := by unfold PySem.W.kitOne; rw [if_pos (by simp)]
  have mem : (e, oe) ∈ ((cxR P w K mg base f cdv A outer s H E).within e oe).pn := List.mem_append_right _ (List.mem_singleton.mpr rfl)
  refine seq_set (tl4 (fun Q h => isi_of mem hcls iT (.ref _) k1 hσ h) (fun Q h => isi_of mem hcls iT (.ref _) k2 hσ h) (fun Q h => isi_of mem hcls iT (.ref _) k3 hσ h) (fun Q h => isi_of mem hcls iT (.ref _) k4 hσ h) fun p1 H2 s2 g2 => ?_)
  have hσ : (σ.set 2 (some (.ref p1)))[1]? = some (some (.ref e)) := by rw [List.getElem?_set_ne (by decide)]; exact hσ
  refine seq_set (tcat (by rw [List.getElem?_set_self hl3]) g2 (by decide) (fun Q h => tl4 (fun Q h => isi_of mem hcls iT (.ref _) k5 hσ h) (fun Q h => isi_of mem hcls iT (.ref _) k6 hσ h) (fun Q h => isi_of mem hcls iT (.ref _) k7 hσ h) (fun Q h => isi_of mem hcls iT (.ref _) k8 hσ h) h) fun p2 H3 s3 g3 => ?_)
  have hσ : ((σ.set 2 (some (.ref p1))).set 2 (some (.ref p2)))[1]? = some (some (.ref e)) := by rw [List.getElem?_set_ne (by decide)]; exact hσ
  refine ret_of (tand (fun Q h => isi_of mem hcls iT (.ref _) q3 hσ h) (tand (fun Q h => isi_of mem hcls iT (.ty _) kV hσ h) (tand (fun Q h => tnot (by rw [List.getElem?_set_self (by rw [List.length_set]; exact hl3)]) g3 rfl rfl h) (isi_of mem hcls iT (.ref _) k9 hσ ⟨false, rfl, hQ _ _ (s2.trans s3) ⟨rfl, rfl⟩⟩))))
noncomputable def t__law_refused : Tn -> R Fl := (sSeq (sTryE F_need_rules (aCons (eVar 0) aNil) g__law_refused) (sRet (eC (.bl false))))
noncomputable def F__law_refused : List D -> R D := runB 3 t__law_refused
theorem sc__law_refused : FnScope ["_law_rules_here", "e", "_law_some"] ["_law_rules_here"] (defScope (top 24)) := ⟨rfl, rfl, rfl, by decide +kernel, rfl, by decide +kernel, by decide +kernel⟩
theorem ok__law_refused (Df : DefIn K mg "_law_refused" (top 24) ["_law_rules_here"]) (B : Bl mg) (G : Gl0 K mg) (Cl : Cls K mg) (O_need_rules : Own P w K mg base "need_rules" 4 ["rules"] (spM K F_need_rules 1)) : Own P w K mg base "_law_refused" 5 ["_law_rules_here"] (spM K F__law_refused 1) :=
  Df.mir (k := 4) (Γ' := [.shr, .dead, .dead]) sc__law_refused (by decide) fun f cdv A outer s H E hr => (mss_cons (ms_tryEC (O_need_rules.mono (by decide)) sc__law_refused.nd hr rfl (ma_cons (mn 0 .shr) ma_nil) rfl rfl rfl (show 1 < 3 by decide) rfl (suite__law_refused Cl B f cdv A outer s H E)) (mss_one (ms_ret (mv_fresh me_bl))))
noncomputable def t__law_all_bounds : Tn -> R Fl := (sSeq (sFor (iSeq (fun _ => F__law_bounds [])) (.many [1, 2, 3]) (sFor (iSeq (eL (fun ds => .ok (.lst ds)) (aCons (eBin subD (eVar 2) (eC (.int 1))) (aCons (eBin addD (eVar 3) (eC (.int 1))) aNil)))) (.one 4) (sSeq (sSet 5 (eL dictAD (aCons (eVar 0) aNil))) (sSeq (sKPut 5 (eImm (eVar 4)) (eVar 1)) (sIf (bNot (eTest (eL F__law_refused (aCons (eVar 5) aNil)))) (sRet (eC (.bl false))) sSkip))))) (sRet (eC (.bl true))))
noncomputable def F__law_all_bounds : List D -> R D := runB 6 t__law_all_bounds
theorem sc__law_all_bounds : FnScope ["_law_rules_here", "_law_name", "_law_least", "_law_most", "_law_number", "_law_found"] ["_law_rules_here"] (defScope (top 25)) := ⟨rfl, rfl, rfl, by decide +kernel, rfl, by decide +kernel, by decide +kernel⟩
theorem ok__law_all_bounds (Df : DefIn K mg "_law_all_bounds" (top 25) ["_law_rules_here"]) (B : Bl mg) (G : Gl0 K mg) (Cl : Cls K mg) (O__law_bounds : Own P w K mg base "_law_bounds" 1 [] (spM K F__law_bounds 0)) (O__law_refused : Own P w K mg base "_law_refused" 5 ["_law_rules_here"] (spM K F__law_refused 1)) : Own P w K mg base "_law_all_bounds" 6 ["_law_rules_here"] (spM K F__law_all_bounds 1) :=
  Df.mir (k := 5) (Γ' := [.shr, .dead, .dead, .dead, .dead, .dead]) sc__law_all_bounds (by decide) fun f cdv A outer s H E hr => (mss_cons (ms_for (Γ2 := [.shr, .shr, .shr, .shr, .dead, .dead]) PassesOwn.leaving rfl (mi_seq (me_call0 (O__law_bounds.mono (by decide)) hr rfl passes_cxx)) (by decide) (mg_many rfl (mgs_cons (pgn 1 sc__law_all_bounds.nd) (mgs_cons (pgn 2 sc__law_all_bounds.nd) (mgs_cons (pgn 3 sc__law_all_bounds.nd) mgs_nil)))) (by decide) (mss_one (ms_for (Γ2 := [.shr, .shr, .shr, .shr, .shr, .own]) PassesOwn.leaving rfl (mi_seq (me_lst (ma_cons (me_op op_sub B_sub N_int (mn 2 .shr) me_int) (ma_cons (me_op op_addA B_add N_add (mn 3 .shr) me_int) ma_nil)))) (by decide) (mg_one (pgn 4 sc__law_all_bounds.nd)) (by decide) (mss_cons (L2.st 5 sc__law_all_bounds.nd (mv_fresh (me_callTy (call_dictA (by exact rfl)) B_dictA N_dictA (by exact rfl) B.dict Boot.«dict» (ma_cons (mn 0 .shr) ma_nil)))) (mss_cons (kput 5 hr.u1 (mv_fresh (me_imm (mn 4 .shr))) (mn 1 .shr)) (mss_one (ms_if (mt_not (mt_val (me_call (O__law_refused.mono (by decide)) hr (by exact rfl) passes_cxx (ma_cons (mn 5 .own) ma_nil)))) (mss_one (ms_ret (mv_fresh me_bl))) mss_nil)))) rfl)) rfl) (mss_one (ms_ret (mv_fresh me_bl))))
noncomputable def t_law : Tn -> R Fl := (sSeq (sSet 1 (eL F__law_rules (aCons (eVar 0) aNil))) (sSeq (sIf (bNot (eTest (eL F__law_all_bounds (aCons (eVar 1) aNil)))) (sRet (eC (.bl false))) sSkip) (sSeq (sSet 2 (eBin modD (eL F__law_cell_at (aCons (eVar 0) (aCons (eC (.int 0)) aNil))) (eC (.int 8)))) (sSeq (sIf (eTest (eBin gtD (eVar 2) (eC (.int 5)))) (sSeq (sItems 3 1) (sRet (eL F__law_refused (aCons (eBin ixD (eVar 3) (eBin modD (eL F__law_cell_at (aCons (eVar 0) (aCons (eC (.int 1)) aNil))) (eC (.int 8)))) aNil)))) sSkip) (sSeq (sIf (eTest (eBin gtD (eVar 2) (eC (.int 1)))) (sSeq (sSet 1 (eL F__law_spoilt (aCons (eVar 1) (aCons (eL F__law_cell_at (aCons (eVar 0) (aCons (eC (.int 1)) aNil))) aNil)))) (sSeq (sSet 4 (eL dictAD (aCons (eVar 1) aNil))) (sRet (eAnd (eL F__law_refused (aCons (eVar 1) aNil)) (eBin eqKD (eVar 1) (eVar 4)))))) sSkip) (sSeq (sSet 4 (eL dictAD (aCons (eVar 1) aNil))) (sRet (eAnd (eBin (isB false) (eL F_need_rules (aCons (eVar 1) aNil)) (eC (.bl true))) (eBin eqKD (eVar 1) (eVar 4))))))))))
noncomputable def F_law : List D -> R D := runB 5 t_law
theorem sc_law : FnScope ["_law_script", "_law_rules_here", "_law_way", "_law_other", "_law_kept"] ["_law_script"] (defScope (top 26)) := ⟨rfl, rfl, rfl, by decide +kernel, rfl, by decide +kernel, by decide +kernel⟩
theorem body_law (B : Bl mg) (G : Gl0 K mg) (Cl : Cls K mg) (O__law_rules : Own P w K mg base "_law_rules" 2 ["_law_script"] (spM K F__law_rules 1)) (O__law_all_bounds : Own P w K mg base "_law_all_bounds" 6 ["_law_rules_here"] (spM K F__law_all_bounds 1)) (O__law_cell_at : Own P w K mg base "_law_cell_at" 1 ["_law_script", "_law_k"] (spM K F__law_cell_at 2)) (O__law_refused : Own P w K mg base "_law_refused" 5 ["_law_rules_here"] (spM K F__law_refused 1)) (O__law_spoilt : Own P w K mg base "_law_spoilt" 2 ["_law_rules_here", "_law_cell"] (spM K F__law_spoilt 2)) (O_need_rules : Own P w K mg base "need_rules" 4 ["rules"] (spM K F_need_rules 1)) : ∀ (f : Addr) (cdv : Value) (A : Around) (outer : List Env) (s : Shared) (H : Hp) (E : XK), Room 6 (A.deeper (envOfC "law" (defScope (top 26)) s.heap.objs.size f cdv)) -> MSs (cxOf (cxx P w) P w K mg base ["_law_script", "_law_rules_here", "_law_way", "_law_other", "_law_kept"] "law" (defScope (top 26)) f cdv A outer s H E) E [] (prmC 5 1) (defBody (top 26)) t_law [.shr, .dead, .dead, .dead, .dead] :=
  fun f cdv A outer s H E hr => (mss_cons (L2.st 1 sc_law.nd (mv_fresh (me_call (O__law_rules.mono (by decide)) hr (by exact rfl) passes_cxx (ma_cons (mn 0 .shr) ma_nil)))) (mss_cons (ms_if (mt_not (mt_val (me_call (O__law_all_bounds.mono (by decide)) hr (by exact rfl) passes_cxx (ma_cons (mn 1 .own) ma_nil)))) (mss_one (ms_ret (mv_fresh me_bl))) mss_nil) (mss_cons (L2.st 2 sc_law.nd (mv_fresh (me_op op_mod B_mod N_int (me_call (O__law_cell_at.mono (by decide)) hr (by exact rfl) passes_cxx (ma_cons (mn 0 .shr) (ma_cons me_int ma_nil))) me_int))) (mss_cons (ms_if (mt_cmp op_gt B_gt N_int (mn 2 .own) me_int (nomark _)) (mss_cons (ms_items 3 1 sc_law.nd (pe_comp (N' := ["_law_name", "_law_rules_here"]) (fr := [none, some 1]) rfl (cs_def sc_law.nofree (by decide +kernel)) (pi_keys (pv 1)) (fun _ _ _ _ => pgn 0 (show List.Nodup (["_law_name", "_law_rules_here"] : List Str) from by decide +kernel)) (fun _ _ _ _ => pts_nil) (fun _ _ _ _ => pe_tup (pa_cons (pv 0) (pa_cons (pe_dget hr.u1 (pv 1) (pv 0) (fun _ _ => rfl)) pa_nil)))) (pe_callTy (call_tupK rfl) rfl B.tuple Boot.«tuple» (pa_cons (pv 1) pa_nil)) (pe_callTy (call_lstK rfl) rfl B.list Boot.«list» (pa_cons (pv 1) pa_nil)) (fun _ => rfl) (fun _ => rfl) (fun _ => rfl)) (mss_one (ms_ret (mv_fresh (me_call (O__law_refused.mono (by decide)) hr (by exact rfl) passes_cxx (ma_cons (me_ix hr.u1 (mn 3 .own) (me_op op_mod B_mod N_int (me_call (O__law_cell_at.mono (by decide)) hr (by exact rfl) passes_cxx (ma_cons (mn 0 .shr) (ma_cons me_int ma_nil))) me_int)) ma_nil)))))) mss_nil) (mss_cons (ms_if (mt_cmp op_gt B_gt N_int (mn 2 .own) me_int (nomark _)) (mss_cons (L2.st 1 sc_law.nd (mv_fresh (me_call (O__law_spoilt.mono (by decide)) hr (by exact rfl) passes_cxx (ma_cons (mn 1 .own) (ma_cons (me_call (O__law_cell_at.mono (by decide)) hr (by exact rfl) passes_cxx (ma_cons (mn 0 .shr) (ma_cons me_int ma_nil))) ma_nil))))) (mss_cons (L2.st 4 sc_law.nd (mv_fresh (me_callTy (call_dictA (by exact rfl)) B_dictA N_dictA (by exact rfl) B.dict Boot.«dict» (ma_cons (mn 1 .own) ma_nil)))) (mss_one (ms_ret (mv_fresh (me_and (me_call (O__law_refused.mono (by decide)) hr (by exact rfl) passes_cxx (ma_cons (mn 1 .own) ma_nil)) (me_one (me_cmp (op_eqX hr.u12) B_eqX N_eqX (mn 1 .own) (mn 4 .own) (nomark _))))))))) mss_nil) (mss_cons (L2.st 4 sc_law.nd (mv_fresh (me_callTy (call_dictA (by exact rfl)) B_dictA N_dictA (by exact rfl) B.dict Boot.«dict» (ma_cons (mn 1 .own) ma_nil)))) (mss_one (ms_ret (mv_fresh (me_and (me_cmp op_isB B_isB N_isB (me_call (O_need_rules.mono (by decide)) hr (by exact rfl) passes_cxx (ma_cons (mn 1 .own) ma_nil)) me_bl (nomark _)) (me_one (me_cmp (op_eqX hr.u12) B_eqX N_eqX (mn 1 .own) (mn 4 .own) (nomark _)))))))))))))
theorem all_mk {h : Heap} {fa : Addr} (X : K.In h) (G : h.Ns mainGlobals mg) (hfa : mg "law" = some (.ref fa))
    {f_is_whole : Addr} {od_is_whole an_is_whole : Option Addr} {sl_is_whole : Array (Option Value)} {oc_is_whole kV_is_whole dc_is_whole pm_is_whole cd_is_whole ct_is_whole : Value}
    {f_is_within : Addr} {od_is_within an_is_within : Option Addr} {sl_is_within : Array (Option Value)} {oc_is_within kV_is_within dc_is_within pm_is_within cd_is_within ct_is_within : Value}
    {f_are_rules : Addr} {od_are_rules an_are_rules : Option Addr} {sl_are_rules : Array (Option Value)} {oc_are_rules kV_are_rules dc_are_rules pm_are_rules cd_are_rules ct_are_rules : Value}
    {f_need_rules : Addr} {od_need_rules an_need_rules : Option Addr} {sl_need_rules : Array (Option Value)} {oc_need_rules kV_need_rules dc_need_rules pm_need_rules cd_need_rules ct_need_rules : Value}
    {f__law_cell_at : Addr} {od__law_cell_at an__law_cell_at : Option Addr} {sl__law_cell_at : Array (Option Value)} {oc__law_cell_at kV__law_cell_at dc__law_cell_at pm__law_cell_at cd__law_cell_at ct__law_cell_at : Value}
    {f__law_bounds : Addr} {od__law_bounds an__law_bounds : Option Addr} {sl__law_bounds : Array (Option Value)} {oc__law_bounds kV__law_bounds dc__law_bounds pm__law_bounds cd__law_bounds ct__law_bounds : Value}
    {f__law_rules : Addr} {od__law_rules an__law_rules : Option Addr} {sl__law_rules : Array (Option Value)} {oc__law_rules kV__law_rules dc__law_rules pm__law_rules cd__law_rules ct__law_rules : Value}
    {f__law_spoilt : Addr} {od__law_spoilt an__law_spoilt : Option Addr} {sl__law_spoilt : Array (Option Value)} {oc__law_spoilt kV__law_spoilt dc__law_spoilt pm__law_spoilt cd__law_spoilt ct__law_spoilt : Value}
    {f__law_refused : Addr} {od__law_refused an__law_refused : Option Addr} {sl__law_refused : Array (Option Value)} {oc__law_refused kV__law_refused dc__law_refused pm__law_refused cd__law_refused ct__law_refused : Value}
    {f__law_all_bounds : Addr} {od__law_all_bounds an__law_all_bounds : Option Addr} {sl__law_all_bounds : Array (Option Value)} {oc__law_all_bounds kV__law_all_bounds dc__law_all_bounds pm__law_all_bounds cd__law_all_bounds ct__law_all_bounds : Value}
    {f_law : Addr} {od_law an_law : Option Addr} {sl_law : Array (Option Value)} {oc_law kV_law dc_law pm_law cd_law ct_law : Value}
    {tk_BOUNDS_0_0 : Tok}
    {tk_BOUNDS_0_1 : Tok}
    {tk_BOUNDS_0_2 : Tok}
    {b_BOUNDS_0 : Addr} {n_BOUNDS_0 : Nat}
    {tk_BOUNDS_1_0 : Tok}
    {tk_BOUNDS_1_1 : Tok}
    {tk_BOUNDS_1_2 : Tok}
    {b_BOUNDS_1 : Addr} {n_BOUNDS_1 : Nat}
    {tk_BOUNDS_2_0 : Tok}
    {tk_BOUNDS_2_1 : Tok}
    {tk_BOUNDS_2_2 : Tok}
    {b_BOUNDS_2 : Addr} {n_BOUNDS_2 : Nat}
    {tk_BOUNDS_3_0 : Tok}
    {tk_BOUNDS_3_1 : Tok}
    {tk_BOUNDS_3_2 : Tok}
    {b_BOUNDS_3 : Addr} {n_BOUNDS_3 : Nat}
    {tk_BOUNDS_4_0 : Tok}
    {tk_BOUNDS_4_1 : Tok}
    {tk_BOUNDS_4_2 : Tok}
    {b_BOUNDS_4 : Addr} {n_BOUNDS_4 : Nat}
    {tk_BOUNDS_5_0 : Tok}
    {tk_BOUNDS_5_1 : Tok}
    {tk_BOUNDS_5_2 : Tok}
    {b_BOUNDS_5 : Addr} {n_BOUNDS_5 : Nat}
    {tk_BOUNDS_6_0 : Tok}
    {tk_BOUNDS_6_1 : Tok}
    {tk_BOUNDS_6_2 : Tok}
    {b_BOUNDS_6 : Addr} {n_BOUNDS_6 : Nat}
    {tk_BOUNDS_7_0 : Tok}
    {tk_BOUNDS_7_1 : Tok}
    {tk_BOUNDS_7_2 : Tok}
    {b_BOUNDS_7 : Addr} {n_BOUNDS_7 : Nat}
    {tk_BOUNDS_8_0 : Tok}
    {tk_BOUNDS_8_1 : Tok}
    {tk_BOUNDS_8_2 : Tok}
    {b_BOUNDS_8 : Addr} {n_BOUNDS_8 : Nat}
    {tk_BOUNDS_9_0 : Tok}
    {tk_BOUNDS_9_1 : Tok}
    {tk_BOUNDS_9_2 : Tok}
    {b_BOUNDS_9 : Addr} {n_BOUNDS_9 : Nat}
    {b_BOUNDS : Addr} {n_BOUNDS : Nat}
    {CS CT c1 c2 c3 c4 c5 c6 c7 c8 c9 : Addr}
    (a_is_whole : PySem.W.nsIn K mainGlobals "is_whole" = some (some (.ref f_is_whole))) (l_is_whole : K.lookup f_is_whole = some ⟨oc_is_whole, od_is_whole, .func (PySem.W.fnOf "is_whole" "is_whole" (defArgs (top 13)) (defBody (top 13)) (defScope (top 13)) .none kV_is_whole dc_is_whole pm_is_whole an_is_whole cd_is_whole ct_is_whole), sl_is_whole⟩) (c_is_whole : PySem.W.codeIn K cd_is_whole "is_whole" = true) (k_is_whole : PySem.W.keepIn K (.ref f_is_whole) = true)
    (a_is_within : PySem.W.nsIn K mainGlobals "is_within" = some (some (.ref f_is_within))) (l_is_within : K.lookup f_is_within = some ⟨oc_is_within, od_is_within, .func (PySem.W.fnOf "is_within" "is_within" (defArgs (top 14)) (defBody (top 14)) (defScope (top 14)) .none kV_is_within dc_is_within pm_is_within an_is_within cd_is_within ct_is_within), sl_is_within⟩) (c_is_within : PySem.W.codeIn K cd_is_within "is_within" = true) (k_is_within : PySem.W.keepIn K (.ref f_is_within) = true)
    (a_are_rules : PySem.W.nsIn K mainGlobals "are_rules" = some (some (.ref f_are_rules))) (l_are_rules : K.lookup f_are_rules = some ⟨oc_are_rules, od_are_rules, .func (PySem.W.fnOf "are_rules" "are_rules" (defArgs (top 17)) (defBody (top 17)) (defScope (top 17)) .none kV_are_rules dc_are_rules pm_are_rules an_are_rules cd_are_rules ct_are_rules), sl_are_rules⟩) (c_are_rules : PySem.W.codeIn K cd_are_rules "are_rules" = true) (k_are_rules : PySem.W.keepIn K (.ref f_are_rules) = true)
    (a_need_rules : PySem.W.nsIn K mainGlobals "need_rules" = some (some (.ref f_need_rules))) (l_need_rules : K.lookup f_need_rules = some ⟨oc_need_rules, od_need_rules, .func (PySem.W.fnOf "need_rules" "need_rules" (defArgs (top 18)) (defBody (top 18)) (defScope (top 18)) .none kV_need_rules dc_need_rules pm_need_rules an_need_rules cd_need_rules ct_need_rules), sl_need_rules⟩) (c_need_rules : PySem.W.codeIn K cd_need_rules "need_rules" = true) (k_need_rules : PySem.W.keepIn K (.ref f_need_rules) = true)
    (a__law_cell_at : PySem.W.nsIn K mainGlobals "_law_cell_at" = some (some (.ref f__law_cell_at))) (l__law_cell_at : K.lookup f__law_cell_at = some ⟨oc__law_cell_at, od__law_cell_at, .func (PySem.W.fnOf "_law_cell_at" "_law_cell_at" (defArgs (top 20)) (defBody (top 20)) (defScope (top 20)) .none kV__law_cell_at dc__law_cell_at pm__law_cell_at an__law_cell_at cd__law_cell_at ct__law_cell_at), sl__law_cell_at⟩) (c__law_cell_at : PySem.W.codeIn K cd__law_cell_at "_law_cell_at" = true) (k__law_cell_at : PySem.W.keepIn K (.ref f__law_cell_at) = true)
    (a__law_bounds : PySem.W.nsIn K mainGlobals "_law_bounds" = some (some (.ref f__law_bounds))) (l__law_bounds : K.lookup f__law_bounds = some ⟨oc__law_bounds, od__law_bounds, .func (PySem.W.fnOf "_law_bounds" "_law_bounds" (defArgs (top 21)) (defBody (top 21)) (defScope (top 21)) .none kV__law_bounds dc__law_bounds pm__law_bounds an__law_bounds cd__law_bounds ct__law_bounds), sl__law_bounds⟩) (c__law_bounds : PySem.W.codeIn K cd__law_bounds "_law_bounds" = true) (k__law_bounds : PySem.W.keepIn K (.ref f__law_bounds) = true)
    (a__law_rules : PySem.W.nsIn K mainGlobals "_law_rules" = some (some (.ref f__law_rules))) (l__law_rules : K.lookup f__law_rules = some ⟨oc__law_rules, od__law_rules, .func (PySem.W.fnOf "_law_rules" "_law_rules" (defArgs (top 22)) (defBody (top 22)) (defScope (top 22)) .none kV__law_rules dc__law_rules pm__law_rules an__law_rules cd__law_rules ct__law_rules), sl__law_rules⟩) (c__law_rules : PySem.W.codeIn K cd__law_rules "_law_rules" = true) (k__law_rules : PySem.W.keepIn K (.ref f__law_rules) = true)
    (a__law_spoilt : PySem.W.nsIn K mainGlobals "_law_spoilt" = some (some (.ref f__law_spoilt))) (l__law_spoilt : K.lookup f__law_spoilt = some ⟨oc__law_spoilt, od__law_spoilt, .func (PySem.W.fnOf "_law_spoilt" "_law_spoilt" (defArgs (top 23)) (defBody (top 23)) (defScope (top 23)) .none kV__law_spoilt dc__law_spoilt pm__law_spoilt an__law_spoilt cd__law_spoilt ct__law_spoilt), sl__law_spoilt⟩) (c__law_spoilt : PySem.W.codeIn K cd__law_spoilt "_law_spoilt" = true) (k__law_spoilt : PySem.W.keepIn K (.ref f__law_spoilt) = true)
    (a__law_refused : PySem.W.nsIn K mainGlobals "_law_refused" = some (some (.ref f__law_refused))) (l__law_refused : K.lookup f__law_refused = some ⟨oc__law_refused, od__law_refused, .func (PySem.W.fnOf "_law_refused" "_law_refused" (defArgs (top 24)) (defBody (top 24)) (defScope (top 24)) .none kV__law_refused dc__law_refused pm__law_refused an__law_refused cd__law_refused ct__law_refused), sl__law_refused⟩) (c__law_refused : PySem.W.codeIn K cd__law_refused "_law_refused" = true) (k__law_refused : PySem.W.keepIn K (.ref f__law_refused) = true)
    (a__law_all_bounds : PySem.W.nsIn K mainGlobals "_law_all_bounds" = some (some (.ref f__law_all_bounds))) (l__law_all_bounds : K.lookup f__law_all_bounds = some ⟨oc__law_all_bounds, od__law_all_bounds, .func (PySem.W.fnOf "_law_all_bounds" "_law_all_bounds" (defArgs (top 25)) (defBody (top 25)) (defScope (top 25)) .none kV__law_all_bounds dc__law_all_bounds pm__law_all_bounds an__law_all_bounds cd__law_all_bounds ct__law_all_bounds), sl__law_all_bounds⟩) (c__law_all_bounds : PySem.W.codeIn K cd__law_all_bounds "_law_all_bounds" = true) (k__law_all_bounds : PySem.W.keepIn K (.ref f__law_all_bounds) = true)
    (a_law : PySem.W.nsIn K mainGlobals "law" = some (some (.ref f_law))) (l_law : K.lookup f_law = some ⟨oc_law, od_law, .func (PySem.W.fnOf "law" "law" (defArgs (top 26)) (defBody (top 26)) (defScope (top 26)) .none kV_law dc_law pm_law an_law cd_law ct_law), sl_law⟩) (c_law : PySem.W.codeIn K cd_law "law" = true) (k_law : PySem.W.keepIn K (.ref f_law) = true)
    (z_isinstance : PySem.W.nsIn K mainGlobals "isinstance" = some none)
    (z_int : PySem.W.nsIn K mainGlobals "int" = some none)
    (z_bool : PySem.W.nsIn K mainGlobals "bool" = some none)
    (z_str : PySem.W.nsIn K mainGlobals "str" = some none)
    (z_dict : PySem.W.nsIn K mainGlobals "dict" = some none)
    (z_list : PySem.W.nsIn K mainGlobals "list" = some none)
    (z_tuple : PySem.W.nsIn K mainGlobals "tuple" = some none)
    (z_len : PySem.W.nsIn K mainGlobals "len" = some none)
    (z_sum : PySem.W.nsIn K mainGlobals "sum" = some none)
    (z_max : PySem.W.nsIn K mainGlobals "max" = some none)
    (z_min : PySem.W.nsIn K mainGlobals "min" = some none)
    (z_all : PySem.W.nsIn K mainGlobals "all" = some none)
    (z_range : PySem.W.nsIn K mainGlobals "range" = some none)
    (z_enumerate : PySem.W.nsIn K mainGlobals "enumerate" = some none)
    (z_zip : PySem.W.nsIn K mainGlobals "zip" = some none)
    (gv_BOUNDS : PySem.W.nsIn K mainGlobals "BOUNDS" = some (some (.ref b_BOUNDS)))
    (gl_BOUNDS : K.lookup b_BOUNDS = some ⟨.type "tuple", none, .seq #[.ref b_BOUNDS_0, .ref b_BOUNDS_1, .ref b_BOUNDS_2, .ref b_BOUNDS_3, .ref b_BOUNDS_4, .ref b_BOUNDS_5, .ref b_BOUNDS_6, .ref b_BOUNDS_7, .ref b_BOUNDS_8, .ref b_BOUNDS_9] n_BOUNDS, #[]⟩)
    (gl_BOUNDS_9 : K.lookup b_BOUNDS_9 = some ⟨.type "tuple", none, .seq #[.str "behind" tk_BOUNDS_9_0, .int 1 tk_BOUNDS_9_1, .int 6 tk_BOUNDS_9_2] n_BOUNDS_9, #[]⟩)
    (gl_BOUNDS_8 : K.lookup b_BOUNDS_8 = some ⟨.type "tuple", none, .seq #[.str "ahead" tk_BOUNDS_8_0, .int 1 tk_BOUNDS_8_1, .int 6 tk_BOUNDS_8_2] n_BOUNDS_8, #[]⟩)
    (gl_BOUNDS_7 : K.lookup b_BOUNDS_7 = some ⟨.type "tuple", none, .seq #[.str "gap" tk_BOUNDS_7_0, .int 0 tk_BOUNDS_7_1, .int 5 tk_BOUNDS_7_2] n_BOUNDS_7, #[]⟩)
    (gl_BOUNDS_6 : K.lookup b_BOUNDS_6 = some ⟨.type "tuple", none, .seq #[.str "over" tk_BOUNDS_6_0, .int 1 tk_BOUNDS_6_1, .int 100000 tk_BOUNDS_6_2] n_BOUNDS_6, #[]⟩)
    (gl_BOUNDS_5 : K.lookup b_BOUNDS_5 = some ⟨.type "tuple", none, .seq #[.str "late" tk_BOUNDS_5_0, .int 0 tk_BOUNDS_5_1, .int 100000 tk_BOUNDS_5_2] n_BOUNDS_5, #[]⟩)
    (gl_BOUNDS_4 : K.lookup b_BOUNDS_4 = some ⟨.type "tuple", none, .seq #[.str "lone" tk_BOUNDS_4_0, .int 0 tk_BOUNDS_4_1, .int 100000 tk_BOUNDS_4_2] n_BOUNDS_4, #[]⟩)
    (gl_BOUNDS_3 : K.lookup b_BOUNDS_3 = some ⟨.type "tuple", none, .seq #[.str "twin" tk_BOUNDS_3_0, .int 0 tk_BOUNDS_3_1, .int 100000 tk_BOUNDS_3_2] n_BOUNDS_3, #[]⟩)
    (gl_BOUNDS_2 : K.lookup b_BOUNDS_2 = some ⟨.type "tuple", none, .seq #[.str "part" tk_BOUNDS_2_0, .int 0 tk_BOUNDS_2_1, .int 100000 tk_BOUNDS_2_2] n_BOUNDS_2, #[]⟩)
    (gl_BOUNDS_1 : K.lookup b_BOUNDS_1 = some ⟨.type "tuple", none, .seq #[.str "height" tk_BOUNDS_1_0, .int 2 tk_BOUNDS_1_1, .int 200 tk_BOUNDS_1_2] n_BOUNDS_1, #[]⟩)
    (gl_BOUNDS_0 : K.lookup b_BOUNDS_0 = some ⟨.type "tuple", none, .seq #[.str "width" tk_BOUNDS_0_0, .int 4 tk_BOUNDS_0_1, .int 2000 tk_BOUNDS_0_2] n_BOUNDS_0, #[]⟩)
    (y_S : PySem.W.nsIn K mainGlobals "SetError" = some (some (.ref CS)))
    (y_T : PySem.W.nsIn K mainGlobals "BadRules" = some (some (.ref CT)))
    (y_X : PySem.W.excIn K CT [.type "ValueError", .type "Exception", .type "BaseException", .type "object"] "ValueError.__new__" = true)
    (y_V : PySem.W.nsIn K mainGlobals "ValueError" = some none)
    (y_ga : PySem.W.findIn K (.ref CT) "__getattribute__" = some (some (.builtin "BaseException.__getattribute__")))
    (y_gt : PySem.W.findIn K (.ref CT) "__getattr__" = some none)
    (y_cl : PySem.W.findIn K (.ref CT) "__class__" = some (some (.builtin "object.__class__")))
    (y_sp : PySem.W.specialIn K (.builtin "object.__class__") "__get__" = some (some (.builtin "getset_descriptor.__get__")))
    (y_tk : PySem.W.takesIn K (.builtin "object.__class__") = some true)
    (y_mo : PySem.W.mroIn K CT (.type "object") = some true)
    (y_mb : PySem.W.mroIn K CT (.type "BaseException") = some true)
    (y_kV : PySem.W.kitOne K (.ref CT) (.type "ValueError") = some true)
    (y_xS : PySem.W.exmOne K (.ref CT) (.ref CS) = some true)
    (y_m1 : PySem.W.nsIn K mainGlobals "BadBlocks" = some (some (.ref c1)))
    (y_k1 : PySem.W.kitOne K (.ref CT) (.ref c1) = some false)
    (y_m2 : PySem.W.nsIn K mainGlobals "BadBook" = some (some (.ref c2)))
    (y_k2 : PySem.W.kitOne K (.ref CT) (.ref c2) = some false)
    (y_m3 : PySem.W.nsIn K mainGlobals "BadBreaks" = some (some (.ref c3)))
    (y_k3 : PySem.W.kitOne K (.ref CT) (.ref c3) = some false)
    (y_m4 : PySem.W.nsIn K mainGlobals "BadFace" = some (some (.ref c4)))
    (y_k4 : PySem.W.kitOne K (.ref CT) (.ref c4) = some false)
    (y_m5 : PySem.W.nsIn K mainGlobals "BadText" = some (some (.ref c5)))
    (y_k5 : PySem.W.kitOne K (.ref CT) (.ref c5) = some false)
    (y_m6 : PySem.W.nsIn K mainGlobals "BadWord" = some (some (.ref c6)))
    (y_k6 : PySem.W.kitOne K (.ref CT) (.ref c6) = some false)
    (y_m7 : PySem.W.nsIn K mainGlobals "NoNote" = some (some (.ref c7)))
    (y_k7 : PySem.W.kitOne K (.ref CT) (.ref c7) = some false)
    (y_m8 : PySem.W.nsIn K mainGlobals "NoPlace" = some (some (.ref c8)))
    (y_k8 : PySem.W.kitOne K (.ref CT) (.ref c8) = some false)
    (y_m9 : PySem.W.nsIn K mainGlobals "TooWide" = some (some (.ref c9)))
    (y_k9 : PySem.W.kitOne K (.ref CT) (.ref c9) = some false) :
    ∃ fd : FuncData, (∀ (s : Shared) (v : Value), BindsTo s fd ⟨[v], []⟩ [("_law_script", v)]) /\ ∀ base : Heap, K.In base -> base.Ns mainGlobals mg -> FnOk P w K mg base (cxx P w) 7 fa fd ["_law_script"] (spM K F_law 1) := by
  have e := hfa.symm.trans (PySem.W.mg_of X G a_law)
  cases e
  have B : Bl mg := ⟨PySem.W.mg_none_of X G z_isinstance, PySem.W.mg_none_of X G z_int, PySem.W.mg_none_of X G z_bool, PySem.W.mg_none_of X G z_str, PySem.W.mg_none_of X G z_dict, PySem.W.mg_none_of X G z_list, PySem.W.mg_none_of X G z_tuple, PySem.W.mg_none_of X G z_len, PySem.W.mg_none_of X G z_sum, PySem.W.mg_none_of X G z_max, PySem.W.mg_none_of X G z_min, PySem.W.mg_none_of X G z_all, PySem.W.mg_none_of X G z_range, PySem.W.mg_none_of X G z_enumerate, PySem.W.mg_none_of X G z_zip⟩
  have Gv : Gl0 K mg := ⟨⟨_, PySem.W.mg_of X G gv_BOUNDS, (repK_tup gl_BOUNDS (Nat.le_of_ble_eq_true rfl) (.cons relV_ref (.cons relV_ref (.cons relV_ref (.cons relV_ref (.cons relV_ref (.cons relV_ref (.cons relV_ref (.cons relV_ref (.cons relV_ref (.cons relV_ref .nil)))))))))) (repsK_cons (repK_tup gl_BOUNDS_0 (Nat.le_of_ble_eq_true rfl) (.cons relV_str (.cons relV_int (.cons relV_int .nil))) (repsK_cons repK_str (repsK_cons repK_int (repsK_cons repK_int repsK_nil)))) (repsK_cons (repK_tup gl_BOUNDS_1 (Nat.le_of_ble_eq_true rfl) (.cons relV_str (.cons relV_int (.cons relV_int .nil))) (repsK_cons repK_str (repsK_cons repK_int (repsK_cons repK_int repsK_nil)))) (repsK_cons (repK_tup gl_BOUNDS_2 (Nat.le_of_ble_eq_true rfl) (.cons relV_str (.cons relV_int (.cons relV_int .nil))) (repsK_cons repK_str (repsK_cons repK_int (repsK_cons repK_int repsK_nil)))) (repsK_cons (repK_tup gl_BOUNDS_3 (Nat.le_of_ble_eq_true rfl) (.cons relV_str (.cons relV_int (.cons relV_int .nil))) (repsK_cons repK_str (repsK_cons repK_int (repsK_cons repK_int repsK_nil)))) (repsK_cons (repK_tup gl_BOUNDS_4 (Nat.le_of_ble_eq_true rfl) (.cons relV_str (.cons relV_int (.cons relV_int .nil))) (repsK_cons repK_str (repsK_cons repK_int (repsK_cons repK_int repsK_nil)))) (repsK_cons (repK_tup gl_BOUNDS_5 (Nat.le_of_ble_eq_true rfl) (.cons relV_str (.cons relV_int (.cons relV_int .nil))) (repsK_cons repK_str (repsK_cons repK_int (repsK_cons repK_int repsK_nil)))) (repsK_cons (repK_tup gl_BOUNDS_6 (Nat.le_of_ble_eq_true rfl) (.cons relV_str (.cons relV_int (.cons relV_int .nil))) (repsK_cons repK_str (repsK_cons repK_int (repsK_cons repK_int repsK_nil)))) (repsK_cons (repK_tup gl_BOUNDS_7 (Nat.le_of_ble_eq_true rfl) (.cons relV_str (.cons relV_int (.cons relV_int .nil))) (repsK_cons repK_str (repsK_cons repK_int (repsK_cons repK_int repsK_nil)))) (repsK_cons (repK_tup gl_BOUNDS_8 (Nat.le_of_ble_eq_true rfl) (.cons relV_str (.cons relV_int (.cons relV_int .nil))) (repsK_cons repK_str (repsK_cons repK_int (repsK_cons repK_int repsK_nil)))) (repsK_cons (repK_tup gl_BOUNDS_9 (Nat.le_of_ble_eq_true rfl) (.cons relV_str (.cons relV_int (.cons relV_int .nil))) (repsK_cons repK_str (repsK_cons repK_int (repsK_cons repK_int repsK_nil)))) repsK_nil)))))))))))⟩⟩
  have Cl : Cls K mg := ⟨⟨CT, y_T, y_X⟩, PySem.W.mg_none_of X G y_V, CS, CT, c1, c2, c3, c4, c5, c6, c7, c8, c9, PySem.W.mg_of X G y_S, ⟨y_T, y_X⟩, ⟨y_ga, y_gt, y_cl, y_sp, y_tk, y_mo, y_mb, it_of y_X⟩, PySem.W.mg_of X G y_T, y_kV, y_xS, ⟨PySem.W.mg_of X G y_m1, y_k1⟩, ⟨PySem.W.mg_of X G y_m2, y_k2⟩, ⟨PySem.W.mg_of X G y_m3, y_k3⟩, ⟨PySem.W.mg_of X G y_m4, y_k4⟩, ⟨PySem.W.mg_of X G y_m5, y_k5⟩, ⟨PySem.W.mg_of X G y_m6, y_k6⟩, ⟨PySem.W.mg_of X G y_m7, y_k7⟩, ⟨PySem.W.mg_of X G y_m8, y_k8⟩, ⟨PySem.W.mg_of X G y_m9, y_k9⟩⟩
  refine ⟨PySem.W.fnOf "law" "law" (defArgs (top 26)) (defBody (top 26)) (defScope (top 26)) .none kV_law dc_law pm_law an_law cd_law ct_law, fun s v => .of_eq rfl, fun base _ _ => ?_⟩
  have D_is_whole : DefIn K mg "is_whole" (top 13) ["thing"] := defIn_mk X G (fun _ _ _ _ _ _ => bd1 fun _ => rfl) a_is_whole l_is_whole c_is_whole k_is_whole
  have O_is_whole := ok_is_whole (P := P) (w := w) (base := base) D_is_whole B Gv Cl 
  have D_is_within : DefIn K mg "is_within" (top 14) ["thing", "least", "most"] := defIn_mk X G (fun _ _ _ _ _ _ => bd3 fun _ _ _ => rfl) a_is_within l_is_within c_is_within k_is_within
  have O_is_within := ok_is_within (P := P) (w := w) (base := base) D_is_within B Gv Cl O_is_whole
  have D_are_rules : DefIn K mg "are_rules" (top 17) ["thing"] := defIn_mk X G (fun _ _ _ _ _ _ => bd1 fun _ => rfl) a_are_rules l_are_rules c_are_rules k_are_rules
  have O_are_rules := ok_are_rules (P := P) (w := w) (base := base) D_are_rules B Gv Cl O_is_within
  have D_need_rules : DefIn K mg "need_rules" (top 18) ["rules"] := defIn_mk X G (fun _ _ _ _ _ _ => bd1 fun _ => rfl) a_need_rules l_need_rules c_need_rules k_need_rules
  have O_need_rules := ok_need_rules (P := P) (w := w) (base := base) D_need_rules B Gv Cl O_are_rules
  have D__law_cell_at : DefIn K mg "_law_cell_at" (top 20) ["_law_script", "_law_k"] := defIn_mk X G (fun _ _ _ _ _ _ => bd2 fun _ _ => rfl) a__law_cell_at l__law_cell_at c__law_cell_at k__law_cell_at
  have O__law_cell_at := ok__law_cell_at (P := P) (w := w) (base := base) D__law_cell_at B Gv Cl 
  have D__law_bounds : DefIn K mg "_law_bounds" (top 21) [] := defIn_mk X G (fun _ _ _ _ _ _ => fun us hl => by cases len0 hl; rfl) a__law_bounds l__law_bounds c__law_bounds k__law_bounds
  have O__law_bounds := ok__law_bounds (P := P) (w := w) (base := base) D__law_bounds B Gv Cl 
  have D__law_rules : DefIn K mg "_law_rules" (top 22) ["_law_script"] := defIn_mk X G (fun _ _ _ _ _ _ => bd1 fun _ => rfl) a__law_rules l__law_rules c__law_rules k__law_rules
  have O__law_rules := ok__law_rules (P := P) (w := w) (base := base) D__law_rules B Gv Cl O__law_bounds O__law_cell_at
  have D__law_spoilt : DefIn K mg "_law_spoilt" (top 23) ["_law_rules_here", "_law_cell"] := defIn_mk X G (fun _ _ _ _ _ _ => bd2 fun _ _ => rfl) a__law_spoilt l__law_spoilt c__law_spoilt k__law_spoilt
  have O__law_spoilt := ok__law_spoilt (P := P) (w := w) (base := base) D__law_spoilt B Gv Cl O__law_bounds
  have D__law_refused : DefIn K mg "_law_refused" (top 24) ["_law_rules_here"] := defIn_mk X G (fun _ _ _ _ _ _ => bd1 fun _ => rfl) a__law_refused l__law_refused c__law_refused k__law_refused
  have O__law_refused := ok__law_refused (P := P) (w := w) (base := base) D__law_refused B Gv Cl O_need_rules
  have D__law_all_bounds : DefIn K mg "_law_all_bounds" (top 25) ["_law_rules_here"] := defIn_mk X G (fun _ _ _ _ _ _ => bd1 fun _ => rfl) a__law_all_bounds l__law_all_bounds c__law_all_bounds k__law_all_bounds
  have O__law_all_bounds := ok__law_all_bounds (P := P) (w := w) (base := base) D__law_all_bounds B Gv Cl O__law_bounds O__law_refused
  exact mir_fn l_law c_law sc_law (by decide) (body_law B Gv Cl O__law_rules O__law_all_bounds O__law_cell_at O__law_refused O__law_spoilt O_need_rules)
end
end K02

set_option maxRecDepth 100000
set_option maxHeartbeats 4000000
namespace K02
open PySem PyProof.Rows L2
theorem cell (ns : List Int) (k : Int) (hk : 0 <= k) : ∃ v, F__law_cell_at [.frl (ns.map .int), .int k] = .ok (.int v) := by
  by_cases h : k < (ns.length : Int)
  · have hm : k.toNat < ns.length := by omega
    have hix : ixD (.frl (ns.map .int)) (.int k) = .ok (.int ns[k.toNat]) := ev_ixf (atI_ok hk (by rw [List.getElem?_map, List.getElem?_eq_getElem hm]; rfl))
    have e1 : decide (k < (ns.length : Int)) = true := decide_eq_true h
    refine ⟨ns[k.toNat], ?_⟩
    generalize ns[k.toNat] = v at *
    simp only [F__law_cell_at, t__law_cell_at, ev_eImm, ev_immI, sSkip, runB, sSeq, sRet, sIf, eVar, eC, eBin, eL, aNil, aCons, eTest, asB, R.ok_bind, List.map_cons, List.map_nil, List.length_cons, List.length_nil, List.replicate_zero, List.cons_append, List.nil_append, List.getElem?_cons_zero, List.getElem?_cons_succ, Nat.reduceAdd, Nat.reduceSub, Nat.zero_add, ev_lt, ev_lenf, if_true, List.length_map, e1, hix]
  · have e1 : decide (k < (ns.length : Int)) = false := decide_eq_false h
    refine ⟨0, ?_⟩
    simp only [F__law_cell_at, t__law_cell_at, ev_eImm, sSkip, runB, sSeq, sRet, sIf, eVar, eC, eBin, eL, aNil, aCons, eTest, asB, R.ok_bind, List.map_cons, List.map_nil, List.length_cons, List.length_nil, List.replicate_zero, List.cons_append, List.nil_append, List.getElem?_cons_zero, List.getElem?_cons_succ, Nat.reduceAdd, Nat.reduceSub, Nat.zero_add, ev_lt, ev_lenf, if_false, Bool.false_eq_true, List.length_map, e1]
noncomputable def okW : D -> Int -> Int -> Bool
  | .int n, lo, hi => decide (lo <= n) && decide (n <= hi)
  | _, _, _ => false
theorem whole_no (d : D) (h : ∀ n, d ≠ .int n) : F_is_whole [d] = .ok (.bl false) := by
  cases d with
  | int n => exact absurd rfl (h n)
  | _ => rfl
theorem within_ok (d : D) (lo hi : Int) : F_is_within [d, .int lo, .int hi] = .ok (.bl (okW d lo hi)) := by
  by_cases h : ∃ n, d = .int n
  · obtain ⟨n, rfl⟩ := h
    have h1 : F_is_whole [.int n] = .ok (.bl true) := rfl
    show runB 3 t_is_within _ = _
    unfold t_is_within
    show _ = R.ok (D.bl (decide (lo <= n) && decide (n <= hi)))
    cases e1 : decide (lo <= n) <;> cases e2 : decide (n <= hi) <;> simp only [runB, sRet, eVar, eL, aNil, aCons, eAnd, eChain, asB, R.ok_bind, List.map_cons, List.map_nil, List.length_cons, List.length_nil, List.replicate_zero, List.cons_append, List.nil_append, List.getElem?_cons_zero, List.getElem?_cons_succ, Nat.reduceAdd, Nat.reduceSub, Nat.zero_add, ev_le, if_true, if_false, Bool.false_eq_true, h1, e1, e2, Bool.and_true, Bool.and_false]
  · have h1 := whole_no d fun n e => h ⟨n, e⟩
    have h2 : okW d lo hi = false := by
      cases d with
      | int n => exact absurd ⟨n, rfl⟩ h
      | _ => rfl
    show runB 3 t_is_within _ = _
    unfold t_is_within
    rw [h2]
    generalize F_is_whole = F at *
    simp only [runB, sRet, eVar, eL, aNil, aCons, eAnd, eChain, asB, R.ok_bind, List.map_cons, List.map_nil, List.length_cons, List.length_nil, List.replicate_zero, List.cons_append, List.nil_append, List.getElem?_cons_zero, List.getElem?_cons_succ, Nat.reduceAdd, Nat.reduceSub, Nat.zero_add, if_false, Bool.false_eq_true, h1]
noncomputable abbrev Bd := Str × Int × Int
noncomputable def encB (e : Bd) : D := .tup [.str e.1, .int e.2.1, .int e.2.2]
noncomputable def okE (ks : List Key) (ds : List D) (e : Bd) : Bool := match lookD ks ds (.inr e.1) with
  | some d => okW d e.2.1 e.2.2
  | none => false
noncomputable def bA : Tn -> R Fl := (sIf (bOr (eTest (eBin notKD (eVar 1) (eVar 0))) (bNot (eTest (eL F_is_within (aCons (eBin ixD (eVar 0) (eVar 1)) (aCons (eVar 2) (aCons (eVar 3) aNil))))))) (sRet (eC (.bl false))) sSkip)
theorem bA_ok (ks : List Key) (ds : List D) (k : Str) (lo hi : Int) : bA [some (.dic ks ds), some (.str k), some (.int lo), some (.int hi)] = if okE ks ds (k, lo, hi) = true then .ok (.nx [some (.dic ks ds), some (.str k), some (.int lo), some (.int hi)]) else .ok (.rt (.bl false)) := by
  cases hl : lookD ks ds (.inr k) with
  | none =>
    have h1 : notKD (.str k) (.dic ks ds) = .ok (.bl true) := by
      show R.ok (D.bl (!(lookD ks ds (.inr k)).isSome)) = _
      rw [hl]; rfl
    have h2 : okE ks ds (k, lo, hi) = false := by
      show (match lookD ks ds (.inr k) with | some d => okW d lo hi | none => false) = false
      rw [hl]
    rw [h2]
    simp only [bA, sSkip, sRet, sIf, eVar, eC, eBin, eL, aNil, aCons, eTest, bOr, bNot, asB, R.ok_bind, List.getElem?_cons_zero, List.getElem?_cons_succ, if_true, if_false, Bool.false_eq_true, h1]
  | some d =>
    have h1 : notKD (.str k) (.dic ks ds) = .ok (.bl false) := by
      show R.ok (D.bl (!(lookD ks ds (.inr k)).isSome)) = _
      rw [hl]; rfl
    have h2 : okE ks ds (k, lo, hi) = okW d lo hi := by
      show (match lookD ks ds (.inr k) with | some d => okW d lo hi | none => false) = _
      rw [hl]
    have h3 : ixD (.dic ks ds) (.str k) = .ok d := by
      show (match lookD ks ds (.inr k) with | some d => R.ok d | none => R.bad) = _
      rw [hl]
    have h4 := within_ok d lo hi
    rw [h2]
    cases hw : okW d lo hi <;> rw [hw] at h4 <;> simp only [bA, sSkip, sRet, sIf, eVar, eC, eBin, eL, aNil, aCons, eTest, bOr, bNot, asB, R.ok_bind, List.getElem?_cons_zero, List.getElem?_cons_succ, if_true, if_false, Bool.false_eq_true, Bool.not_true, Bool.not_false, h1, h3, h4]
theorem lA_ok (ks : List Key) (ds : List D) : ∀ (bs : List Bd) (y1 y2 y3 : Option D), ∃ z1 z2 z3 : Option D, forGo (Tgt.many [1, 2, 3]).asg bA (bs.map encB) [some (.dic ks ds), y1, y2, y3] = if bs.all (okE ks ds) = true then .ok (.nx [some (.dic ks ds), z1, z2, z3]) else .ok (.rt (.bl false))
  | [], y1, y2, y3 => ⟨y1, y2, y3, rfl⟩
  | (k, lo, hi) :: bs, y1, y2, y3 => by
    have e : ∀ τ : Tn, (Tgt.many [1, 2, 3]).asg (encB (k, lo, hi)) τ = (Tgt.many [1, 2, 3]).asg (.tup [.str k, .int lo, .int hi]) τ := fun _ => rfl
    have ha : (Tgt.many [1, 2, 3]).asg (encB (k, lo, hi)) [some (.dic ks ds), y1, y2, y3] = .ok [some (.dic ks ds), some (.str k), some (.int lo), some (.int hi)] := rfl
    have hb := bA_ok ks ds k lo hi
    rw [List.map_cons, ev_forC, ha, R.ok_bind, hb, List.all_cons]
    cases ho : okE ks ds (k, lo, hi) with
    | false =>
      refine ⟨none, none, none, ?_⟩
      rw [Bool.false_and, if_neg Bool.false_ne_true, if_neg Bool.false_ne_true]
      rfl
    | true =>
      obtain ⟨z1, z2, z3, h⟩ := lA_ok ks ds bs (some (.str k)) (some (.int lo)) (some (.int hi))
      refine ⟨z1, z2, z3, ?_⟩
      rw [Bool.true_and, if_pos rfl, R.ok_bind, ev_goN, h]
noncomputable def BN : List Bd := [("width", 4, 2000), ("height", 2, 200), ("part", 0, 100000), ("twin", 0, 100000), ("lone", 0, 100000), ("late", 0, 100000), ("over", 1, 100000), ("gap", 0, 5), ("ahead", 1, 6), ("behind", 1, 6)]
theorem g_BN : g_BOUNDS = .tup (BN.map encB) := rfl
noncomputable def TA1 : Tn -> R Fl := (sIf (bOr (bNot (eTest (eUn (isiD "dict") (eVar 0)))) (eTest (eBin (eqR true) (eL lenD (aCons (eVar 0) aNil)) (eL lenD (aCons (eC g_BOUNDS) aNil))))) (sRet (eC (.bl false))) sSkip)
theorem tA : F_are_rules = runB 4 (sSeq TA1 (sSeq (sFor (iSeq (eC g_BOUNDS)) (.many [1, 2, 3]) bA) (sRet (eC (.bl true))))) := rfl
theorem lenB : lenD [g_BOUNDS] = .ok (.int 10) := rfl
theorem are_dic (ks : List Key) (ds : List D) : F_are_rules [.dic ks ds] = .ok (.bl (ks.length == 10 && BN.all (okE ks ds))) := by
  have h1 : isiD "dict" (.dic ks ds) = .ok (.bl true) := rfl
  have h2 : lenD [.dic ks ds] = .ok (.int (ks.length : Nat)) := rfl
  have h3 : eqR true (.int (ks.length : Nat)) (.int 10) = .ok (.bl (!((ks.length : Nat) == 10))) := by
    rw [ev_eqi, if_pos rfl]
    congr 2
    cases e : (ks.length == 10)
    · simp at e; simp; omega
    · simp at e; simp [e]
  have h4 := lenB
  rw [tA]
  cases hl : (ks.length == 10) with
  | false =>
    rw [hl] at h3
    rw [Bool.false_and]
    generalize ((ks.length : Nat) : Int) = n at *
    simp only [TA1, sSkip, runB, sSeq, sRet, sIf, eVar, eC, eBin, eUn, eL, aNil, aCons, eTest, bOr, bNot, asB, R.ok_bind, List.map_cons, List.map_nil, List.length_cons, List.length_nil, List.replicate_succ, List.replicate_zero, List.cons_append, List.nil_append, List.getElem?_cons_zero, Nat.reduceSub, Nat.zero_add, if_true, if_false, Bool.false_eq_true, Bool.not_true, Bool.not_false, h1, h2, h3, h4]
  | true =>
    rw [hl] at h3
    rw [Bool.true_and]
    obtain ⟨z1, z2, z3, h⟩ := lA_ok ks ds BN none none none
    have hi : iSeq (eC g_BOUNDS) [some (.dic ks ds), none, none, none] = .ok (BN.map encB) := rfl
    have hf := ev_for hi h
    have ha : TA1 [some (.dic ks ds), none, none, none] = .ok (.nx [some (.dic ks ds), none, none, none]) := by
      generalize ((ks.length : Nat) : Int) = n at *
      simp only [TA1, sSkip, sRet, sIf, eVar, eC, eBin, eUn, eL, aNil, aCons, eTest, bOr, bNot, asB, R.ok_bind, List.getElem?_cons_zero, if_false, Bool.false_eq_true, Bool.not_true, h1, h2, h3, h4]
    generalize sFor (iSeq (eC g_BOUNDS)) (.many [1, 2, 3]) bA = SF at *
    generalize TA1 = T1 at *
    cases hb : BN.all (okE ks ds) with
    | false =>
      rw [hb, if_neg Bool.false_ne_true] at hf
      simp only [runB, sSeq, sRet, eC, R.ok_bind, List.map_cons, List.map_nil, List.length_cons, List.length_nil, List.replicate_succ, List.replicate_zero, List.cons_append, List.nil_append, Nat.reduceSub, Nat.zero_add, ha, hf]
    | true =>
      rw [hb, if_pos rfl] at hf
      simp only [runB, sSeq, sRet, eC, R.ok_bind, List.map_cons, List.map_nil, List.length_cons, List.length_nil, List.replicate_succ, List.replicate_zero, List.cons_append, List.nil_append, Nat.reduceSub, Nat.zero_add, ha, hf]
theorem are_no (d : D) (h : isiD "dict" d = .ok (.bl false)) : F_are_rules [d] = .ok (.bl false) := by
  rw [tA]
  generalize sFor (iSeq (eC g_BOUNDS)) (.many [1, 2, 3]) bA = SF at *
  simp only [TA1, sSkip, runB, sSeq, sRet, sIf, eVar, eC, eBin, eUn, eL, aNil, aCons, eTest, bOr, bNot, asB, R.ok_bind, List.map_cons, List.map_nil, List.length_cons, List.length_nil, List.replicate_succ, List.replicate_zero, List.cons_append, List.nil_append, List.getElem?_cons_zero, Nat.reduceSub, Nat.zero_add, if_true, Bool.not_false, h]
theorem need_ok (d : D) (h : F_are_rules [d] = .ok (.bl true)) : F_need_rules [d] = .ok (.bl true) := by
  show runB 1 t_need_rules [d] = _
  unfold t_need_rules
  generalize F_are_rules = F at *
  simp only [sSkip, runB, sSeq, sRet, sIf, eVar, eC, eL, aNil, aCons, eTest, bNot, asB, R.ok_bind, List.map_cons, List.map_nil, List.length_cons, List.length_nil, List.replicate_zero, List.cons_append, List.nil_append, List.getElem?_cons_zero, Nat.reduceSub, Nat.zero_add, if_false, Bool.false_eq_true, Bool.not_true, h]
theorem need_err (d : D) (h : F_are_rules [d] = .ok (.bl false)) : F_need_rules [d] = .err "BadRules" := by
  show runB 1 t_need_rules [d] = _
  unfold t_need_rules
  generalize F_are_rules = F at *
  simp only [sSkip, Nat.reduceLeDiff, runB, sSeq, sRet, sIf, eVar, eC, eL, aNil, aCons, eTest, bNot, asB, R.ok_bind, R.err_bind, List.map_cons, List.map_nil, List.length_cons, List.length_nil, List.replicate_zero, List.cons_append, List.nil_append, List.getElem?_cons_zero, Nat.reduceSub, Nat.zero_add, if_true, Bool.not_false, h, sErr, sizeLine_eq]
theorem tryE {F : List D -> R D} {u : Tn -> R (List D)} {g : Str -> Option D} {τ : Tn} {ds : List D} {n : Str} {d : D} (h1 : u τ = .ok ds) (h2 : F ds = .err n) (h3 : g n = some d) : sTryE F u g τ = .ok (.rt d) := by
  unfold sTryE
  rw [h1]
  dsimp only
  rw [h2]
  dsimp only
  rw [h3]
theorem refused (d : D) (h : F_are_rules [d] = .ok (.bl false)) : F__law_refused [d] = .ok (.bl true) := by
  have hn := need_err d h
  have g1 : g__law_refused "BadRules" = some (.bl true) := if_pos rfl
  have t1 : sTryE F_need_rules (aCons (eVar 0) aNil) g__law_refused [some d, none, none] = .ok (.rt (.bl true)) := tryE (ds := [d]) (by simp only [eVar, aNil, aCons, R.ok_bind, List.getElem?_cons_zero]) hn g1
  show runB 3 t__law_refused [d] = _
  unfold t__law_refused
  simp only [runB, sSeq, sRet, eC, R.ok_bind, List.map_cons, List.map_nil, List.length_cons, List.length_nil, List.replicate_succ, List.replicate_zero, List.cons_append, List.nil_append, Nat.reduceSub, Nat.zero_add, t1]
end K02

set_option maxRecDepth 100000
set_option maxHeartbeats 4000000
namespace K02
open PySem PyProof.Rows L2
theorem look_repl : ∀ (ks : List Key) (ds : List D) (k : Key) (d : D) (j : Key), lookD ks (replL ks ds k d) j = if k = j then (lookD ks ds j).map (fun _ => d) else lookD ks ds j
  | [], ds, k, d, j => by cases ds <;> (unfold replL lookD; by_cases h : k = j <;> simp [h])
  | _ :: _, [], k, d, j => by unfold replL lookD; by_cases h : k = j <;> simp [h]
  | k0 :: ks, d0 :: ds, k, d, j => by
    have ih := look_repl ks ds k d j
    unfold replL
    unfold lookD
    by_cases h0 : k0 = j
    · rw [if_pos h0, if_pos h0]
      by_cases h : k = j
      · rw [if_pos h, if_pos (by rw [h0, h])]; rfl
      · rw [if_neg h, if_neg (by rw [h0]; exact fun z => h z.symm)]
    · rw [if_neg h0, if_neg h0]; exact ih
theorem look_in : ∀ {ks : List Key} {ds : List D} {k : Key}, ks.length = ds.length -> k ∈ ks -> ∃ d, lookD ks ds k = some d /\ d ∈ ds
  | [], _, k, _, h => by cases h
  | _ :: _, [], _, h, _ => by cases h
  | k0 :: ks, d0 :: ds, k, hl, h => by
    unfold lookD
    by_cases h0 : k0 = k
    · exact ⟨d0, if_pos h0, List.mem_cons_self⟩
    · rw [if_neg h0]
      rcases List.mem_cons.mp h with z | z
      · exact absurd z.symm h0
      · obtain ⟨d, e, hm⟩ := look_in (by simpa using hl) z
        exact ⟨d, e, List.mem_cons_of_mem _ hm⟩
theorem look_out : ∀ {ks : List Key} {ds : List D} {k : Key}, k ∉ ks -> lookD ks ds k = none
  | [], ds, k, _ => by cases ds <;> rfl
  | _ :: _, [], _, _ => rfl
  | k0 :: ks, d0 :: ds, k, h => by
    unfold lookD
    rw [if_neg (fun z => h (by rw [z]; exact List.mem_cons_self))]
    exact look_out fun z => h (List.mem_cons_of_mem _ z)
theorem look_app : ∀ {ks : List Key} {ds : List D} {k : Key} {d : D} (j : Key), ks.length = ds.length -> k ∉ ks -> lookD (ks ++ [k]) (ds ++ [d]) j = if k = j then some d else lookD ks ds j
  | [], [], k, d, j, _, _ => rfl
  | [], _ :: _, _, _, _, h, _ => by cases h
  | _ :: _, [], _, _, _, h, _ => by cases h
  | k0 :: ks, d0 :: ds, k, d, j, hl, h => by
    have ih := look_app (ks := ks) (ds := ds) (k := k) (d := d) j (by simpa using hl) (fun z => h (List.mem_cons_of_mem _ z))
    rw [List.cons_append, List.cons_append]
    show (if k0 = j then some d0 else lookD (ks ++ [k]) (ds ++ [d]) j) = if k = j then some d else if k0 = j then some d0 else lookD ks ds j
    rw [ih]
    by_cases h0 : k0 = j
    · rw [if_pos h0, if_pos h0, if_neg (fun z => h (by rw [h0, <- z]; exact List.mem_cons_self))]
    · rw [if_neg h0, if_neg h0]
theorem repl_len : ∀ (ks : List Key) (ds : List D) (k : Key) (d : D), ks.length = ds.length -> (replL ks ds k d).length = ds.length
  | [], [], _, _, _ => rfl
  | [], _ :: _, _, _, h => by cases h
  | _ :: _, [], _, _, h => by cases h
  | k0 :: ks, d0 :: ds, k, d, h => by
    unfold replL
    rw [List.length_cons, List.length_cons, repl_len ks ds k d (by simpa using h)]
theorem repl_mem : ∀ {ks : List Key} {ds : List D} {k : Key} {d x : D}, x ∈ replL ks ds k d -> x = d \/ x ∈ ds
  | [], ds, _, _, _, h => by cases ds <;> cases h
  | _ :: _, [], _, _, _, h => by cases h
  | k0 :: ks, d0 :: ds, k, d, x, h => by
    unfold replL at h
    rcases List.mem_cons.mp h with z | z
    · by_cases e : k0 = k
      · rw [if_pos e] at z; exact .inl z
      · rw [if_neg e] at z; exact .inr (by rw [z]; exact List.mem_cons_self)
    · rcases repl_mem z with y | y
      · exact .inl y
      · exact .inr (List.mem_cons_of_mem _ y)
theorem look_drop : ∀ (ks : List Key) (ds : List D) (k j : Key), lookD (dropDs ks ds k).1 (dropDs ks ds k).2 j = if k = j then none else lookD ks ds j
  | [], ds, k, j => by cases ds <;> (show (none : Option D) = _; by_cases h : k = j <;> simp [h, lookD])
  | _ :: _, [], k, j => by show (none : Option D) = _; by_cases h : k = j <;> simp [h, lookD]
  | k0 :: ks, d0 :: ds, k, j => by
    have ih := look_drop ks ds k j
    unfold dropDs
    by_cases h0 : k0 = k
    · rw [if_pos h0, ih]
      by_cases h : k = j
      · rw [if_pos h, if_pos h]
      · rw [if_neg h, if_neg h]
        show _ = if k0 = j then some d0 else lookD ks ds j
        rw [if_neg (by rw [h0]; exact h)]
    · rw [if_neg h0]
      show (if k0 = j then some d0 else lookD (dropDs ks ds k).1 (dropDs ks ds k).2 j) = if k = j then none else if k0 = j then some d0 else lookD ks ds j
      rw [ih]
      by_cases h1 : k0 = j
      · rw [if_pos h1, if_pos h1, if_neg (fun z => h0 (by rw [h1, z]))]
      · rw [if_neg h1, if_neg h1]
theorem drop_sub : ∀ (ks : List Key) (ds : List D) (k : Key), List.Sublist (dropDs ks ds k).1 ks /\ List.Sublist (dropDs ks ds k).2 ds /\ (dropDs ks ds k).1.length = (dropDs ks ds k).2.length
  | [], ds, k => by cases ds <;> exact ⟨List.nil_sublist _, List.nil_sublist _, rfl⟩
  | _ :: _, [], k => ⟨List.nil_sublist _, List.nil_sublist _, rfl⟩
  | k0 :: ks, d0 :: ds, k => by
    obtain ⟨h1, h2, h3⟩ := drop_sub ks ds k
    unfold dropDs
    by_cases h0 : k0 = k
    · rw [if_pos h0]; exact ⟨h1.trans (List.sublist_cons_self _ _), h2.trans (List.sublist_cons_self _ _), h3⟩
    · rw [if_neg h0]; exact ⟨h1.cons₂ _, h2.cons₂ _, by show _ + 1 = _ + 1; rw [h3]⟩
theorem drop_none : ∀ {ks : List Key} {ds : List D} {k : Key}, ks.length = ds.length -> k ∉ ks -> dropDs ks ds k = (ks, ds)
  | [], [], _, _, _ => rfl
  | [], _ :: _, _, h, _ => by cases h
  | _ :: _, [], _, h, _ => by cases h
  | k0 :: ks, d0 :: ds, k, hl, h => by
    have ih := drop_none (ks := ks) (ds := ds) (k := k) (by simpa using hl) (fun z => h (List.mem_cons_of_mem _ z))
    unfold dropDs
    rw [if_neg (fun z => h (by rw [z]; exact List.mem_cons_self)), ih]
theorem drop_len : ∀ {ks : List Key} {ds : List D} {k : Key}, ks.length = ds.length -> ks.Nodup -> k ∈ ks -> (dropDs ks ds k).1.length + 1 = ks.length
  | [], _, _, _, _, h => by cases h
  | _ :: _, [], _, h, _, _ => by cases h
  | k0 :: ks, d0 :: ds, k, hl, nd, h => by
    rw [List.nodup_cons] at nd
    have hl' : ks.length = ds.length := by simpa using hl
    unfold dropDs
    by_cases h0 : k0 = k
    · rw [if_pos h0, drop_none hl' (by rw [<- h0]; exact nd.1)]; rfl
    · rw [if_neg h0]
      rcases List.mem_cons.mp h with z | z
      · exact absurd z.symm h0
      · show (dropDs ks ds k).1.length + 1 + 1 = ks.length + 1
        rw [drop_len hl' nd.2 z]
theorem look_at : ∀ {ks : List Key} {ds : List D} {i : Nat} {k : Key} {d : D}, ks.Nodup -> ks[i]? = some k -> ds[i]? = some d -> lookD ks ds k = some d
  | [], _, _, _, _, _, h, _ => by cases h
  | _ :: _, [], _, _, _, _, _, h => by cases h
  | k0 :: ks, d0 :: ds, 0, k, d, nd, h1, h2 => by
    cases h1; cases h2
    exact if_pos rfl
  | k0 :: ks, d0 :: ds, i + 1, k, d, nd, h1, h2 => by
    rw [List.nodup_cons] at nd
    rw [List.getElem?_cons_succ] at h1 h2
    unfold lookD
    rw [if_neg (fun z => nd.1 (by rw [z]; exact List.mem_of_getElem? h1))]
    exact look_at nd.2 h1 h2
theorem hits_self {js : List Key} {ys : List D} : ∀ (ks : List Key) (xs : List D), (∀ (i : Nat) (k : Key) (x : D), ks[i]? = some k -> xs[i]? = some x -> lookD js ys k = some x) -> (∀ x ∈ xs, eqF 2 x x = some true) -> hitsX js ys ks xs = some true
  | [], xs, _, _ => by cases xs <;> rfl
  | _ :: _, [], _, _ => rfl
  | k :: ks, x :: xs, h1, h2 => by
    have ih := hits_self ks xs (fun i k' x' a b => h1 (i + 1) k' x' (by simpa using a) (by simpa using b)) (fun y hy => h2 y (List.mem_cons_of_mem _ hy))
    unfold hitsX
    rw [h1 0 k x rfl rfl]
    dsimp only
    rw [h2 x List.mem_cons_self, ih]
    rfl
noncomputable def Val (d : D) : Prop := d.imm = true /\ eqF 2 d d = some true
structure G (ks : List Key) (ds : List D) : Prop where
  nd : ks.Nodup
  len : ks.length = ds.length
  val : ∀ d ∈ ds, Val d
theorem imms_of : ∀ {ds : List D}, (∀ d ∈ ds, Val d) -> D.imms ds = true
  | [], _ => rfl
  | d :: ds, h => by
    show (D.imm d && D.imms ds) = true
    rw [(h d List.mem_cons_self).1, imms_of fun x hx => h x (List.mem_cons_of_mem _ hx)]
    rfl
theorem G.put {ks : List Key} {ds : List D} (g : G ks ds) (k : Key) {d : D} (hd : Val d) : G (putP ks ds k d).1 (putP ks ds k d).2 := by
  unfold putP
  by_cases h : k ∈ ks
  · rw [if_pos h]
    exact ⟨g.nd, by show ks.length = _; rw [repl_len ks ds k d g.len]; exact g.len, fun x hx => by
      rcases repl_mem hx with z | z
      · rw [z]; exact hd
      · exact g.val x z⟩
  · rw [if_neg h]
    refine ⟨?_, by show (ks ++ [k]).length = (ds ++ [d]).length; rw [List.length_append, List.length_append, g.len]; rfl, fun x hx => ?_⟩
    · show (ks ++ [k]).Nodup
      rw [List.nodup_append]
      exact ⟨g.nd, by simp, fun a ha b hb z => h (by rw [<- List.mem_singleton.mp hb, <- z]; exact ha)⟩
    · rcases List.mem_append.mp hx with z | z
      · exact g.val x z
      · rw [List.mem_singleton.mp z]; exact hd
theorem G.drop {ks : List Key} {ds : List D} (g : G ks ds) (k : Key) : G (dropDs ks ds k).1 (dropDs ks ds k).2 := by
  obtain ⟨h1, h2, h3⟩ := drop_sub ks ds k
  exact ⟨g.nd.sublist h1, h3, fun d hd => g.val d (h2.subset hd)⟩
theorem G.look_put {ks : List Key} {ds : List D} (g : G ks ds) (k : Key) (d : D) (j : Key) : lookD (putP ks ds k d).1 (putP ks ds k d).2 j = if k = j then some d else lookD ks ds j := by
  unfold putP
  by_cases h : k ∈ ks
  · rw [if_pos h]
    show lookD ks (replL ks ds k d) j = _
    rw [look_repl]
    by_cases e : k = j
    · rw [if_pos e, if_pos e]
      obtain ⟨d', h', _⟩ := look_in g.len h
      rw [<- e, h']; rfl
    · rw [if_neg e, if_neg e]
  · rw [if_neg h]
    exact look_app j g.len h
theorem put_len (ks : List Key) (ds : List D) (k : Key) (d : D) : (putP ks ds k d).1.length = if k ∈ ks then ks.length else ks.length + 1 := by
  unfold putP
  by_cases h : k ∈ ks
  · rw [if_pos h, if_pos h]
  · rw [if_neg h, if_neg h]; show (ks ++ [k]).length = _; rw [List.length_append]; rfl
theorem G.eq {ks : List Key} {ds : List D} (g : G ks ds) : eqKD (.dic ks ds) (.dic ks ds) = .ok (.bl true) := by
  unfold eqKD
  dsimp only
  rw [if_pos rfl, hits_self ks ds (fun i k x a b => look_at g.nd a b) fun x hx => (g.val x hx).2]
theorem G.copy {ks : List Key} {ds : List D} (g : G ks ds) : dictAD [.dic ks ds] = .ok (.dic ks ds) := if_pos (imms_of g.val)
theorem val_int (n : Int) : Val (.int n) := ⟨rfl, by show some (n == n) = _; rw [beq_self_eq_true]⟩
noncomputable def ky (b : Bd) : Key := .inr b.1
theorem are_off {ks : List Key} {ds : List D} {b : Bd} (hb : b ∈ BN) (h : okE ks ds b = false) : F_are_rules [.dic ks ds] = .ok (.bl false) := by
  have e : BN.all (okE ks ds) = false := by
    rw [List.all_eq_false]
    exact ⟨b, hb, by rw [h]; exact Bool.false_ne_true⟩
  rw [are_dic, e, Bool.and_false]
theorem are_long {ks : List Key} {ds : List D} (h : ks.length ≠ 10) : F_are_rules [.dic ks ds] = .ok (.bl false) := by
  rw [are_dic, beq_eq_false_iff_ne.mpr h, Bool.false_and]
theorem are_yes {ks : List Key} {ds : List D} (hl : ks.length = 10) (h : ∀ b ∈ BN, okE ks ds b = true) : F_are_rules [.dic ks ds] = .ok (.bl true) := by
  rw [are_dic, List.all_eq_true.mpr h, hl]
  rfl
theorem okE_of {ks : List Key} {ds : List D} {b : Bd} {d : D} (h : lookD ks ds (ky b) = some d) : okE ks ds b = okW d b.2.1 b.2.2 := by
  unfold okE
  have h : lookD ks ds (.inr b.1) = some d := h
  rw [h]
theorem okE_none {ks : List Key} {ds : List D} {b : Bd} (h : lookD ks ds (ky b) = none) : okE ks ds b = false := by
  unfold okE
  have h : lookD ks ds (.inr b.1) = none := h
  rw [h]
end K02

set_option maxRecDepth 100000
set_option maxHeartbeats 4000000
namespace K02
open PySem PyProof.Rows L2
noncomputable def LB : List Bd := [("width", 4, 2000), ("height", 2, 200), ("part", 0, 100000), ("twin", 0, 100000), ("over", 1, 100000), ("lone", 0, 100000), ("late", 0, 100000), ("gap", 0, 5), ("ahead", 1, 6), ("behind", 1, 6)]
theorem LB_nd : (LB.map ky).Nodup := by decide +kernel
theorem LB_BN : ∀ b ∈ LB, b ∈ BN := by decide +kernel
theorem BN_LB : ∀ b ∈ BN, b ∈ LB := by decide +kernel
theorem LB_lo : ∀ b ∈ LB, 0 <= b.2.1 /\ b.2.1 < b.2.2 /\ b.2.2 <= 100000 /\ b.1.length <= 6 := by decide +kernel
theorem bounds : F__law_bounds [] = .ok (.lst (LB.map encB)) := by
  show runB 1 t__law_bounds [] = _
  unfold t__law_bounds
  have h : ∀ xs ys : List D, D.imms xs = true -> D.imms ys = true -> xs.length + ys.length <= 100 -> addD (.lst xs) (.lst ys) = .ok (.lst (xs ++ ys)) := fun xs ys h1 h2 h3 => if_pos ⟨h1, h2, Nat.le_trans h3 (by rw [sizeLine_eq]; decide)⟩
  simp only [runB, sSeq, sSet, sRet, eVar, eC, eBin, eL, aNil, aCons, R.ok_bind, List.map_nil, List.length_nil, List.replicate_succ, List.replicate_zero, List.nil_append, List.getElem?_cons_zero, List.set_cons_zero, Nat.reduceSub]
  rw [h _ _ rfl rfl (by decide)]
  rfl
structure Ru (ks : List Key) (ds : List D) : Prop where
  g : G ks ds
  len : ks.length = 10
  keys : ks = LB.map ky
  at' : ∀ b ∈ LB, ∃ n, lookD ks ds (ky b) = some (.int n) /\ b.2.1 <= n /\ n <= b.2.2
noncomputable def bR : Tn -> R Fl := (sSeq (sAsg (.many [4, 5, 6]) (eVar 3)) (sSeq (sSet 7 (eL F__law_cell_at (aCons (eVar 0) (aCons (eBin addD (eC (.int 3)) (eVar 2)) aNil)))) (sSeq (sKPut 1 (eBin addD (eVar 5) (eBin modD (eBin fdivD (eVar 7) (eC (.int 4))) (eBin addD (eBin subD (eVar 6) (eVar 5)) (eC (.int 1))))) (eVar 4)) (sSeq (sIf (eTest (eBin (eqR false) (eBin modD (eVar 7) (eC (.int 4))) (eC (.int 1)))) (sKPut 1 (eImm (eVar 5)) (eVar 4)) sSkip) (sIf (eTest (eBin (eqR false) (eBin modD (eVar 7) (eC (.int 4))) (eC (.int 2)))) (sKPut 1 (eImm (eVar 6)) (eVar 4)) sSkip)))))
theorem tR : F__law_rules = runB 8 (sSeq (sSet 1 (eC (.dic [] []))) (sSeq (sFor (iL enumL (aCons (fun _ => F__law_bounds []) aNil)) (.many [2, 3]) bR) (sRet (eVar 1)))) := rfl
theorem put_app {ks : List Key} {ds : List D} {k : Key} {d : D} (h : k ∉ ks) : putP ks ds k d = (ks ++ [k], ds ++ [d]) := if_neg h
theorem repl_app : ∀ {ks : List Key} {ds : List D} {k : Key} {d e : D}, ks.length = ds.length -> k ∉ ks -> replL (ks ++ [k]) (ds ++ [d]) k e = ds ++ [e]
  | [], [], k, d, e, _, _ => by show [if k = k then e else d] = [e]; rw [if_pos rfl]
  | [], _ :: _, _, _, _, h, _ => by cases h
  | _ :: _, [], _, _, _, h, _ => by cases h
  | k0 :: ks, d0 :: ds, k, d, e, hl, h => by
    show (if k0 = k then e else d0) :: replL (ks ++ [k]) (ds ++ [d]) k e = d0 :: (ds ++ [e])
    rw [if_neg (fun z => h (by rw [z]; exact List.mem_cons_self)), repl_app (by simpa using hl) (fun z => h (List.mem_cons_of_mem _ z))]
theorem put_again {ks : List Key} {ds : List D} {k : Key} {d e : D} (hl : ks.length = ds.length) (h : k ∉ ks) : putP (ks ++ [k]) (ds ++ [d]) k e = (ks ++ [k], ds ++ [e]) := by
  unfold putP
  rw [if_pos (by simp), repl_app hl h]
theorem bR_ok (S : D) (ks : List Key) (ds : List D) (i : Int) (x : Str) (lo hi c : Int) (y7 : Option D) (y4 y5 y6 : Option D) (hl : ks.length = ds.length) (hk : ks.length < 1000) (hx : Key.inr x ∉ ks) (hc : F__law_cell_at [S, .int (3 + i)] = .ok (.int c)) (h1 : 0 <= lo) (h2 : lo < hi) (h3 : hi <= 100000) :
    ∃ n, lo <= n /\ n <= hi /\ bR [some S, some (.dic ks ds), some (.int i), some (.tup [.str x, .int lo, .int hi]), y4, y5, y6, y7] = .ok (.nx [some S, some (.dic (ks ++ [.inr x]) (ds ++ [.int n])), some (.int i), some (.tup [.str x, .int lo, .int hi]), some (.str x), some (.int lo), some (.int hi), some (.int c)]) := by
  have m1 : modD (.int c) (.int 4) = .ok (.int (c % 4)) := ev_mod (by decide)
  have f1 : fdivD (.int c) (.int 4) = .ok (.int (c / 4)) := ev_fdiv (by decide) (by decide)
  have m2 : modD (.int (c / 4)) (.int (hi - lo + 1)) = .ok (.int (c / 4 % (hi - lo + 1))) := ev_mod (by omega)
  have b1 := Int.emod_nonneg (c / 4) (show hi - lo + 1 ≠ 0 by omega)
  have b2 := Int.emod_lt_of_pos (c / 4) (show 0 < hi - lo + 1 by omega)
  have k1 : ∀ (τ : Tn) (n : Int), kputD 1 τ (.int n) (.dic ks ds) (.str x) = .ok (.nx (τ.set 1 (some (.dic (ks ++ [.inr x]) (ds ++ [.int n]))))) := fun τ n => by rw [ev_kput rfl (by omega), put_app hx]
  have k2 : ∀ (τ : Tn) (n m : Int), kputD 1 τ (.int n) (.dic (ks ++ [.inr x]) (ds ++ [.int m])) (.str x) = .ok (.nx (τ.set 1 (some (.dic (ks ++ [.inr x]) (ds ++ [.int n]))))) := fun τ n m => by rw [ev_kput rfl (by rw [List.length_append]; show ks.length + 1 < _; omega), put_again hl hx]
  generalize c / 4 % (hi - lo + 1) = v at *
  by_cases e1 : c % 4 = 1
  · refine ⟨lo, by omega, by omega, ?_⟩
    have q1 : eqR false (.int (c % 4)) (.int 1) = .ok (.bl true) := by rw [e1]; rfl
    have q2 : eqR false (.int (c % 4)) (.int 2) = .ok (.bl false) := by rw [e1]; rfl
    simp only [bR, setAll, ev_eImm, ev_immI, sSkip, sSeq, sSet, sIf, sAsg, eVar, eC, eBin, eL, aNil, aCons, eTest, asB, Tgt.asg, R.ok_bind, List.length_cons, List.length_nil, List.getElem?_cons_zero, List.getElem?_cons_succ, List.set_cons_zero, List.set_cons_succ, Nat.reduceAdd, Nat.zero_add, ev_add, ev_sub, if_true, if_false, Bool.false_eq_true, hc, m1, f1, m2, ev_sKPut, k1, k2, q1, q2]
  · have q1 : eqR false (.int (c % 4)) (.int 1) = .ok (.bl false) := by rw [ev_eqi, beq_eq_false_iff_ne.mpr e1]; rfl
    by_cases e2 : c % 4 = 2
    · refine ⟨hi, by omega, by omega, ?_⟩
      have q2 : eqR false (.int (c % 4)) (.int 2) = .ok (.bl true) := by rw [e2]; rfl
      simp only [bR, setAll, ev_eImm, ev_immI, sSkip, sSeq, sSet, sIf, sAsg, eVar, eC, eBin, eL, aNil, aCons, eTest, asB, Tgt.asg, R.ok_bind, List.length_cons, List.length_nil, List.getElem?_cons_zero, List.getElem?_cons_succ, List.set_cons_zero, List.set_cons_succ, Nat.reduceAdd, Nat.zero_add, ev_add, ev_sub, if_true, if_false, Bool.false_eq_true, hc, m1, f1, m2, ev_sKPut, k1, k2, q1, q2]
    · refine ⟨lo + v, by omega, by omega, ?_⟩
      have q2 : eqR false (.int (c % 4)) (.int 2) = .ok (.bl false) := by rw [ev_eqi, beq_eq_false_iff_ne.mpr e2]; rfl
      simp only [bR, setAll, ev_eImm, ev_immI, sSkip, sSeq, sSet, sIf, sAsg, eVar, eC, eBin, eL, aNil, aCons, eTest, asB, Tgt.asg, R.ok_bind, List.length_cons, List.length_nil, List.getElem?_cons_zero, List.getElem?_cons_succ, List.set_cons_zero, List.set_cons_succ, Nat.reduceAdd, Nat.zero_add, ev_add, ev_sub, if_true, if_false, Bool.false_eq_true, hc, m1, f1, m2, ev_sKPut, k1, k2, q1, q2]
noncomputable def inB : List Bd -> List Int -> Prop
  | [], [] => True
  | b :: bs, n :: ns => b.2.1 <= n /\ n <= b.2.2 /\ inB bs ns
  | _, _ => False
theorem lR_ok (S : D) (hS : ∀ k : Int, 0 <= k -> ∃ v, F__law_cell_at [S, .int k] = .ok (.int v)) : ∀ (bs : List Bd) (i : Nat) (ks : List Key) (ds : List D) (y2 y3 y4 y5 y6 y7 : Option D), ks.length = ds.length -> ks.length + bs.length < 1000 -> (ks ++ bs.map ky).Nodup -> (∀ b ∈ bs, 0 <= b.2.1 /\ b.2.1 < b.2.2 /\ b.2.2 <= 100000 /\ b.1.length <= 6) ->
    ∃ (ns : List Int) (z2 z3 z4 z5 z6 z7 : Option D), inB bs ns /\ forGo (Tgt.many [2, 3]).asg bR (enumGo i (bs.map encB)) [some S, some (.dic ks ds), y2, y3, y4, y5, y6, y7] = .ok (.nx [some S, some (.dic (ks ++ bs.map ky) (ds ++ ns.map .int)), z2, z3, z4, z5, z6, z7])
  | [], i, ks, ds, y2, y3, y4, y5, y6, y7, _, _, _, _ => ⟨[], y2, y3, y4, y5, y6, y7, trivial, by rw [List.map_nil, List.map_nil, List.map_nil, List.append_nil, List.append_nil]; rfl⟩
  | (x, lo, hi) :: bs, i, ks, ds, y2, y3, y4, y5, y6, y7, hl, hk, nd, hb => by
    obtain ⟨c, hc⟩ := hS (3 + (i : Int)) (by omega)
    obtain ⟨h1, h2, h3, h4⟩ := hb _ List.mem_cons_self
    have hx : Key.inr x ∉ ks := by
      rw [List.nodup_append] at nd
      exact fun z => nd.2.2 _ z _ List.mem_cons_self rfl
    rw [List.length_cons] at hk
    obtain ⟨n, n1, n2, hbo⟩ := bR_ok S ks ds i x lo hi c y7 y4 y5 y6 hl (by omega) hx hc h1 h2 h3
    obtain ⟨ns, z2, z3, z4, z5, z6, z7, hin, h⟩ := lR_ok S hS bs (i + 1) (ks ++ [.inr x]) (ds ++ [.int n]) (some (.int i)) (some (.tup [.str x, .int lo, .int hi])) (some (.str x)) (some (.int lo)) (some (.int hi)) (some (.int c)) (by rw [List.length_append, List.length_append, hl]; rfl) (by rw [List.length_append]; show ks.length + 1 + _ < _; omega) (by rw [List.append_assoc]; exact nd) (fun b hb' => hb b (List.mem_cons_of_mem _ hb'))
    refine ⟨n :: ns, z2, z3, z4, z5, z6, z7, ⟨n1, n2, hin⟩, ?_⟩
    have ha : (Tgt.many [2, 3]).asg (.tup [.int ((i : Nat) : Int), encB (x, lo, hi)]) [some S, some (.dic ks ds), y2, y3, y4, y5, y6, y7] = .ok [some S, some (.dic ks ds), some (.int i), some (encB (x, lo, hi)), y4, y5, y6, y7] := rfl
    have he : enumGo i (encB (x, lo, hi) :: bs.map encB) = .tup [.int ((i : Nat) : Int), encB (x, lo, hi)] :: enumGo (i + 1) (bs.map encB) := rfl
    rw [List.map_cons, he, ev_forC, ha, R.ok_bind]
    have hbo : bR [some S, some (.dic ks ds), some (.int i), some (encB (x, lo, hi)), y4, y5, y6, y7] = .ok (.nx [some S, some (.dic (ks ++ [.inr x]) (ds ++ [.int n])), some (.int i), some (.tup [.str x, .int lo, .int hi]), some (.str x), some (.int lo), some (.int hi), some (.int c)]) := hbo
    rw [hbo, R.ok_bind, ev_goN, h, List.append_assoc, List.append_assoc]
    rfl
theorem in_look : ∀ {bs : List Bd} {ns : List Int}, inB bs ns -> (bs.map ky).Nodup -> (bs.map ky).length = (ns.map D.int).length /\ ∀ b ∈ bs, ∃ n, lookD (bs.map ky) (ns.map .int) (ky b) = some (.int n) /\ b.2.1 <= n /\ n <= b.2.2
  | [], [], _, _ => ⟨rfl, fun b hb => by cases hb⟩
  | [], _ :: _, h, _ => h.elim
  | _ :: _, [], h, _ => h.elim
  | b0 :: bs, n :: ns, h, nd => by
    obtain ⟨h1, h2, h3⟩ := h
    rw [List.map_cons, List.nodup_cons] at nd
    obtain ⟨e, ih⟩ := in_look h3 nd.2
    refine ⟨by rw [List.map_cons, List.map_cons, List.length_cons, List.length_cons, e], fun b hb => ?_⟩
    rw [List.map_cons, List.map_cons]
    unfold lookD
    rcases List.mem_cons.mp hb with z | z
    · subst z
      exact ⟨n, if_pos rfl, h1, h2⟩
    · rw [if_neg (fun y => nd.1 (by rw [y]; exact List.mem_map.mpr ⟨b, z, rfl⟩))]
      exact ih b z
theorem rules_ok (ns : List Int) : ∃ ks ds, F__law_rules [.frl (ns.map .int)] = .ok (.dic ks ds) /\ Ru ks ds := by
  obtain ⟨ms, z2, z3, z4, z5, z6, z7, hin, h⟩ := lR_ok (.frl (ns.map .int)) (fun k hk => cell ns k hk) LB 0 [] [] none none none none none none rfl (by decide) LB_nd LB_lo
  have hb := bounds
  obtain ⟨hl, hlk⟩ := in_look hin LB_nd
  refine ⟨LB.map ky, ms.map .int, ?_, ⟨LB_nd, hl, fun d hd => ?_⟩, rfl, rfl, hlk⟩
  · have hi : ∀ τ : Tn, iL enumL (aCons (fun _ => F__law_bounds []) aNil) τ = .ok (enumGo 0 (LB.map encB)) := fun τ => by
      show (R.bind (R.bind (F__law_bounds []) fun x => R.bind (R.ok []) fun xs => .ok (x :: xs)) enumL) = _
      rw [hb]
      rfl
    have hf := ev_for (hi [some (.frl (ns.map .int)), some (.dic [] []), none, none, none, none, none, none]) h
    rw [tR]
    rw [List.nil_append, List.nil_append] at hf
    generalize sFor (iL enumL (aCons (fun _ => F__law_bounds []) aNil)) (.many [2, 3]) bR = SF at *
    simp only [runB, sSeq, sSet, sRet, eVar, eC, R.ok_bind, List.map_cons, List.map_nil, List.length_cons, List.length_nil, List.replicate_succ, List.replicate_zero, List.cons_append, List.nil_append, List.getElem?_cons_zero, List.getElem?_cons_succ, List.set_cons_zero, List.set_cons_succ, Nat.reduceSub, Nat.zero_add, hf]
  · obtain ⟨n, _, rfl⟩ := List.mem_map.mp hd
    exact val_int n
theorem Ru.put_off {ks : List Key} {ds : List D} (r : Ru ks ds) {b : Bd} (hb : b ∈ LB) {d : D} (hw : okW d b.2.1 b.2.2 = false) : F_are_rules [.dic (putP ks ds (ky b) d).1 (putP ks ds (ky b) d).2] = .ok (.bl false) := by
  refine are_off (LB_BN b hb) ?_
  have e := r.g.look_put (ky b) d (ky b)
  rw [if_pos rfl] at e
  rw [okE_of e, hw]
theorem off_lo (b : Bd) (n : Int) (h : n < b.2.1) : okW (.int n) b.2.1 b.2.2 = false := by
  show (decide (b.2.1 <= n) && decide (n <= b.2.2)) = false
  rw [decide_eq_false (by omega), Bool.false_and]
theorem off_hi (b : Bd) (n : Int) (h : b.2.2 < n) : okW (.int n) b.2.1 b.2.2 = false := by
  show (decide (b.2.1 <= n) && decide (n <= b.2.2)) = false
  rw [decide_eq_false (p := n <= b.2.2) (by omega), Bool.and_false]
noncomputable def bI : Tn -> R Fl := (sSeq (sSet 5 (eL dictAD (aCons (eVar 0) aNil))) (sSeq (sKPut 5 (eImm (eVar 4)) (eVar 1)) (sIf (bNot (eTest (eL F__law_refused (aCons (eVar 5) aNil)))) (sRet (eC (.bl false))) sSkip)))
noncomputable def bB : Tn -> R Fl := sFor (iSeq (eL (fun ds => .ok (.lst ds)) (aCons (eBin subD (eVar 2) (eC (.int 1))) (aCons (eBin addD (eVar 3) (eC (.int 1))) aNil)))) (.one 4) bI
theorem tAB : F__law_all_bounds = runB 6 (sSeq (sFor (iSeq (fun _ => F__law_bounds [])) (.many [1, 2, 3]) bB) (sRet (eC (.bl true)))) := rfl
theorem bI_ok {ks : List Key} {ds : List D} (r : Ru ks ds) {b : Bd} (hb : b ∈ LB) (y2 y3 y5 : Option D) (n : Int) (hw : okW (.int n) b.2.1 b.2.2 = false) : ∃ z5, bI [some (.dic ks ds), some (.str b.1), y2, y3, some (.int n), y5] = .ok (.nx [some (.dic ks ds), some (.str b.1), y2, y3, some (.int n), z5]) := by
  have hc := r.g.copy
  have hr := refused _ (r.put_off hb hw)
  have hk : ∀ τ : Tn, kputD 5 τ (.int n) (.dic ks ds) (.str b.1) = .ok (.nx (τ.set 5 (some (.dic (putP ks ds (ky b) (.int n)).1 (putP ks ds (ky b) (.int n)).2)))) := fun τ => ev_kput rfl (by rw [r.len]; decide)
  refine ⟨some (.dic (putP ks ds (ky b) (.int n)).1 (putP ks ds (ky b) (.int n)).2), ?_⟩
  generalize (putP ks ds (ky b) (.int n)).1 = k1 at *
  generalize (putP ks ds (ky b) (.int n)).2 = d1 at *
  simp only [bI, ev_eImm, ev_immI, sSkip, sSeq, sSet, sRet, sIf, eVar, eC, eL, aNil, aCons, eTest, bNot, asB, R.ok_bind, List.getElem?_cons_zero, List.getElem?_cons_succ, List.set_cons_zero, List.set_cons_succ, if_false, Bool.false_eq_true, Bool.not_true, hc, ev_sKPut, hk, hr]
theorem bB_ok {ks : List Key} {ds : List D} (r : Ru ks ds) {b : Bd} (hb : b ∈ LB) (y4 y5 : Option D) : ∃ z4 z5, bB [some (.dic ks ds), some (.str b.1), some (.int b.2.1), some (.int b.2.2), y4, y5] = .ok (.nx [some (.dic ks ds), some (.str b.1), some (.int b.2.1), some (.int b.2.2), z4, z5]) := by
  obtain ⟨u5, h1⟩ := bI_ok r hb (some (.int b.2.1)) (some (.int b.2.2)) y5 (b.2.1 - 1) (off_lo b _ (by omega))
  obtain ⟨w5, h2⟩ := bI_ok r hb (some (.int b.2.1)) (some (.int b.2.2)) u5 (b.2.2 + 1) (off_hi b _ (by omega))
  refine ⟨some (.int (b.2.2 + 1)), w5, ?_⟩
  refine ev_for (ds := [.int (b.2.1 - 1), .int (b.2.2 + 1)]) rfl ?_
  have a1 : (Tgt.one 4).asg (.int (b.2.1 - 1)) [some (.dic ks ds), some (.str b.1), some (.int b.2.1), some (.int b.2.2), y4, y5] = .ok [some (.dic ks ds), some (.str b.1), some (.int b.2.1), some (.int b.2.2), some (.int (b.2.1 - 1)), y5] := rfl
  have a2 : (Tgt.one 4).asg (.int (b.2.2 + 1)) [some (.dic ks ds), some (.str b.1), some (.int b.2.1), some (.int b.2.2), some (.int (b.2.1 - 1)), u5] = .ok [some (.dic ks ds), some (.str b.1), some (.int b.2.1), some (.int b.2.2), some (.int (b.2.2 + 1)), u5] := rfl
  rw [ev_forC, a1, R.ok_bind, h1, R.ok_bind, ev_goN, ev_forC, a2, R.ok_bind, h2, R.ok_bind, ev_goN, ev_forN]
theorem lB_ok {ks : List Key} {ds : List D} (r : Ru ks ds) : ∀ (bs : List Bd) (y1 y2 y3 y4 y5 : Option D), (∀ b ∈ bs, b ∈ LB) -> ∃ z1 z2 z3 z4 z5, forGo (Tgt.many [1, 2, 3]).asg bB (bs.map encB) [some (.dic ks ds), y1, y2, y3, y4, y5] = .ok (.nx [some (.dic ks ds), z1, z2, z3, z4, z5])
  | [], y1, y2, y3, y4, y5, _ => ⟨y1, y2, y3, y4, y5, rfl⟩
  | b :: bs, y1, y2, y3, y4, y5, hb => by
    obtain ⟨u4, u5, h1⟩ := bB_ok r (hb b List.mem_cons_self) y4 y5
    obtain ⟨z1, z2, z3, z4, z5, h2⟩ := lB_ok r bs (some (.str b.1)) (some (.int b.2.1)) (some (.int b.2.2)) u4 u5 fun b' h => hb b' (List.mem_cons_of_mem _ h)
    refine ⟨z1, z2, z3, z4, z5, ?_⟩
    have ha : (Tgt.many [1, 2, 3]).asg (encB b) [some (.dic ks ds), y1, y2, y3, y4, y5] = .ok [some (.dic ks ds), some (.str b.1), some (.int b.2.1), some (.int b.2.2), y4, y5] := rfl
    rw [List.map_cons, ev_forC, ha, R.ok_bind, h1, R.ok_bind, ev_goN, h2]
theorem all_ok {ks : List Key} {ds : List D} (r : Ru ks ds) : F__law_all_bounds [.dic ks ds] = .ok (.bl true) := by
  obtain ⟨z1, z2, z3, z4, z5, h⟩ := lB_ok r LB none none none none none fun _ h => h
  have hi : ∀ τ : Tn, iSeq (fun _ => F__law_bounds []) τ = .ok (LB.map encB) := fun τ => by
    show R.bind (F__law_bounds []) asSeq = _
    rw [bounds]
    rfl
  have hf := ev_for (hi [some (.dic ks ds), none, none, none, none, none]) h
  rw [tAB]
  generalize sFor (iSeq (fun _ => F__law_bounds [])) (.many [1, 2, 3]) bB = SF at *
  simp only [runB, sSeq, sRet, eC, R.ok_bind, List.map_cons, List.map_nil, List.length_cons, List.length_nil, List.replicate_succ, List.replicate_zero, List.cons_append, List.nil_append, Nat.reduceSub, Nat.zero_add, hf]
end K02

set_option maxRecDepth 100000
set_option maxHeartbeats 4000000
namespace K02
open PySem PyProof.Rows L2
noncomputable def oth (b : Bd) : List D := [.str (b.1 ++ ("s" : Str)), .str (Txt.slice b.1 none (some (-1))), .str (Txt.upper b.1), .str "", .str "other", .int 5, .non]
noncomputable def othK (b : Bd) : List Key := [.inr (b.1 ++ ("s" : Str)), .inr (Txt.slice b.1 none (some (-1))), .inr (Txt.upper b.1), .inr "", .inr "other", .inl 5, .non]
theorem oth_keys (b : Bd) : (oth b).map keyOf = (othK b).map some := rfl
theorem othK_out : ∀ b ∈ LB, ∀ k ∈ othK b, k ∉ LB.map ky := by decide +kernel
theorem ix_lst {ds : List D} {i : Int} (h0 : 0 <= i) (h1 : i < (ds.length : Int)) : ∃ d ∈ ds, ixD (.lst ds) (.int i) = .ok d := by
  have h : i.toNat < ds.length := by omega
  exact ⟨ds[i.toNat], List.getElem_mem h, ev_ixl (atI_ok h0 (List.getElem?_eq_getElem h))⟩
theorem oth_key {b : Bd} {d : D} (hd : d ∈ oth b) : ∃ k, keyOf d = some k /\ k ∈ othK b := by
  have h : keyOf d ∈ (othK b).map some := by rw [<- oth_keys]; exact List.mem_map.mpr ⟨d, hd, rfl⟩
  obtain ⟨k, hk, e⟩ := List.mem_map.mp h
  exact ⟨k, e.symm, hk⟩
noncomputable def OT : Tn -> R D := (eBin ixD (eL (fun ds => .ok (.lst ds)) (aCons (eBin addD (eVar 2) (eC (.str "s"))) (aCons (eSl (eVar 2) oNone (oSome (eUn negD (eC (.int 1))))) (aCons (eSm0 upD (eVar 2)) (aCons (eC (.str "")) (aCons (eC (.str "other")) (aCons (eC (.int 5)) (aCons (eC .non) aNil)))))))) (eBin modD (eBin fdivD (eVar 5) (eC (.int 9))) (eC (.int 7))))
theorem ev_sm0 {g : Str -> R D} {t : Tn -> R D} {τ : Tn} {z : Str} (h : t τ = .ok (.str z)) : eSm0 g t τ = g z := by
  unfold eSm0
  rw [h]
  rfl
theorem OT_ok {b : Bd} (hb : b ∈ LB) (S c y3 y4 y6 y7 y8 : Option D) (m : Int) : ∃ d ∈ oth b, OT [S, c, some (.str b.1), y3, y4, some (.int m), y6, y7, y8] = .ok d := by
  obtain ⟨_, _, _, hx⟩ := LB_lo b hb
  have f1 : fdivD (.int m) (.int 9) = .ok (.int (m / 9)) := ev_fdiv (by decide) (by decide)
  have m1 : modD (.int (m / 9)) (.int 7) = .ok (.int (m / 9 % 7)) := ev_mod (by decide)
  have b1 := Int.emod_nonneg (m / 9) (show (7 : Int) ≠ 0 by decide)
  have b2 := Int.emod_lt_of_pos (m / 9) (show (0 : Int) < 7 by decide)
  obtain ⟨d, hd, e⟩ := ix_lst (ds := oth b) b1 (by show _ < ((7 : Nat) : Int); omega)
  have a1 : addD (.str b.1) (.str "s") = .ok (.str (b.1 ++ ("s" : Str))) := ev_adds (by rw [sizeLine_eq]; show b.1.length + 1 <= _; omega)
  have s1 : slD (.str b.1) none (some (-1)) = .ok (.str (Txt.slice b.1 none (some (-1)))) := if_pos (by rw [sizeLine_eq]; omega)
  have u1 : upD b.1 = .ok (.str (Txt.upper b.1)) := if_pos (by omega)
  have u2 : eSm0 upD (eVar 2) [S, c, some (.str b.1), y3, y4, some (.int m), y6, y7, y8] = .ok (.str (Txt.upper b.1)) := (ev_sm0 (z := b.1) rfl).trans u1
  refine ⟨d, hd, ?_⟩
  have e : ixD (.lst [.str (b.1 ++ ("s" : Str)), .str (Txt.slice b.1 none (some (-1))), .str (Txt.upper b.1), .str "", .str "other", .int 5, .non]) (.int (m / 9 % 7)) = .ok d := e
  unfold OT
  generalize m / 9 % 7 = v at *
  generalize m / 9 = w at *
  generalize Txt.slice b.1 none (some (-1)) = x2 at *
  generalize Txt.upper b.1 = x3 at *
  generalize b.1 ++ ("s" : Str) = x1 at *
  generalize eSm0 upD (eVar 2) = TU at *
  generalize b.1 = x0 at *
  simp only [eVar, eC, eBin, eUn, eL, aNil, aCons, eSl, oNone, oSome, R.ok_bind, List.getElem?_cons_zero, List.getElem?_cons_succ, ev_neg, Int.reduceNeg, f1, m1, a1, s1, u2, e]
noncomputable def SM : Tn -> R D := (eL (fun ds => .ok (.lst ds)) (aCons (eBin subD (eVar 3) (eC (.int 1))) (aCons (eBin addD (eVar 4) (eC (.int 1))) (aCons (eBin subD (eBin subD (eVar 3) (eC (.int 1))) (eVar 6)) (aCons (eBin addD (eBin addD (eVar 4) (eC (.int 1))) (eVar 6)) (aCons (eBin ixD (eL (fun ds => .ok (.lst ds)) (aCons (eC (.bl true)) (aCons (eC (.bl false)) aNil))) (eBin modD (eBin fdivD (eVar 5) (eC (.int 9))) (eC (.int 2)))) aNil))))))
noncomputable def VL : Tn -> R D := (eBin ixD (eBin addD (eVar 8) (eL (fun ds => .ok (.lst ds)) (aCons (eBin ixD (eL (fun ds => .ok (.lst ds)) (aCons (eC .non) (aCons (eL str1D (aCons (eVar 3) aNil)) (aCons (eL frzD (aCons (eVar 3) aNil)) (aCons (eL (fun ds => .ok (.tup ds)) (aCons (eVar 3) aNil)) aNil))))) (eBin modD (eBin fdivD (eVar 5) (eC (.int 9))) (eC (.int 4)))) aNil))) (eBin subD (eBin modD (eVar 5) (eC (.int 9))) (eC (.int 3))))
noncomputable def Off (lo hi : Int) (d : D) : Prop := Val d /\ okW d lo hi = false
theorem off_int {lo hi n : Int} (h : n < lo \/ hi < n) : Off lo hi (.int n) := by
  refine ⟨val_int n, ?_⟩
  show (decide (lo <= n) && decide (n <= hi)) = false
  rcases h with h | h
  · rw [decide_eq_false (by omega), Bool.false_and]
  · rw [decide_eq_false (p := n <= hi) (by omega), Bool.and_false]
theorem off_bl {lo hi : Int} (t : Bool) : Off lo hi (.bl t) := ⟨⟨rfl, by cases t <;> rfl⟩, rfl⟩
theorem off_non {lo hi : Int} : Off lo hi .non := ⟨⟨rfl, rfl⟩, rfl⟩
theorem off_str {lo hi : Int} (x : Str) : Off lo hi (.str x) := ⟨⟨rfl, by show some (x == x) = _; rw [beq_self_eq_true]⟩, rfl⟩
theorem off_frl {lo hi : Int} (n : Int) : Off lo hi (.frl [.int n]) := ⟨⟨rfl, by show some ((n == n) && true) = _; rw [beq_self_eq_true]; rfl⟩, rfl⟩
theorem off_tup {lo hi : Int} (n : Int) : Off lo hi (.tup [.int n]) := ⟨⟨rfl, by show some (((n == n) && true) && (1 : Nat) == 1) = _; rw [beq_self_eq_true]; rfl⟩, rfl⟩
theorem imms1 {d : D} (h : d.imm = true) : D.imms [d] = true := by
  show (d.imm && true) = true
  rw [h]; rfl
theorem log_lt {i : Int} (h0 : 0 <= i) (h1 : i < 1000000) : i.natAbs.log2 < 1920 := by
  by_cases hz : i.natAbs = 0
  · rw [hz]; decide
  · have : i.natAbs.log2 < 20 := (Nat.log2_lt hz).mpr (by omega)
    omega
theorem VL_ok {b : Bd} (hb : b ∈ LB) (S c y7 : Option D) (m far : Int) (hf : 0 <= far) (h3 : 3 <= m % 9) : ∃ X d, SM [S, c, some (.str b.1), some (.int b.2.1), some (.int b.2.2), some (.int m), some (.int far), y7, none] = .ok X /\ VL [S, c, some (.str b.1), some (.int b.2.1), some (.int b.2.2), some (.int m), some (.int far), y7, some X] = .ok d /\ Off b.2.1 b.2.2 d := by
  obtain ⟨l1, l2, l3, hx⟩ := LB_lo b hb
  generalize b.2.1 = lo at *
  generalize b.2.2 = hi at *
  have f1 : fdivD (.int m) (.int 9) = .ok (.int (m / 9)) := ev_fdiv (by decide) (by decide)
  have m0 : modD (.int m) (.int 9) = .ok (.int (m % 9)) := ev_mod (by decide)
  have m1 : modD (.int (m / 9)) (.int 2) = .ok (.int (m / 9 % 2)) := ev_mod (by decide)
  have m2 : modD (.int (m / 9)) (.int 4) = .ok (.int (m / 9 % 4)) := ev_mod (by decide)
  have b1 := Int.emod_nonneg (m / 9) (show (2 : Int) ≠ 0 by decide)
  have b2 := Int.emod_lt_of_pos (m / 9) (show (0 : Int) < 2 by decide)
  have c1 := Int.emod_nonneg (m / 9) (show (4 : Int) ≠ 0 by decide)
  have c2 := Int.emod_lt_of_pos (m / 9) (show (0 : Int) < 4 by decide)
  have d2 := Int.emod_lt_of_pos m (show (0 : Int) < 9 by decide)
  obtain ⟨dt, ht, et⟩ := ix_lst (ds := [.bl true, .bl false]) b1 (by show _ < ((2 : Nat) : Int); omega)
  obtain ⟨d4, h4, e4⟩ := ix_lst (ds := [.non, .str (toString lo), .frl [.int lo], .tup [.int lo]]) c1 (by show _ < ((4 : Nat) : Int); omega)
  have ot : Off lo hi dt := by
    simp only [List.mem_cons, List.not_mem_nil, or_false] at ht
    rcases ht with rfl | rfl <;> exact off_bl _
  have o4 : Off lo hi d4 := by
    simp only [List.mem_cons, List.not_mem_nil, or_false] at h4
    rcases h4 with rfl | rfl | rfl | rfl
    · exact off_non
    · exact off_str _
    · exact off_frl _
    · exact off_tup _
  have s1 : str1D [.int lo] = .ok (.str (toString lo)) := if_pos (log_lt l1 (by omega))
  have s2 : frzD [.int lo] = .ok (.frl [.int lo]) := if_pos rfl
  obtain ⟨d, hd, ed⟩ := ix_lst (ds := [.int (lo - 1), .int (hi + 1), .int (lo - 1 - far), .int (hi + 1 + far), dt] ++ [d4]) (i := m % 9 - 3) (by omega) (by show _ < ((6 : Nat) : Int); omega)
  have od : Off lo hi d := by
    simp only [List.cons_append, List.nil_append, List.mem_cons, List.not_mem_nil, or_false] at hd
    rcases hd with rfl | rfl | rfl | rfl | rfl | rfl
    · exact off_int (by omega)
    · exact off_int (by omega)
    · exact off_int (by omega)
    · exact off_int (by omega)
    · exact ot
    · exact o4
  have a1 : addD (.lst [.int (lo - 1), .int (hi + 1), .int (lo - 1 - far), .int (hi + 1 + far), dt]) (.lst [d4]) = .ok (.lst ([.int (lo - 1), .int (hi + 1), .int (lo - 1 - far), .int (hi + 1 + far), dt] ++ [d4])) :=
    if_pos ⟨by show (true && (true && (true && (true && D.imms [dt])))) = true; rw [imms1 ot.1.1]; rfl, imms1 o4.1.1, by rw [sizeLine_eq]; show 6 <= 16777216; decide⟩
  refine ⟨.lst [.int (lo - 1), .int (hi + 1), .int (lo - 1 - far), .int (hi + 1 + far), dt], d, ?_, ?_, od⟩
  · generalize m / 9 % 2 = v at *
    generalize m / 9 = w at *
    simp only [SM, eVar, eC, eBin, eL, aNil, aCons, R.ok_bind, List.getElem?_cons_zero, List.getElem?_cons_succ, ev_add, ev_sub, f1, m1, et]
  · generalize m / 9 % 4 = v at *
    generalize m / 9 = w at *
    generalize m % 9 = u at *
    generalize ([.int (lo - 1), .int (hi + 1), .int (lo - 1 - far), .int (hi + 1 + far), dt] : List D) ++ [d4] = Y at *
    simp only [VL, eVar, eC, eBin, eL, aNil, aCons, R.ok_bind, List.getElem?_cons_zero, List.getElem?_cons_succ, ev_sub, f1, m0, m2, s1, s2, e4, a1, ed]
noncomputable def bS : Tn -> R Fl := (sIf (eTest (eBin (eqR false) (eBin modD (eVar 5) (eC (.int 9))) (eC (.int 0)))) (sKPop 7 (eVar 2)) (sIf (eTest (eBin (eqR false) (eBin modD (eVar 5) (eC (.int 9))) (eC (.int 1)))) (sPopPut 7 (eVar 2) OT) (sIf (eTest (eBin (eqR false) (eBin modD (eVar 5) (eC (.int 9))) (eC (.int 2)))) (sKPut 7 (eImm (eVar 3)) OT) (sSeq (sSet 8 SM) (sKPut 7 VL (eVar 2))))))
theorem tS : F__law_spoilt = runB 9 (sSeq (sAsg (.many [2, 3, 4]) (eBin ixD (fun _ => F__law_bounds []) (eBin modD (eVar 1) (eC (.int 10))))) (sSeq (sSet 5 (eBin fdivD (eVar 1) (eC (.int 10)))) (sSeq (sSet 6 (eBin modD (eBin fdivD (eVar 5) (eC (.int 9))) (eBin powD (eC (.int 10)) (eC (.int 20))))) (sSeq (sSet 7 (eL dictAD (aCons (eVar 0) aNil))) (sSeq bS (sRet (eVar 7))))))) := rfl
theorem sz {n : Nat} (h : n <= 1000) : n < sizeLine := by rw [sizeLine_eq]; omega
theorem ev_pop {τ : Tn} {ks : List Key} {ds : List D} {i : Nat} {ti : Tn -> R D} {x : Str} {d : D} (h1 : eVar i τ = .ok (.dic ks ds)) (h2 : ti τ = .ok (.str x)) (h3 : lookD ks ds (.inr x) = some d) : sKPop i ti τ = .ok (.nx (τ.set i (some (.dic (dropDs ks ds (.inr x)).1 (dropDs ks ds (.inr x)).2)))) := by
  unfold sKPop
  rw [h1, R.ok_bind]
  dsimp only
  rw [h2, R.ok_bind]
  show (if (lookD ks ds (.inr x)).isSome = true then _ else _) = _
  rw [h3]
  rfl
theorem ev_popput {τ : Tn} {ks : List Key} {ds : List D} {i : Nat} {tk ti : Tn -> R D} {x : Str} {d j : D} {k : Key} (h1 : eVar i τ = .ok (.dic ks ds)) (h2 : tk τ = .ok (.str x)) (h3 : lookD ks ds (.inr x) = some d) (h4 : ti (τ.set i (some (.dic (dropDs ks ds (.inr x)).1 (dropDs ks ds (.inr x)).2))) = .ok j) (h5 : keyOf j = some k) (h6 : d.imm = true) (h7 : (dropDs ks ds (.inr x)).1.length < sizeLine) :
    sPopPut i tk ti τ = .ok (.nx ((τ.set i (some (.dic (dropDs ks ds (.inr x)).1 (dropDs ks ds (.inr x)).2))).set i (some (.dic (putP (dropDs ks ds (.inr x)).1 (dropDs ks ds (.inr x)).2 k d).1 (putP (dropDs ks ds (.inr x)).1 (dropDs ks ds (.inr x)).2 k d).2)))) := by
  unfold sPopPut
  rw [h1, R.ok_bind]
  dsimp only
  rw [h2, R.ok_bind]
  show (match lookD ks ds (.inr x) with | some d => _ | none => _) = _
  rw [h3]
  dsimp only
  rw [h4, R.ok_bind, h5]
  dsimp only
  rw [if_pos ⟨h6, h7⟩]
theorem ev_kput' {τ : Tn} {ks : List Key} {ds : List D} {i : Nat} {t ti : Tn -> R D} {d j : D} {k : Key} (h0 : t τ = .ok d) (h1 : eVar i τ = .ok (.dic ks ds)) (h2 : ti τ = .ok j) (h3 : keyOf j = some k) (h4 : d.imm = true) (h5 : ks.length < sizeLine) : sKPut i t ti τ = .ok (.nx (τ.set i (some (.dic (putP ks ds k d).1 (putP ks ds k d).2)))) := by
  rw [ev_sKPut, h0, R.ok_bind, h1, R.ok_bind, h2, R.ok_bind]
  unfold kputD
  dsimp only
  rw [h3]
  dsimp only
  rw [if_pos ⟨h4, h5⟩]
noncomputable def Sp (d : D) : Prop := ∃ ks ds, d = .dic ks ds /\ G ks ds /\ F_are_rules [.dic ks ds] = .ok (.bl false)
theorem bS_ok {ks : List Key} {ds : List D} (r : Ru ks ds) {b : Bd} (hb : b ∈ LB) (S c : Option D) (m far : Int) (hf : 0 <= far) : ∃ y8 d, Sp d /\ bS [S, c, some (.str b.1), some (.int b.2.1), some (.int b.2.2), some (.int m), some (.int far), some (.dic ks ds), none] = .ok (.nx [S, c, some (.str b.1), some (.int b.2.1), some (.int b.2.2), some (.int m), some (.int far), some d, y8]) := by
  have m0 : modD (.int m) (.int 9) = .ok (.int (m % 9)) := ev_mod (by decide)
  have g0 := Int.emod_nonneg m (show (9 : Int) ≠ 0 by decide)
  obtain ⟨n, hn, _, _⟩ := r.at' b hb
  have hmem : ky b ∈ ks := by rw [r.keys]; exact List.mem_map.mpr ⟨b, hb, rfl⟩
  by_cases e0 : m % 9 = 0
  · have q0 : eqR false (.int (m % 9)) (.int 0) = .ok (.bl true) := by rw [e0]; rfl
    refine ⟨none, _, ⟨_, _, rfl, r.g.drop (ky b), are_long (by have := drop_len r.g.len r.g.nd hmem; rw [r.len] at this; omega)⟩, ?_⟩
    have hp := ev_pop (τ := [S, c, some (.str b.1), some (.int b.2.1), some (.int b.2.2), some (.int m), some (.int far), some (.dic ks ds), none]) (i := 7) (ti := eVar 2) (x := b.1) rfl rfl hn
    have hp : sKPop 7 (eVar 2) [S, c, some (.str b.1), some (.int b.2.1), some (.int b.2.2), some (.int m), some (.int far), some (.dic ks ds), none] = .ok (.nx [S, c, some (.str b.1), some (.int b.2.1), some (.int b.2.2), some (.int m), some (.int far), some (.dic (dropDs ks ds (ky b)).1 (dropDs ks ds (ky b)).2), none]) := hp
    unfold bS
    generalize dropDs ks ds (ky b) = X at *
    generalize sKPop 7 (eVar 2) = T1 at *
    generalize sPopPut 7 (eVar 2) OT = T2
    generalize sKPut 7 (eImm (eVar 3)) OT = T3
    generalize sKPut 7 VL (eVar 2) = T4
    simp only [sSeq, sSet, sIf, eVar, eC, eBin, eTest, asB, R.ok_bind, List.getElem?_cons_zero, List.getElem?_cons_succ, List.set_cons_zero, List.set_cons_succ, ev_eqi, if_true, if_false, Bool.false_eq_true, m0, q0, hp]
  have q0 : eqR false (.int (m % 9)) (.int 0) = .ok (.bl false) := by rw [ev_eqi, beq_eq_false_iff_ne.mpr e0]; rfl
  by_cases e1 : m % 9 = 1
  · have q1 : eqR false (.int (m % 9)) (.int 1) = .ok (.bl true) := by rw [e1]; rfl
    obtain ⟨od, ho, eo⟩ := OT_ok hb S c (some (.int b.2.1)) (some (.int b.2.2)) (some (.int far)) (some (.dic (dropDs ks ds (ky b)).1 (dropDs ks ds (ky b)).2)) none m
    obtain ⟨k, hk1, hk2⟩ := oth_key ho
    have hko : k ≠ ky b := fun z => othK_out b hb k hk2 (by rw [z]; exact List.mem_map.mpr ⟨b, hb, rfl⟩)
    have hdl := drop_len r.g.len r.g.nd hmem
    have hp := ev_popput (τ := [S, c, some (.str b.1), some (.int b.2.1), some (.int b.2.2), some (.int m), some (.int far), some (.dic ks ds), none]) (i := 7) (tk := eVar 2) (ti := OT) (x := b.1) (d := .int n) (j := od) rfl rfl hn eo hk1 rfl (sz (by show (dropDs ks ds (ky b)).1.length <= 1000; rw [r.len] at hdl; omega))
    have hp : sPopPut 7 (eVar 2) OT [S, c, some (.str b.1), some (.int b.2.1), some (.int b.2.2), some (.int m), some (.int far), some (.dic ks ds), none] = .ok (.nx [S, c, some (.str b.1), some (.int b.2.1), some (.int b.2.2), some (.int m), some (.int far), some (.dic (putP (dropDs ks ds (ky b)).1 (dropDs ks ds (ky b)).2 k (.int n)).1 (putP (dropDs ks ds (ky b)).1 (dropDs ks ds (ky b)).2 k (.int n)).2), none]) := hp
    have gd := r.g.drop (ky b)
    refine ⟨none, _, ⟨_, _, rfl, gd.put k (val_int n), are_off (LB_BN b hb) (okE_none ?_)⟩, ?_⟩
    · rw [gd.look_put, if_neg hko, look_drop, if_pos rfl]
    · unfold bS
      generalize putP (dropDs ks ds (ky b)).1 (dropDs ks ds (ky b)).2 k (.int n) = X at *
      generalize sKPop 7 (eVar 2) = T1
      generalize sPopPut 7 (eVar 2) OT = T2 at *
      generalize sKPut 7 (eImm (eVar 3)) OT = T3
      generalize sKPut 7 VL (eVar 2) = T4
      simp only [sSeq, sSet, sIf, eVar, eC, eBin, eTest, asB, R.ok_bind, List.getElem?_cons_zero, List.getElem?_cons_succ, List.set_cons_zero, List.set_cons_succ, ev_eqi, if_true, if_false, Bool.false_eq_true, m0, q0, q1, hp]
  have q1 : eqR false (.int (m % 9)) (.int 1) = .ok (.bl false) := by rw [ev_eqi, beq_eq_false_iff_ne.mpr e1]; rfl
  by_cases e2 : m % 9 = 2
  · have q2 : eqR false (.int (m % 9)) (.int 2) = .ok (.bl true) := by rw [e2]; rfl
    obtain ⟨od, ho, eo⟩ := OT_ok hb S c (some (.int b.2.1)) (some (.int b.2.2)) (some (.int far)) (some (.dic ks ds)) none m
    obtain ⟨k, hk1, hk2⟩ := oth_key ho
    have hko : k ∉ ks := by rw [r.keys]; exact othK_out b hb k hk2
    have hp := ev_kput' (τ := [S, c, some (.str b.1), some (.int b.2.1), some (.int b.2.2), some (.int m), some (.int far), some (.dic ks ds), none]) (i := 7) (t := eImm (eVar 3)) (ti := OT) (d := .int b.2.1) (j := od) rfl rfl eo hk1 rfl (sz (by rw [r.len]; decide))
    have hp : sKPut 7 (eImm (eVar 3)) OT [S, c, some (.str b.1), some (.int b.2.1), some (.int b.2.2), some (.int m), some (.int far), some (.dic ks ds), none] = .ok (.nx [S, c, some (.str b.1), some (.int b.2.1), some (.int b.2.2), some (.int m), some (.int far), some (.dic (putP ks ds k (.int b.2.1)).1 (putP ks ds k (.int b.2.1)).2), none]) := hp
    refine ⟨none, _, ⟨_, _, rfl, r.g.put k (val_int b.2.1), are_long (by rw [put_len, if_neg hko, r.len]; decide)⟩, ?_⟩
    unfold bS
    generalize putP ks ds k (.int b.2.1) = X at *
    generalize sKPop 7 (eVar 2) = T1
    generalize sPopPut 7 (eVar 2) OT = T2
    generalize sKPut 7 (eImm (eVar 3)) OT = T3 at *
    generalize sKPut 7 VL (eVar 2) = T4
    simp only [sSeq, sSet, sIf, eVar, eC, eBin, eTest, asB, R.ok_bind, List.getElem?_cons_zero, List.getElem?_cons_succ, List.set_cons_zero, List.set_cons_succ, if_true, if_false, Bool.false_eq_true, m0, q0, q1, q2, hp]
  have q2 : eqR false (.int (m % 9)) (.int 2) = .ok (.bl false) := by rw [ev_eqi, beq_eq_false_iff_ne.mpr e2]; rfl
  obtain ⟨X, d, h1, h2, hoff⟩ := VL_ok hb S c (some (.dic ks ds)) m far hf (by omega)
  have hp := ev_kput' (τ := [S, c, some (.str b.1), some (.int b.2.1), some (.int b.2.2), some (.int m), some (.int far), some (.dic ks ds), some X]) (i := 7) (t := VL) (ti := eVar 2) (d := d) (j := .str b.1) (k := ky b) h2 rfl rfl rfl hoff.1.1 (sz (by rw [r.len]; decide))
  have hp : sKPut 7 VL (eVar 2) [S, c, some (.str b.1), some (.int b.2.1), some (.int b.2.2), some (.int m), some (.int far), some (.dic ks ds), some X] = .ok (.nx [S, c, some (.str b.1), some (.int b.2.1), some (.int b.2.2), some (.int m), some (.int far), some (.dic (putP ks ds (ky b) d).1 (putP ks ds (ky b) d).2), some X]) := hp
  refine ⟨some X, _, ⟨_, _, rfl, r.g.put (ky b) hoff.1, r.put_off hb hoff.2⟩, ?_⟩
  unfold bS
  generalize putP ks ds (ky b) d = Y at *
  generalize sKPop 7 (eVar 2) = T1
  generalize sPopPut 7 (eVar 2) OT = T2
  generalize sKPut 7 (eImm (eVar 3)) OT = T3
  generalize sKPut 7 VL (eVar 2) = T4 at *
  generalize SM = TM at *
  simp only [sSeq, sSet, sIf, eVar, eC, eBin, eTest, asB, R.ok_bind, List.getElem?_cons_zero, List.getElem?_cons_succ, List.set_cons_zero, List.set_cons_succ, if_false, Bool.false_eq_true, m0, q0, q1, q2, h1, hp]
theorem spoilt_ok {ks : List Key} {ds : List D} (r : Ru ks ds) (c : Int) : ∃ d, Sp d /\ F__law_spoilt [.dic ks ds, .int c] = .ok d := by
  have m0 : modD (.int c) (.int 10) = .ok (.int (c % 10)) := ev_mod (by decide)
  have f0 : fdivD (.int c) (.int 10) = .ok (.int (c / 10)) := ev_fdiv (by decide) (by decide)
  have f1 : fdivD (.int (c / 10)) (.int 9) = .ok (.int (c / 10 / 9)) := ev_fdiv (by decide) (by decide)
  have p0 : powD (.int 10) (.int 20) = .ok (.int 100000000000000000000) := rfl
  have m1 : modD (.int (c / 10 / 9)) (.int 100000000000000000000) = .ok (.int (c / 10 / 9 % 100000000000000000000)) := ev_mod (by decide)
  have hf := Int.emod_nonneg (c / 10 / 9) (show (100000000000000000000 : Int) ≠ 0 by decide)
  have b1 := Int.emod_nonneg c (show (10 : Int) ≠ 0 by decide)
  have b2 := Int.emod_lt_of_pos c (show (0 : Int) < 10 by decide)
  obtain ⟨d, hd, ed⟩ := ix_lst (ds := LB.map encB) b1 (by show _ < ((10 : Nat) : Int); omega)
  obtain ⟨b, hb, rfl⟩ := List.mem_map.mp hd
  obtain ⟨y8, d', sp, hs⟩ := bS_ok r hb (some (.dic ks ds)) (some (.int c)) (c / 10) (c / 10 / 9 % 100000000000000000000) hf
  refine ⟨d', sp, ?_⟩
  have hc := r.g.copy
  have hbo := bounds
  have ed : ixD (.lst (LB.map encB)) (.int (c % 10)) = .ok (.tup [.str b.1, .int b.2.1, .int b.2.2]) := ed
  rw [tS]
  generalize c / 10 / 9 % 100000000000000000000 = u at *
  generalize c / 10 / 9 = v at *
  generalize c / 10 = w at *
  generalize c % 10 = w2 at *
  generalize dictAD = DA at *
  generalize bS = BS at *
  generalize LB.map encB = LL at *
  generalize F__law_bounds [] = FB at *
  subst hbo
  simp only [setAll, runB, sSeq, sSet, sRet, sAsg, eVar, eC, eBin, eL, aNil, aCons, Tgt.asg, R.ok_bind, List.map_cons, List.map_nil, List.length_cons, List.length_nil, List.replicate_succ, List.replicate_zero, List.cons_append, List.nil_append, List.getElem?_cons_zero, List.getElem?_cons_succ, List.set_cons_zero, List.set_cons_succ, Nat.reduceAdd, Nat.reduceSub, Nat.zero_add, if_true, m0, f0, f1, p0, m1, ed, hc, hs]
theorem refused_no (d : D) (h : isiD "dict" d = .ok (.bl false)) : F__law_refused [d] = .ok (.bl true) := refused d (are_no d h)
noncomputable def itemsL (ks : List Key) (ds : List D) : List D := [.lst (itemsD ks ds), .tup (ks.map keyD), .non, .str "rules", .int 5, .lst [], .dic [] [], .lst (ks.map keyD)]
theorem items_ref (ks : List Key) (ds : List D) : ∀ d ∈ itemsL ks ds, F__law_refused [d] = .ok (.bl true) := by
  intro d hd
  unfold itemsL at hd
  simp only [List.mem_cons, List.not_mem_nil, or_false] at hd
  rcases hd with rfl | rfl | rfl | rfl | rfl | rfl | rfl | rfl
  · exact refused_no _ rfl
  · exact refused_no _ rfl
  · exact refused_no _ rfl
  · exact refused_no _ rfl
  · exact refused_no _ rfl
  · exact refused_no _ rfl
  · exact refused _ (are_long (by decide))
  · exact refused_no _ rfl
theorem Ru.yes {ks : List Key} {ds : List D} (r : Ru ks ds) : F_are_rules [.dic ks ds] = .ok (.bl true) := by
  refine are_yes r.len fun b hb => ?_
  obtain ⟨n, hn, h1, h2⟩ := r.at' b (BN_LB b hb)
  rw [okE_of hn]
  show (decide (b.2.1 <= n) && decide (n <= b.2.2)) = true
  rw [decide_eq_true h1, decide_eq_true h2]
  rfl
theorem law_g (SI : Tn -> R Fl) (S A B : D) (way c1 : Int) (ot : D) (h1 : F__law_rules [S] = .ok A) (h2 : F__law_all_bounds [A] = .ok (.bl true)) (h3 : F__law_cell_at [S, .int 0] = .ok (.int way)) (h4 : F__law_cell_at [S, .int 1] = .ok (.int c1))
    (h5 : ∀ o, SI [some S, some A, o, none, none] = .ok (.nx [some S, some A, o, some ot, none])) (h6 : ∃ d, ixD ot (.int (c1 % 8)) = .ok d /\ F__law_refused [d] = .ok (.bl true)) (h7 : F__law_spoilt [A, .int c1] = .ok B) (h8 : dictAD [B] = .ok B) (h9 : F__law_refused [B] = .ok (.bl true)) (h10 : eqKD B B = .ok (.bl true)) (h11 : dictAD [A] = .ok A) (h12 : F_need_rules [A] = .ok (.bl true)) (h13 : eqKD A A = .ok (.bl true)) :
    runB 5 (sSeq (sSet 1 (eL F__law_rules (aCons (eVar 0) aNil))) (sSeq (sIf (bNot (eTest (eL F__law_all_bounds (aCons (eVar 1) aNil)))) (sRet (eC (.bl false))) sSkip) (sSeq (sSet 2 (eBin modD (eL F__law_cell_at (aCons (eVar 0) (aCons (eC (.int 0)) aNil))) (eC (.int 8)))) (sSeq (sIf (eTest (eBin gtD (eVar 2) (eC (.int 5)))) (sSeq SI (sRet (eL F__law_refused (aCons (eBin ixD (eVar 3) (eBin modD (eL F__law_cell_at (aCons (eVar 0) (aCons (eC (.int 1)) aNil))) (eC (.int 8)))) aNil)))) sSkip) (sSeq (sIf (eTest (eBin gtD (eVar 2) (eC (.int 1)))) (sSeq (sSet 1 (eL F__law_spoilt (aCons (eVar 1) (aCons (eL F__law_cell_at (aCons (eVar 0) (aCons (eC (.int 1)) aNil))) aNil)))) (sSeq (sSet 4 (eL dictAD (aCons (eVar 1) aNil))) (sRet (eAnd (eL F__law_refused (aCons (eVar 1) aNil)) (eBin eqKD (eVar 1) (eVar 4)))))) sSkip) (sSeq (sSet 4 (eL dictAD (aCons (eVar 1) aNil))) (sRet (eAnd (eBin (isB false) (eL F_need_rules (aCons (eVar 1) aNil)) (eC (.bl true))) (eBin eqKD (eVar 1) (eVar 4)))))))))) [S] = .ok (.bl true) := by
  have m8 : modD (.int way) (.int 8) = .ok (.int (way % 8)) := ev_mod (by decide)
  have m9 : modD (.int c1) (.int 8) = .ok (.int (c1 % 8)) := ev_mod (by decide)
  have ib : isB false (.bl true) (.bl true) = .ok (.bl true) := rfl
  obtain ⟨d, h6, h6'⟩ := h6
  generalize F__law_rules = F1 at *
  generalize F__law_all_bounds = F2 at *
  generalize F__law_cell_at = F3 at *
  generalize F__law_refused = F4 at *
  generalize F__law_spoilt = F5 at *
  generalize F_need_rules = F6 at *
  generalize dictAD = F7 at *
  generalize eqKD = F8 at *
  generalize isB false = F9 at *
  generalize way % 8 = v at *
  generalize c1 % 8 = u at *
  have g1 : gtD (.int v) (.int 5) = .ok (.bl (decide (5 < v))) := rfl
  have g2 : gtD (.int v) (.int 1) = .ok (.bl (decide (1 < v))) := rfl
  cases e1 : decide (5 < v) <;> rw [e1] at g1 <;> cases e2 : decide (1 < v) <;> rw [e2] at g2 <;> generalize gtD = FG at * <;> simp only [sSkip, runB, sSeq, sSet, sRet, sIf, eVar, eC, eBin, eL, aNil, aCons, eTest, bNot, eAnd, asB, R.ok_bind, List.map_cons, List.map_nil, List.length_cons, List.length_nil, List.replicate_succ, List.replicate_zero, List.cons_append, List.nil_append, List.getElem?_cons_zero, List.getElem?_cons_succ, List.set_cons_zero, List.set_cons_succ, Nat.reduceSub, Nat.zero_add, if_true, if_false, Bool.false_eq_true, Bool.not_true, h1, h2, h3, h4, h5, h6, h6', h7, h8, h9, h10, h11, h12, h13, m8, m9, g1, g2, ib]
theorem law_true (ns : List Int) (h : ns.length <= 63) : F_law [.frl (ns.map D.int)] = .ok (.bl true) := by
  obtain ⟨ks, ds, h1, r⟩ := rules_ok ns
  obtain ⟨way, h3⟩ := cell ns 0 (by decide)
  obtain ⟨c1, h4⟩ := cell ns 1 (by decide)
  obtain ⟨B, ⟨k2, d2, rfl, g2, a2⟩, h7⟩ := spoilt_ok r c1
  have b1 := Int.emod_nonneg c1 (show (8 : Int) ≠ 0 by decide)
  have b2 := Int.emod_lt_of_pos c1 (show (0 : Int) < 8 by decide)
  obtain ⟨d, hd, ed⟩ := ix_lst (ds := itemsL ks ds) b1 (by show _ < ((8 : Nat) : Int); omega)
  refine law_g (sItems 3 1) (.frl (ns.map .int)) (.dic ks ds) (.dic k2 d2) way c1 (.lst (itemsL ks ds)) h1 (all_ok r) h3 h4 (fun o => ?_) ⟨d, ed, items_ref ks ds d hd⟩ h7 g2.copy (refused _ a2) g2.eq r.g.copy (need_ok _ r.yes) r.g.eq
  show R.bind (R.ok (D.dic ks ds)) _ = _
  rw [R.ok_bind]
  dsimp only
  rw [if_pos ⟨imms_of r.g.val, sz (by rw [r.len]; decide)⟩]
  rfl
end K02

open PySem PySem.W PyProof.Rows L2
set_option maxRecDepth 100000 in
set_option maxHeartbeats 0 in
theorem PySem.Challenge.cw_quirehand_k02_rules_refused_holds : PySem.Challenge.rw_quirehand_k02_rules_refused.Holds := by
  w_on; o_law; k_head; (case hw => w_witness2)
  k_fill
  refine L2.law_walk (l := PySem.Challenge.rw_quirehand_k02_rules_refused) (Fm := K02.F_law) (k := 7) (x := "_law_script") K02.law_true ⟨rfl, by decide, by decide⟩ rfl rfl (fun w h Y => PySem.W.kIn_of Y) ?F
  case F =>
    intro w mg fa h KX G hmg
    refine' K02.all_mk KX G hmg ?a_is_whole ?l_is_whole ?c_is_whole ?k_is_whole ?a_is_within ?l_is_within ?c_is_within ?k_is_within ?a_are_rules ?l_are_rules ?c_are_rules ?k_are_rules ?a_need_rules ?l_need_rules ?c_need_rules ?k_need_rules ?a__law_cell_at ?l__law_cell_at ?c__law_cell_at ?k__law_cell_at ?a__law_bounds ?l__law_bounds ?c__law_bounds ?k__law_bounds ?a__law_rules ?l__law_rules ?c__law_rules ?k__law_rules ?a__law_spoilt ?l__law_spoilt ?c__law_spoilt ?k__law_spoilt ?a__law_refused ?l__law_refused ?c__law_refused ?k__law_refused ?a__law_all_bounds ?l__law_all_bounds ?c__law_all_bounds ?k__law_all_bounds ?a_law ?l_law ?c_law ?k_law ?z_isinstance ?z_int ?z_bool ?z_str ?z_dict ?z_list ?z_tuple ?z_len ?z_sum ?z_max ?z_min ?z_all ?z_range ?z_enumerate ?z_zip ?gv_BOUNDS ?gl_BOUNDS ?gl_BOUNDS_9 ?gl_BOUNDS_8 ?gl_BOUNDS_7 ?gl_BOUNDS_6 ?gl_BOUNDS_5 ?gl_BOUNDS_4 ?gl_BOUNDS_3 ?gl_BOUNDS_2 ?gl_BOUNDS_1 ?gl_BOUNDS_0 ?y_S ?y_T ?y_X ?y_V ?y_ga ?y_gt ?y_cl ?y_sp ?y_tk ?y_mo ?y_mb ?y_kV ?y_xS ?y_m1 ?y_k1 ?y_m2 ?y_k2 ?y_m3 ?y_k3 ?y_m4 ?y_k4 ?y_m5 ?y_k5 ?y_m6 ?y_k6 ?y_m7 ?y_k7 ?y_m8 ?y_k8 ?y_m9 ?y_k9
    (case a_is_whole => k_is)
    (case l_is_whole => k_is)
    (case c_is_whole => k_is)
    (case k_is_whole => k_is)
    (case a_is_within => k_is)
    (case l_is_within => k_is)
    (case c_is_within => k_is)
    (case k_is_within => k_is)
    (case a_are_rules => k_is)
    (case l_are_rules => k_is)
    (case c_are_rules => k_is)
    (case k_are_rules => k_is)
    (case a_need_rules => k_is)
    (case l_need_rules => k_is)
    (case c_need_rules => k_is)
    (case k_need_rules => k_is)
    (case a__law_cell_at => k_is)
    (case l__law_cell_at => k_is)
    (case c__law_cell_at => k_is)
    (case k__law_cell_at => k_is)
    (case a__law_bounds => k_is)
    (case l__law_bounds => k_is)
    (case c__law_bounds => k_is)
    (case k__law_bounds => k_is)
    (case a__law_rules => k_is)
    (case l__law_rules => k_is)
    (case c__law_rules => k_is)
    (case k__law_rules => k_is)
    (case a__law_spoilt => k_is)
    (case l__law_spoilt => k_is)
    (case c__law_spoilt => k_is)
    (case k__law_spoilt => k_is)
    (case a__law_refused => k_is)
    (case l__law_refused => k_is)
    (case c__law_refused => k_is)
    (case k__law_refused => k_is)
    (case a__law_all_bounds => k_is)
    (case l__law_all_bounds => k_is)
    (case c__law_all_bounds => k_is)
    (case k__law_all_bounds => k_is)
    (case a_law => k_is)
    (case l_law => k_is)
    (case c_law => k_is)
    (case k_law => k_is)
    (case z_isinstance => k_is)
    (case z_int => k_is)
    (case z_bool => k_is)
    (case z_str => k_is)
    (case z_dict => k_is)
    (case z_list => k_is)
    (case z_tuple => k_is)
    (case z_len => k_is)
    (case z_sum => k_is)
    (case z_max => k_is)
    (case z_min => k_is)
    (case z_all => k_is)
    (case z_range => k_is)
    (case z_enumerate => k_is)
    (case z_zip => k_is)
    (case gv_BOUNDS => k_is)
    (case gl_BOUNDS => k_is)
    (case gl_BOUNDS_9 => k_is)
    (case gl_BOUNDS_8 => k_is)
    (case gl_BOUNDS_7 => k_is)
    (case gl_BOUNDS_6 => k_is)
    (case gl_BOUNDS_5 => k_is)
    (case gl_BOUNDS_4 => k_is)
    (case gl_BOUNDS_3 => k_is)
    (case gl_BOUNDS_2 => k_is)
    (case gl_BOUNDS_1 => k_is)
    (case gl_BOUNDS_0 => k_is)
    (case y_S => k_is)
    (case y_T => k_is)
    (case y_X => k_exc)
    (case y_V => k_is)
    (case y_ga => k_is)
    (case y_gt => k_is)
    (case y_cl => k_is)
    (case y_sp => k_is)
    (case y_tk => k_is)
    (case y_mo => k_is)
    (case y_mb => k_is)
    (case y_kV => kit_is)
    (case y_xS => kts_exm)
    (case y_m1 => k_is)
    (case y_k1 => kit_is)
    (case y_m2 => k_is)
    (case y_k2 => kit_is)
    (case y_m3 => k_is)
    (case y_k3 => kit_is)
    (case y_m4 => k_is)
    (case y_k4 => kit_is)
    (case y_m5 => k_is)
    (case y_k5 => kit_is)
    (case y_m6 => k_is)
    (case y_k6 => kit_is)
    (case y_m7 => k_is)
    (case y_k7 => kit_is)
    (case y_m8 => k_is)
    (case y_k8 => kit_is)
    (case y_m9 => k_is)
    (case y_k9 => kit_is)
#print axioms PySem.Challenge.cw_quirehand_k02_rules_refused_holds

