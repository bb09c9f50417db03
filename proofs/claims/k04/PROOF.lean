import PyProof.Rows.All
import Wide.All
import OpenK.AllK
import Wide.FinOn
import Lean
import PyProof.EqAt
import PyProof.EqKinds
import PyProof.TupleCall
import PyProof.ZipIter
import PySem.Challenge.RW_quirehand_k04_the_joint_that_tells

set_option Elab.async false
set_option linter.all false
set_option bootstrap.genMatcherCode false
set_option genSizeOfSpec false
set_option maxRecDepth 100000
namespace L2
open PySem PySem.Spec PyProof.Rows
theorem au0 (h : True := by first | exact .inl rfl | exact .inr rfl | assumption) : True := trivial
theorem au1 (h : True := by decide) : True := trivial
theorem au2 (h : True := by intro _; rfl) : True := trivial
theorem au3 (h : True := by rfl) : True := trivial
theorem au4 (h : True := by with_unfolding_all rfl) : True := trivial
theorem au5 (h : True := by first | exact Or.inl rfl | exact Or.inr (Or.inl rfl) | exact Or.inr (Or.inr rfl)) : True := trivial
theorem au6 (h : True := by exact fun _ _ => rfl) : True := trivial
theorem au7 (h : True := by first | exact Or.inl rfl | exact Or.inr rfl) : True := trivial
theorem au8 (h : True := by exact rfl) : True := trivial
inductive Key where
  | inl (i : Int) | inr (x : Str) | non
  deriving DecidableEq
noncomputable def isNoneV : Value -> Bool
  | .none => true
  | _ => false
noncomputable def keyIs : Key -> Value -> Bool
  | .inl k, v => Value.isInt k v
  | .inr x, v => Value.isStrOf x v
  | .non, v => isNoneV v
noncomputable def keyH (w : World) : Key -> Int
  | .inl k => hashInt k
  | .inr x => hashStr w x
  | .non => 0xFCA86420
theorem isNoneV_shape {v : Value} (h : isNoneV v = true) : v = .none := by cases v <;> first | rfl | cases h
theorem keyIs_shape : ∀ {k : Key} {v : Value}, keyIs k v = true -> (∃ i t, k = Key.inl i /\ v = Value.int i t) \/ (∃ x t, k = Key.inr x /\ v = Value.str x t) \/ (k = Key.non /\ v = Value.none)
  | .inl i, v, h => by
    obtain ⟨t, e⟩ := Value.isInt_shape (k := i) (v := v) h
    exact .inl ⟨i, t, rfl, e⟩
  | .inr x, v, h => by
    obtain ⟨t, e⟩ := Value.isStrOf_shape (x := x) (v := v) h
    exact .inr (.inl ⟨x, t, rfl, e⟩)
  | .non, v, h => .inr (.inr ⟨rfl, isNoneV_shape h⟩)
theorem keyIs_int (i : Int) (t : Tok) : keyIs (.inl i) (.int i t) = true := by simp [keyIs, Value.isInt]
theorem keyIs_str (x : Str) (t : Tok) : keyIs (.inr x) (.str x t) = true := by simp [keyIs, Value.isStrOf]
theorem key_ll (a b : Int) : decide (Key.inl a = Key.inl b) = (a == b) := by
  by_cases e : a = b
  · subst e; simp
  · have h : ¬ Key.inl a = Key.inl b := fun q => e (Key.inl.inj q)
    rw [decide_eq_false h]
    exact (beq_eq_false_iff_ne.mpr e).symm
theorem key_rr (a b : Str) : decide (Key.inr a = Key.inr b) = decide (a = b) := by
  by_cases e : a = b
  · subst e; simp
  · have h : ¬ Key.inr a = Key.inr b := fun q => e (Key.inr.inj q)
    rw [decide_eq_false h, decide_eq_false e]
theorem slot_none_hash : Slot "NoneType" "__hash__" "NoneType.__hash__" :=
  .of (owner := "NoneType") (n := "__hash__") (by rw [typeLookup_type]; rw [builtinLookup_eq_fast]; kernel_rfl) (by decide +kernel) (by decide +kernel) (by decide +kernel)
    (by first | exact .inl (by decide +kernel) | exact .inr (by decide +kernel)) (by rw [isSubtype_type] ; kernel_rfl)
theorem entry_none_hash : entryFor table "NoneType.__hash__" = some Builtin.«NoneType.__hash__» := entryFor_of_fast (by kernel_rfl)
theorem args_none_hash (a : Value) : argsOk "NoneType.__hash__" ⟨[a], []⟩ := by unfold argsOk; kernel_rfl
theorem hash_none {prog : Program} {w : World} {A : Around} {E : Value -> Shared -> Prop} {s : Shared} {Q : Int -> Shared -> Prop} (h : Q 0xFCA86420 { s with toks := s.toks + 1 }) : wpAny (model prog w) A (pyHash .none) Q E s := by
  have hT : s.TypeIs .none "NoneType" := rfl
  show wpAny _ _ (pyHashByItsType .none) Q E s
  unfold pyHashByItsType
  refine wpAny_bind ?_
  rw [cRoomFor, if_neg (by decide)]
  refine wpAny_pure (wpAny_bind (wpAny_specialOf hT slot_none_hash.lookup ?_))
  rw [if_neg (by decide)]
  refine wpAny_bind (wpAny_specialOf hT slot_none_hash.lookup ?_)
  rw [if_neg (by decide)]
  refine wpAny_bind (wpAny_callSpecialIfBoundUnlessNone?_slot hT slot_none_hash (wpAny_call_entry slot_none_hash hT entry_none_hash ?_ (args_none_hash _)))
  show wpAny _ _ (do ret (<- mkInt 0xFCA86420)) _ _ s
  refine wpAny_ret_mkInt ?_
  show wpAny _ _ (pyHashByItsType.reduced 0xFCA86420) Q E _
  unfold pyHashByItsType.reduced
  rw [if_pos (by decide)]
  exact wpAny_pure h
noncomputable def mixKind (prog : Program) (w : World) : PySem.KeyKind prog w Key where
  is := keyIs
  hash := keyH w
  inj := fun v a b ha hb => by
    rcases keyIs_shape ha with ⟨i, t, rfl, rfl⟩ | ⟨x, t, rfl, rfl⟩ | ⟨rfl, rfl⟩
    · rcases keyIs_shape hb with ⟨j, u, rfl, e⟩ | ⟨y, u, rfl, e⟩ | ⟨rfl, e⟩
      · injection e with e1 _; rw [e1]
      · exact nomatch e
      · exact nomatch e
    · rcases keyIs_shape hb with ⟨j, u, rfl, e⟩ | ⟨y, u, rfl, e⟩ | ⟨rfl, e⟩
      · exact nomatch e
      · injection e with e1 _; rw [e1]
      · exact nomatch e
    · rcases keyIs_shape hb with ⟨j, u, rfl, e⟩ | ⟨y, u, rfl, e⟩ | ⟨rfl, e⟩
      · exact nomatch e
      · exact nomatch e
      · rfl
  byValue := fun k v h => by
    rcases keyIs_shape h with ⟨i, t, rfl, rfl⟩ | ⟨x, t, rfl, rfl⟩ | ⟨rfl, rfl⟩ <;> rfl
  pyHash := fun hv h => by
    rcases keyIs_shape hv with ⟨i, t, rfl, rfl⟩ | ⟨x, t, rfl, rfl⟩ | ⟨rfl, rfl⟩
    · exact wpAny_pyHash_int h
    · exact wpAny_pyHash_str h
    · exact hash_none h
  eqBool := fun hu hv h => by
    rcases keyIs_shape hu with ⟨i, t, rfl, rfl⟩ | ⟨x, t, rfl, rfl⟩ | ⟨rfl, rfl⟩
    · rcases keyIs_shape hv with ⟨j, u, rfl, rfl⟩ | ⟨y, u, rfl, rfl⟩ | ⟨rfl, rfl⟩
      · rw [key_ll] at h; exact wpAny_eqBool_int h
      · rw [decide_eq_false (by intro q; cases q)] at h; exact SeqAt.EqAt.int_str i t y u _ _ _ _ h
      · rw [decide_eq_false (by intro q; cases q)] at h; exact SeqAt.EqAt.int_none i t _ _ _ _ h
    · rcases keyIs_shape hv with ⟨j, u, rfl, rfl⟩ | ⟨y, u, rfl, rfl⟩ | ⟨rfl, rfl⟩
      · rw [decide_eq_false (by intro q; cases q)] at h; exact SeqAt.EqAt.str_int x t j u _ _ _ _ h
      · rw [key_rr] at h; exact wpAny_eqBool_str h
      · rw [decide_eq_false (by intro q; cases q)] at h; exact SeqAt.EqAt.str_none x t _ _ _ _ h
    · rcases keyIs_shape hv with ⟨j, u, rfl, rfl⟩ | ⟨y, u, rfl, rfl⟩ | ⟨rfl, rfl⟩
      · rw [decide_eq_false (by intro q; cases q)] at h; exact SeqAt.EqAt.none_int j u _ _ _ _ h
      · rw [decide_eq_false (by intro q; cases q)] at h; exact SeqAt.EqAt.none_str y u _ _ _ _ h
      · rw [decide_eq_true rfl] at h; exact SeqAt.EqAt.same .none _ _ _ _ h
  «strs» := fun k x t v h => by
    rcases keyIs_shape h with ⟨i, u, rfl, e⟩ | ⟨y, u, rfl, e⟩ | ⟨rfl, e⟩
    · exact nomatch e
    · injection e with e1 _
      subst e1
      cases v <;> rfl
    · exact nomatch e
theorem mixKind_int (prog : Program) (w : World) (i : Int) (t : Tok) : (mixKind prog w).is (.inl i) (.int i t) = true := keyIs_int i t
theorem mixKind_str (prog : Program) (w : World) (x : Str) (t : Tok) : (mixKind prog w).is (.inr x) (.str x t) = true := keyIs_str x t
theorem mixKind_non (prog : Program) (w : World) : (mixKind prog w).is .non .none = true := rfl
end L2
namespace L2
open PySem PySem.Spec PyProof.Rows
inductive V where
  | non | bl (b : Bool) | int (i : Int) | str (x : Str) | byt (b : Array UInt8) | flt (b : UInt64) | ref (a : Addr) | ty (n : String)
  deriving DecidableEq
noncomputable def RelV : V -> Value -> Prop
  | .non, u => u = Value.none
  | .bl b, u => u = Value.bool b
  | .int i, u => ∃ t, u = Value.int i t
  | .str x, u => ∃ t, u = Value.str x t
  | .byt b, u => ∃ t, u = Value.bytes b t
  | .flt b, u => ∃ t, u = Value.float b t
  | .ref a, u => u = Value.ref a
  | .ty n, u => u = Value.type n
noncomputable abbrev Vals : List V -> List Value -> Prop := Paired RelV
theorem Vals.length {xs : List V} {us : List Value} (r : Vals xs us) : xs.length = us.length := Paired.length r
theorem Vals.get : ∀ {xs : List V} {us : List Value} {i : Nat} {x : V}, Vals xs us -> xs[i]? = some x -> ∃ u, us[i]? = some u /\ RelV x u
  | _, _, _, _, .nil, e => by simp at e
  | _, _, 0, _, .cons r _, e => by simp at e; subst e; exact ⟨_, rfl, r⟩
  | _, _, i + 1, x, .cons _ t, e => by
    obtain ⟨u, h1, h2⟩ := Vals.get (i := i) (x := x) t (by simpa using e)
    exact ⟨u, by simpa using h1, h2⟩
theorem Vals.set {x : V} {u : Value} (r : RelV x u) : ∀ {xs : List V} {us : List Value} (i : Nat), Vals xs us -> Vals (xs.set i x) (us.set i u)
  | _, _, _, .nil => .nil
  | _, _, 0, .cons _ t => .cons r t
  | _, _, i + 1, .cons q t => .cons q (Vals.set r i t)
theorem Vals.append : ∀ {xs ys : List V} {us ws : List Value}, Vals xs us -> Vals ys ws -> Vals (xs ++ ys) (us ++ ws)
  | _, _, _, _, .nil, s => s
  | _, _, _, _, .cons r t, s => .cons r (Vals.append t s)
theorem Vals.take : ∀ {xs : List V} {us : List Value} (n : Nat), Vals xs us -> Vals (xs.take n) (us.take n)
  | _, _, 0, _ => .nil
  | _, _, _ + 1, .nil => .nil
  | _, _, n + 1, .cons r t => .cons r (Vals.take n t)
theorem Vals.drop : ∀ {xs : List V} {us : List Value} (n : Nat), Vals xs us -> Vals (xs.drop n) (us.drop n)
  | _, _, 0, r => r
  | _, _, _ + 1, .nil => .nil
  | _, _, n + 1, .cons _ t => Vals.drop n t
noncomputable def RelO : Option V -> Option Value -> Prop
  | some v, some u => RelV v u
  | none, none => True
  | _, _ => False
noncomputable def KV {κ : Type} : List (κ × V) -> List (κ × Value) -> Prop := Paired fun (p : κ × V) (q : κ × Value) => p.1 = q.1 /\ RelV p.2 q.2
noncomputable def kV : Key -> V
  | .inl i => .int i
  | .inr x => .str x
  | .non => .non
noncomputable def TupN (h : Heap) (a : Addr) (items : Array Value) : Prop := ∃ o, h.get? a = some o /\ o.cls = .type "tuple" /\ (o.dict = none /\ o.slots = #[]) /\ ∃ n, o.data = .seq items n
theorem TupN.tup {h : Heap} {a : Addr} {items : Array Value} (x : TupN h a items) : IsTup h a items := let ⟨o, ho, hc, _, n, hd⟩ := x; ⟨o, ho, hc, n, hd⟩
theorem TupN.lt {h : Heap} {a : Addr} {items : Array Value} (x : TupN h a items) : a < h.objs.size := x.tup.lt
theorem TupN.new (h : Heap) (items : Array Value) : TupN (h.push { cls := .type "tuple", data := .seq items }) h.objs.size items := ⟨_, Heap.get?_push_size _ rfl, rfl, ⟨rfl, rfl⟩, _, rfl⟩
inductive HO where
    | lst (xs : List V)
    | tup (xs : List V)
    | dK (kvs : List (Key × V)) | dT (kvs : List (List Key × V))
    | set (S : Int -> Bool) (n : Nat)
    | ins (C dx : Addr) (fs : List (Str × V))
    | own (x : Addr)
    | xd (fs : List (Str × V))
    | met (f x : Addr)
    | rng (lo hi : Int)
    | frz (o : Obj) (u : HO)
    | tbl (ps : Array Value)
    | ext (φ : Heap -> Prop)
noncomputable abbrev Hp := Addr -> Option HO
noncomputable def upd (H : Hp) (a : Addr) (o : HO) : Hp := fun b => if b = a then some o else H b
theorem upd_same {H : Hp} {a : Addr} {o : HO} : upd H a o a = some o := by unfold upd; rw [if_pos rfl]
theorem upd_ne {H : Hp} {a b : Addr} {o : HO} (h : b ≠ a) : upd H a o b = H b := by unfold upd; rw [if_neg h]
theorem ne_of {H : Hp} {a b : Addr} {o u : HO} (h : H a = some o) (h' : H b = some u) (d : o ≠ u) : a ≠ b := by
  intro e; subst e; rw [h] at h'; exact d (Option.some.inj h')
theorem ne_of_none {H : Hp} {a b : Addr} {o : HO} (h : H a = some o) (h' : H b = none) : a ≠ b := by
  intro e; subst e; rw [h] at h'; cases h'
section
variable (P : Program) (w : World)
noncomputable def ObjOk (H : Hp) (h : Heap) (a : Addr) : HO -> Prop
  | .lst xs => xs.length <= sizeLine /\ ∃ (its : List Value) (n : Nat), Vals xs its /\ h.get? a = some { cls := .type "list", data := .seq its.toArray n }
  | .tup xs => xs.length <= sizeLine /\ ∃ its : List Value, Vals xs its /\ TupN h a its.toArray
  | .dK kvs => kvs.length <= sizeLine /\ (a == sysModules) = false /\ ∃ vs, KV kvs vs /\ h.DictOf (mixKind P w) a vs
  | .dT kvs => kvs.length <= sizeLine /\ (a == sysModules) = false /\ ∃ xs : List (List Key × Addr × Value),
      Paired (fun (p : List Key × V) (q : List Key × Addr × Value) => p.1 = q.1 /\ H q.2.1 = some (.tup (p.1.map kV)) /\ RelV p.2 q.2.2) kvs xs /\
      ∃ o es ep, h.get? a = some o /\ o.ExactDict /\ o.data = .dict es ep /\ es.toList = xs.map (entryOfKey (tupleKind (mixKind P w))) /\ (xs.map (·.1)).Nodup
  | .set S n => h.SetOf (intKind P w) a S n
  | .ins C dx fs => H dx = some (.own a) /\ fs.length <= 1000 /\ dx ≠ a /\ h.get? a = some (PySem.W.instObj C dx) /\
      ∃ mA, h.Ns1 dx mA /\ (∀ f, RelO (fs.lookup f) (mA f)) /\ PySem.Within mA (fs.map (·.1))
  | .own _ => ∃ o, h.get? a = some o
  | .xd fs => ∃ mA, h.Ns1 a mA /\ ∀ f, RelO (fs.lookup f) (mA f)
  | .rng lo hi => ∃ t u v, h.get? a = some { cls := .type "range", data := .fields #[.int lo t, .int hi u, .int 1 v] }
  | .frz o u => h.get? a = some o /\ ObjOk H h a u
  | .tbl ps => h.get? a = some { cls := .none, data := .fields ps }
  | .met f x => h.get? a = some (PySem.W.methodObj (.ref f) (.ref x))
  | .ext φ => φ h /\ (∃ o, h.get? a = some o) /\ ∀ h1 h2 : Heap, φ h1 -> (∀ o, h1.get? a = some o -> h2.get? a = some o) -> φ h2
noncomputable def HOk (H : Hp) (h : Heap) : Prop := ∀ a o, H a = some o -> ObjOk P w H h a o
end
section
variable {P : Program} {w : World} {H H' : Hp} {h h' : Heap} {a : Addr} {o : HO}
theorem ObjOk.lt (x : ObjOk P w H h a o) : a < h.objs.size := by
  cases o with
  | lst xs => obtain ⟨_, _, _, _, e⟩ := x; exact Heap.lt_size e
  | tup xs => obtain ⟨_, _, _, p⟩ := x; exact p.lt
  | dK kvs => obtain ⟨_, _, _, _, o, _, _, e, _⟩ := x; exact Heap.lt_size e
  | dT kvs => obtain ⟨_, _, _, _, o, _, _, e, _⟩ := x; exact Heap.lt_size e
  | set S n => obtain ⟨o, _, _, _, e, _⟩ := x; exact Heap.lt_size e
  | ins C dx fs => obtain ⟨_, _, _, e, _⟩ := x; exact Heap.lt_size e
  | own y => obtain ⟨_, e⟩ := x; exact Heap.lt_size e
  | xd fs => obtain ⟨_, ⟨_, _, _, e, _⟩, _⟩ := x; exact Heap.lt_size e
  | rng lo hi => obtain ⟨_, _, _, e⟩ := x; exact Heap.lt_size e
  | frz ob u => obtain ⟨e, _⟩ := x; exact Heap.lt_size e
  | tbl ps => exact Heap.lt_size (show h.get? a = some _ from x)
  | met f y => exact Heap.lt_size (show h.get? a = some _ from x)
  | ext φ => obtain ⟨_, ⟨_, e⟩, _⟩ := x; exact Heap.lt_size e
theorem Paired.mapP {α β : Type} {F G : α -> β -> Prop} : ∀ {l₁ : List α} {l₂ : List β}, Paired F l₁ l₂ -> (∀ a b, F a b -> G a b) -> Paired G l₁ l₂
  | _, _, .nil, _ => .nil
  | _, _, .cons r t, f => .cons (f _ _ r) (Paired.mapP t f)
theorem ObjOk.stay (x : ObjOk P w H h a o) (k : ∀ b u, (b = a \/ H b = some (.own a)) -> h.get? b = some u -> h'.get? b = some u)
    (ho : ∀ b, H b = some (.own a) -> H' b = some (.own a)) (ht : ∀ b xs, H b = some (.tup xs) -> H' b = some (.tup xs)) : ObjOk P w H' h' a o := by
  induction o with
  | lst xs => obtain ⟨z, its, n, r, e⟩ := x; exact ⟨z, its, n, r, k _ _ (.inl rfl) e⟩
  | tup xs => obtain ⟨z, its, r, ob, e, c⟩ := x; exact ⟨z, its, r, ob, k _ _ (.inl rfl) e, c⟩
  | dK kvs => obtain ⟨z, y, vs, r, ob, es, ep, e, c⟩ := x; exact ⟨z, y, vs, r, ob, es, ep, k _ _ (.inl rfl) e, c⟩
  | dT kvs =>
    obtain ⟨z, y, xs, r, ob, es, ep, e, c⟩ := x
    exact ⟨z, y, xs, Paired.mapP r fun p q z => ⟨z.1, ht _ _ z.2.1, z.2.2⟩, ob, es, ep, k _ _ (.inl rfl) e, c⟩
  | set S n => obtain ⟨ob, es, ep, t, e, c⟩ := x; exact ⟨ob, es, ep, t, k _ _ (.inl rfl) e, c⟩
  | ins C dx fs =>
    obtain ⟨d, z, ne, e, mA, ⟨od, es, ep, e2, c⟩, r⟩ := x
    exact ⟨ho _ d, z, ne, k _ _ (.inl rfl) e, mA, ⟨od, es, ep, k _ _ (.inr d) e2, c⟩, r⟩
  | own y => obtain ⟨ob, e⟩ := x; exact ⟨ob, k _ _ (.inl rfl) e⟩
  | xd fs => obtain ⟨mA, ⟨od, es, ep, e, c⟩, r⟩ := x; exact ⟨mA, ⟨od, es, ep, k _ _ (.inl rfl) e, c⟩, r⟩
  | rng lo hi => obtain ⟨t, u, v, e⟩ := x; exact ⟨t, u, v, k _ _ (.inl rfl) e⟩
  | frz ob u ih => obtain ⟨e, q⟩ := x; exact ⟨k _ _ (.inl rfl) e, ih q⟩
  | tbl ps =>
    have e : h.get? a = some { cls := .none, data := .fields ps } := x
    show h'.get? a = some { cls := .none, data := .fields ps }
    exact k a _ (.inl rfl) e
  | met f y =>
    have e : h.get? a = some (PySem.W.methodObj (.ref f) (.ref y)) := x
    show h'.get? a = some (PySem.W.methodObj (.ref f) (.ref y))
    exact k a _ (.inl rfl) e
  | ext φ => obtain ⟨p, ⟨o, e⟩, st⟩ := x; exact ⟨st _ _ p fun o q => k _ _ (.inl rfl) q, ⟨o, k _ _ (.inl rfl) e⟩, st⟩
theorem HOk.lt (x : HOk P w H h) (e : H a = some o) : a < h.objs.size := (x a o e).lt
theorem HOk.fresh (x : HOk P w H h) (e : h.objs.size <= a) : H a = none := by
  cases q : H a with
  | none => rfl
  | some u => exact absurd (Nat.lt_of_lt_of_le (x.lt q) e) (Nat.lt_irrefl _)
theorem HOk.kept (x : HOk P w H h) (k : ∀ b u, h.get? b = some u -> h'.get? b = some u) : HOk P w H h' := fun a o e =>
  (x a o e).stay (fun b u _ q => k b u q) (fun _ q => q) fun _ _ q => q
theorem HOk.laid (x : HOk P w H h) (k : ∀ b u, h.get? b = some u -> h'.get? b = some u) (hp : h.objs.size <= a) (new : ObjOk P w (upd H a o) h' a o) : HOk P w (upd H a o) h' := fun b u e => by
  have hn := x.fresh hp
  by_cases hb : b = a
  · subst hb; rw [upd_same] at e; cases e; exact new
  · rw [upd_ne hb] at e
    exact (x b u e).stay (fun c v _ q => k c v q) (fun c q => by rw [upd_ne (ne_of_none q hn)]; exact q) fun c xs q => by rw [upd_ne (ne_of_none q hn)]; exact q
end
noncomputable def Rd (H : Hp) (a : Addr) (u : HO) : Prop := H a = some u \/ ∃ o, H a = some (.frz o u)
theorem Rd.ok {P : Program} {w : World} {H : Hp} {h : Heap} {a : Addr} {u : HO} (r : Rd H a u) (x : HOk P w H h) : ObjOk P w H h a u := by
  rcases r with r | ⟨o, r⟩
  · exact x a u r
  · obtain ⟨_, q⟩ := x a _ r
    exact q
noncomputable def Mut : Option HO -> Prop
  | some (.lst _) => True
  | some (.dK _) => True
  | some (.dT _) => True
  | some (.set _ _) => True
  | some (.ins _ _ _) => True
  | some (.ext _) => True
  | _ => False
section
variable {P : Program} {w : World} {H : Hp} {h h' : Heap} {x e : Addr} {o' : HO}
theorem HOk.write (ok : HOk P w H h) (mu : Mut (H x)) (he : e = x \/ H e = some (.own x)) (k : ∀ b u, b ≠ e -> h.get? b = some u -> h'.get? b = some u) (heo : ∃ u, h'.get? e = some u)
    (new : ObjOk P w (upd H x o') h' x o') : HOk P w (upd H x o') h' := fun b u q => by
  have nown : ∀ c y, H c = some (.own y) -> c ≠ x := fun c y r z => by subst z; rw [r] at mu; exact mu
  have ntup : ∀ c xs, H c = some (.tup xs) -> c ≠ x := fun c xs r z => by subst z; rw [r] at mu; exact mu
  by_cases hb : b = x
  · subst hb; rw [upd_same] at q; cases q; exact new
  · rw [upd_ne hb] at q
    by_cases hbe : b = e
    · have q' : H b = some (.own x) := by
        rcases he with z | z
        · exact absurd (hbe.trans z) hb
        · rw [hbe]; exact z
      rw [q] at q'; cases q'
      obtain ⟨v, hv⟩ := heo
      exact ⟨v, by rw [hbe]; exact hv⟩
    · refine (ok b u q).stay (fun c v hc r => k c v ?_ r) (fun c r => by rw [upd_ne (nown c b r)]; exact r) fun c xs r => by rw [upd_ne (ntup c xs r)]; exact r
      rcases hc with rfl | hc
      · exact hbe
      · rintro rfl
        rcases he with z | z
        · exact nown c b hc z
        · rw [hc] at z; cases z; exact hb rfl
end
structure Un (fs ex : List Addr) (H H' : Hp) (h h' : Heap) : Prop where
  keep : ∀ b o, h.get? b = some o -> H b = none -> b ∉ fs -> b ∉ ex -> h'.get? b = some o
  slot : ∀ b o, h.get? b = some o -> H b = none -> b ∈ fs -> b ∉ ex -> ∃ sl, h'.get? b = some { o with slots := sl }
  free : ∀ b o, h.get? b = some o -> H b = none -> b ∉ ex -> H' b = none
  there : ∀ b o, h.get? b = some o -> b ∉ ex -> ∃ o', h'.get? b = some o'
  tups : ∀ b xs, H b = some (.tup xs) -> H' b = some (.tup xs)
  frzs : ∀ b o u, H b = some (.frz o u) -> H' b = some (.frz o u)
  tbls : ∀ b ps, H b = some (.tbl ps) -> ∃ more, H' b = some (.tbl (ps ++ more))
section
variable {fs fs' ex ex' : List Addr} {H H1 H2 : Hp} {h h1 h2 h' : Heap} {a x e : Addr} {o : HO}
theorem Un.any (u : Un fs ex H H1 h h1) {b : Addr} {ob : Obj} (q : h.get? b = some ob) (n : H b = none) (hx : b ∉ ex) : ∃ sl, h1.get? b = some { ob with slots := sl } := by
  by_cases hb : b ∈ fs
  · exact u.slot b ob q n hb hx
  · exact ⟨ob.slots, u.keep b ob q n hb hx⟩
theorem Un.kept (k : ∀ b u, h.get? b = some u -> h'.get? b = some u) : Un fs ex H H h h' :=
  ⟨fun b ob q _ _ _ => k b ob q, fun b ob q _ _ _ => ⟨ob.slots, k b ob q⟩, fun _ _ _ n _ => n, fun b ob q _ => ⟨ob, k b ob q⟩, fun _ _ q => q, fun _ _ _ q => q, fun _ ps q => ⟨#[], by rw [q]; simp⟩⟩
theorem Un.refl : Un fs ex H H h h := Un.kept fun _ _ q => q
theorem Un.laid (k : ∀ b u, h.get? b = some u -> h'.get? b = some u) (hp : h.objs.size <= a) (hn : H a = none) : Un fs ex H (upd H a o) h h' where
  keep := fun b u q _ _ _ => k b u q
  slot := fun b u q _ _ _ => ⟨u.slots, k b u q⟩
  free := fun b u q n _ => by rw [upd_ne (Nat.ne_of_lt (Nat.lt_of_lt_of_le (Heap.lt_size q) hp))]; exact n
  there := fun b u q _ => ⟨u, k b u q⟩
  tups := fun b xs q => by rw [upd_ne (ne_of_none q hn)]; exact q
  frzs := fun b u xs q => by rw [upd_ne (ne_of_none q hn)]; exact q
  tbls := fun b ps q => ⟨#[], by rw [upd_ne (ne_of_none q hn), q]; simp⟩
theorem Un.write (mu : Mut (H x)) (he : e = x \/ H e = some (.own x)) (k : ∀ b u, b ≠ e -> h.get? b = some u -> h'.get? b = some u) (heo : ∃ u, h'.get? e = some u) : Un fs ex H (upd H x o) h h' := by
  have hx : ∀ b, H b = none -> b ≠ x := fun b n z => by subst z; rw [n] at mu; exact mu
  have hb : ∀ b, H b = none -> b ≠ e := fun b n z => by
    subst z
    rcases he with r | r
    · exact hx b n r
    · rw [n] at r; cases r
  have hm : ∀ b u, H b = some u -> ¬ Mut (some u) -> b ≠ x := fun b u q nm z => by subst z; rw [q] at mu; exact nm mu
  refine ⟨fun b u q n _ _ => k b u (hb b n) q, fun b u q n _ _ => ⟨u.slots, k b u (hb b n) q⟩, fun b u q n _ => by rw [upd_ne (hx b n)]; exact n, fun b u q _ => ?_,
    fun b xs q => by rw [upd_ne (hm b _ q fun z => z)]; exact q, fun b u xs q => by rw [upd_ne (hm b _ q fun z => z)]; exact q, fun b ps q => ⟨#[], by rw [upd_ne (hm b _ q fun z => z), q]; simp⟩⟩
  by_cases hbe : b = e
  · subst hbe; exact heo
  · exact ⟨u, k b u hbe q⟩
end
noncomputable def trk (h : Heap) (H : Hp) : List Addr := (List.range h.objs.size).filter fun a => (H a).isSome
noncomputable def hidT (h : Heap) (H : Hp) : Heap := PySem.W.hideAll h (trk h H)
theorem hidT_size (h : Heap) (H : Hp) : (hidT h H).objs.size = h.objs.size := PySem.W.hideAll_size _ _
theorem hidT_get {h : Heap} {H : Hp} {b : Addr} {o : Obj} (e : h.get? b = some o) (n : H b = none) : (hidT h H).get? b = some o :=
  PySem.W.hideAll_get _ e fun hm => by
    have q : (H b).isSome = true := (List.mem_filter.mp hm).2
    rw [n] at q; simp at q
theorem of_hidT {h : Heap} {H : Hp} {b : Addr} {o : Obj} (e : (hidT h H).get? b = some o) : h.get? b = some o /\ H b = none := by
  have e' : h.get? b = some o := PySem.W.of_hideAll (trk h H) e
  refine ⟨e', ?_⟩
  cases q : H b with
  | none => rfl
  | some x =>
    have hm : b ∈ trk h H := List.mem_filter.mpr ⟨List.mem_range.mpr (Heap.lt_size e'), by simp [q]⟩
    have z : (hidT h H).get? b = none := PySem.W.hideAll_none (trk h H) hm
    rw [z] at e; cases e
end L2
namespace L2
open PySem PySem.Spec PyProof.Rows
structure Mod (K : PySem.W.Frag) (mg : Str -> Option Value) (base : Heap) : Prop where
  kin : K.In base
  glob : base.Ns mainGlobals mg
  blt : ∃ mb, base.Ns builtinsNs mb /\ ∀ x : Str, x ≠ "__name__" -> mb x = bootBuiltins x
  nolimit : base.NoLimit
structure Cx where
  prog : Program
  w : World
  K : PySem.W.Frag
  mg : Str -> Option Value
  base : Heap
  A : Around
  N : List Str
  s₀ : Shared
  H₀ : Hp
  env : Env
  outer : List Env
  stack : List Env
  ex : List Addr
  fn : Str -> Bool
  calm : Bool
  pn : List (Addr × Obj)
  xe : Value -> Shared -> Prop
noncomputable def frs (l : List Env) : List Addr := l.filterMap (·.frame)
noncomputable abbrev Cx.fs (X : Cx) : List Addr := frs X.outer
noncomputable def Vis (sc : Scope) (x : Str) : Prop := sc.names.lookup x = some .local \/ sc.names.lookup x = some .cell \/ sc.names.lookup x = some .free
noncomputable def Loc (sc : Scope) (x : Str) : Prop := sc.names.lookup x = some .local \/ sc.names.lookup x = some .cell
noncomputable def Look (env : Env) (h : Heap) (m : Str -> Option Value) (x : Str) (u : Value) : Prop :=
  (env.kindOf x = some .local /\ m x = some u) \/ ((env.kindOf x = some .cell \/ env.kindOf x = some .free) /\ ∃ c, env.cells.lookup x = some c /\ h.IsCell c (some u))
structure Cx.Ok (X : Cx) : Prop where
  mod : Mod X.K X.mg X.base
  kind : X.env.scope.kind = .function
  glob : X.env.globals = mainGlobals
  blt : X.env.builtins = builtinsNs
  above : X.s₀.heap.objs.size <= X.env.locals
  inj : ∀ x y c, X.env.cells.lookup x = some c -> X.env.cells.lookup y = some c -> x = y
  has : ∀ x, (X.env.kindOf x = some .cell \/ X.env.kindOf x = some .free) -> ∃ c, X.env.cells.lookup x = some c
  cab : ∀ x c, X.fn x = true -> X.env.cells.lookup x = some c -> X.s₀.heap.objs.size <= c
  hd : X.calm = true -> X.A.handled = none
  frames : X.A.frames = some X.stack
  stk : X.stack = X.outer \/ (X.stack = X.env :: X.outer /\ X.env.frame = some X.env.locals)
  exf : ∀ b ∈ X.ex, b ≠ X.env.locals /\ ∀ x c, X.env.cells.lookup x = some c -> c ≠ b
  bs : ∀ b o, X.base.get? b = some o -> X.s₀.heap.get? b = some o /\ X.H₀ b = none
  bsz : X.base.objs.size <= X.s₀.heap.objs.size
  noex : ∀ b o, X.base.get? b = some o -> b ∉ X.ex
  exfs : ∀ b ∈ X.ex, b ∉ X.fs
  funs : X.s₀.heap.FunFrames X.base X.outer
  frf : ∀ b ∈ X.fs, X.H₀ b = none
structure Inv (X : Cx) (pins : List (Addr × Obj)) (σ : List (Option V)) (H : Hp) (s : Shared) : Prop where
  ok : X.Ok
  os : s.os = X.s₀.os
  bare : AllBare s.gens
  base : Un X.fs X.ex X.H₀ H X.s₀.heap s.heap
  loc : ∃ m, s.heap.Ns X.env.locals m /\ ∀ (i : Nat) (x : Str) (v : V), X.N[i]? = some x -> σ[i]? = some (some v) -> Vis X.env.scope x -> ∃ u, RelV v u /\ Look X.env s.heap m x u
  cell : ∀ x c, X.env.cells.lookup x = some c -> ∃ v, s.heap.IsCell c v
  free : H X.env.locals = none
  freeC : ∀ x c, X.env.cells.lookup x = some c -> H c = none
  pin : ∀ p ∈ X.pn ++ pins, s.heap.get? p.1 = some p.2 /\ H p.1 = none /\ p.1 ≠ X.env.locals /\ p.1 ∉ X.fs /\ ∀ v, p.2.data ≠ .cell v
  hok : HOk X.prog X.w H s.heap
  len : σ.length = X.N.length
section
variable {X : Cx} {pins : List (Addr × Obj)} {σ : List (Option V)} {H H' : Hp} {s : Shared} {h' : Heap}
theorem Cx.Ok.nofr (ok : X.Ok) {b : Addr} {o : Obj} (e : X.base.get? b = some o) : b ∉ X.fs := fun hb => by
  have := (ok.funs.mem hb).1
  rw [e] at this; cases this
theorem Inv.bs (I : Inv X pins σ H s) : ∀ b o, X.base.get? b = some o -> s.heap.get? b = some o /\ H b = none := fun b o e =>
  ⟨I.base.keep b o (I.ok.bs b o e).1 (I.ok.bs b o e).2 (I.ok.nofr e) (I.ok.noex b o e), I.base.free b o (I.ok.bs b o e).1 (I.ok.bs b o e).2 (I.ok.noex b o e)⟩
theorem Inv.bk (I : Inv X pins σ H s) : ∀ b o, X.base.get? b = some o -> s.heap.get? b = some o := fun b o e => (I.bs b o e).1
theorem Inv.mod (I : Inv X pins σ H s) : Mod X.K X.mg X.base := I.ok.mod
theorem Inv.kIn (I : Inv X pins σ H s) : X.K.In s.heap := I.ok.mod.kin.keeps I.bk
theorem Inv.lt (I : Inv X pins σ H s) : X.env.locals < s.heap.objs.size := let ⟨_, hn, _⟩ := I.loc; hn.lt
theorem Inv.sz (I : Inv X pins σ H s) : X.s₀.heap.objs.size <= s.heap.objs.size := Nat.le_trans I.ok.above (Nat.le_of_lt I.lt)
theorem Inv.nofs (I : Inv X pins σ H s) {a : Addr} (h : s.heap.objs.size <= a) : a ∉ X.fs := fun hb => by
  obtain ⟨_, o, ho, _⟩ := I.ok.funs.mem hb
  exact absurd (Nat.lt_of_lt_of_le (Heap.lt_size ho) (Nat.le_trans I.sz h)) (Nat.lt_irrefl _)
theorem Inv.cne (I : Inv X pins σ H s) : ∀ x c, X.env.cells.lookup x = some c -> c ≠ X.env.locals := fun x c e z => by
  obtain ⟨v, o, ho, hd⟩ := I.cell x c e
  obtain ⟨m, ⟨o', es, ep, ho', hd', _⟩, _⟩ := I.loc
  rw [z, ho'] at ho; cases ho; rw [hd'] at hd; cases hd
theorem Inv.funs (I : Inv X pins σ H s) : s.heap.FunFrames X.base X.outer := by
  have all : ∀ (l : List Env), (∀ b ∈ frs l, b ∈ X.fs) -> X.s₀.heap.FunFrames X.base l -> s.heap.FunFrames X.base l := by
    intro l
    induction l with
    | nil => intro _ _; trivial
    | cons env r ih =>
      intro hs hl
      obtain ⟨hk, ⟨L, o, hf, hn, ho, hd⟩, hr⟩ := hl
      have hL : L ∈ X.fs := hs L (by unfold frs; rw [List.filterMap_cons, hf]; exact List.mem_cons_self)
      obtain ⟨sl, e⟩ := I.base.slot L o ho (I.ok.frf L hL) hL fun z => I.ok.exfs L z hL
      exact ⟨hk, ⟨L, _, hf, hn, e, hd⟩, ih (fun b hb => hs b (by unfold frs; rw [List.filterMap_cons, hf]; exact List.mem_cons_of_mem _ hb)) hr⟩
  exact all X.outer (fun _ hb => hb) I.ok.funs
theorem Inv.stack (I : Inv X pins σ H s) : s.heap.FunFrames X.base X.stack := by
  rcases I.ok.stk with e | ⟨e, hf⟩
  · rw [e]; exact I.funs
  · rw [e]
    obtain ⟨m, hn, _⟩ := I.loc
    refine .cons (by rw [I.ok.kind]; decide) hf hn ?_ I.funs
    exact Heap.get?_none_of_le (Nat.le_trans I.ok.bsz I.ok.above)
theorem Inv.stkSub (I : Inv X pins σ H s) : ∀ b ∈ frs X.stack, b ∈ X.env.locals :: X.fs := fun b hb => by
  rcases I.ok.stk with e | ⟨e, hf⟩
  · rw [e] at hb; exact List.mem_cons_of_mem _ hb
  · rw [e] at hb
    unfold frs at hb
    rw [List.filterMap_cons, hf] at hb
    exact hb
theorem Inv.stkFree (I : Inv X pins σ H s) : ∀ b ∈ frs X.stack, H b = none := fun b hb => by
  rcases List.mem_cons.mp (I.stkSub b hb) with e | hb
  · rw [e]; exact I.free
  · obtain ⟨_, o, ho, _⟩ := I.ok.funs.mem hb
    exact I.base.free b o ho (I.ok.frf b hb) fun z => I.ok.exfs b z hb
theorem Inv.step {g' : Array GenState} {t' : Nat} {d' : Drawn} {ch : List Addr} (I : Inv X pins σ H s)
    (hch : ∀ b ∈ ch, (b ∈ X.ex \/ X.s₀.heap.objs.size <= b) /\ b ≠ X.env.locals /\ (∀ x c, X.env.cells.lookup x = some c -> c ≠ b) /\ ∀ p ∈ X.pn ++ pins, p.1 ≠ b)
    (keep : ∀ b o, b ≠ X.env.locals -> b ∉ X.fs -> b ∉ ch -> s.heap.get? b = some o -> H b = none -> h'.get? b = some o)
    (slot : ∀ b o, b ≠ X.env.locals -> b ∈ X.fs -> b ∉ ch -> s.heap.get? b = some o -> H b = none -> ∃ sl, h'.get? b = some { o with slots := sl }) (free : ∀ b o, b ∉ ch -> s.heap.get? b = some o -> H b = none -> H' b = none)
    (there : ∀ b o, b ∉ ch -> s.heap.get? b = some o -> ∃ o', h'.get? b = some o')
    (tups : ∀ b xs, H b = some (.tup xs) -> H' b = some (.tup xs)) (frzs : ∀ b o u, H b = some (.frz o u) -> H' b = some (.frz o u)) (tbls : ∀ b ps, H b = some (.tbl ps) -> ∃ more, H' b = some (.tbl (ps ++ more)))
    (ns : ∀ m, s.heap.Ns X.env.locals m -> h'.Ns X.env.locals m) (hok : HOk X.prog X.w H' h') (hg : AllBare g') :
    Inv X pins σ H' { s with heap := h', gens := g', drawn := d', toks := t' } := by
  have neL : ∀ b o, X.s₀.heap.get? b = some o -> b ≠ X.env.locals := fun b o e => Nat.ne_of_lt (Nat.lt_of_lt_of_le (Heap.lt_size e) I.ok.above)
  have neC : ∀ b o, X.s₀.heap.get? b = some o -> b ∉ X.ex -> b ∉ ch := fun b o e hx hb => by
    rcases (hch b hb).1 with z | z
    · exact hx z
    · exact absurd (Nat.lt_of_lt_of_le (Heap.lt_size e) z) (Nat.lt_irrefl _)
  have cellK : ∀ x c, X.env.cells.lookup x = some c -> ∀ v, s.heap.IsCell c v -> h'.IsCell c v := fun x c e v ⟨o, ho, hd⟩ => by
    have nch : c ∉ ch := fun z => (hch c z).2.2.1 x c e rfl
    by_cases hc : c ∈ X.fs
    · obtain ⟨sl, q⟩ := slot c o (I.cne x c e) hc nch ho (I.freeC x c e)
      exact ⟨_, q, hd⟩
    · exact ⟨o, keep c o (I.cne x c e) hc nch ho (I.freeC x c e), hd⟩
  refine ⟨I.ok, I.os, hg, ⟨fun b o e n hb hx => ?_, fun b o e n hb hx => ?_, fun b o e n hx => ?_, fun b o e hx => ?_, fun b xs e => tups b xs (I.base.tups b xs e), fun b o xs e => frzs b o xs (I.base.frzs b o xs e), fun b ps e => ?_⟩, ?_, fun x c e => ?_, ?_, fun x c e => ?_, fun p hp => ?_, hok, I.len⟩
  · exact keep b o (neL b o e) hb (neC b o e hx) (I.base.keep b o e n hb hx) (I.base.free b o e n hx)
  · obtain ⟨sl, e1⟩ := I.base.slot b o e n hb hx
    obtain ⟨sl', e2⟩ := slot b _ (neL b o e) hb (neC b o e hx) e1 (I.base.free b o e n hx)
    exact ⟨sl', e2⟩
  · obtain ⟨o', e1⟩ := I.base.there b o e hx
    exact free b o' (neC b o e hx) e1 (I.base.free b o e n hx)
  · obtain ⟨o', e1⟩ := I.base.there b o e hx
    exact there b o' (neC b o e hx) e1
  · obtain ⟨m1, e1⟩ := I.base.tbls b ps e
    obtain ⟨m2, e2⟩ := tbls b _ e1
    exact ⟨m1 ++ m2, by rw [e2, Array.append_assoc]⟩
  · obtain ⟨m, hn, hl⟩ := I.loc
    refine ⟨m, ns m hn, fun i x v e1 e2 e3 => ?_⟩
    obtain ⟨u, r, l⟩ := hl i x v e1 e2 e3
    refine ⟨u, r, ?_⟩
    rcases l with l | ⟨k, c, e, z⟩
    · exact .inl l
    · exact .inr ⟨k, c, e, cellK x c e _ z⟩
  · obtain ⟨v, z⟩ := I.cell x c e
    exact ⟨v, cellK x c e v z⟩
  · obtain ⟨m, ⟨o, _, _, ho, _⟩, _⟩ := I.loc
    exact free _ o (fun z => (hch _ z).2.1 rfl) ho I.free
  · obtain ⟨v, o, ho, hd⟩ := I.cell x c e
    exact free c o (fun z => (hch c z).2.2.1 x c e rfl) ho (I.freeC x c e)
  · obtain ⟨e, n, ne, nf, d⟩ := I.pin p hp
    have nch : p.1 ∉ ch := fun z => (hch p.1 z).2.2.2 p hp rfl
    exact ⟨keep p.1 p.2 ne nf nch e n, free p.1 p.2 nch e n, ne, nf, d⟩
theorem Inv.un {t' : Nat} (I : Inv X pins σ H s) (u : Un X.fs [] H H' s.heap h') (hok : HOk X.prog X.w H' h') : Inv X pins σ H' { s with heap := h', toks := t' } := by
  obtain ⟨m, ⟨o, es, ep, ho, r⟩, _⟩ := id I.loc
  obtain ⟨sl, hL⟩ := u.any ho I.free (by simp)
  exact I.step (g' := s.gens) (d' := s.drawn) (ch := []) (fun _ z => nomatch z) (fun b o _ hb _ e n => u.keep b o e n hb (by simp)) (fun b o _ hb _ e n => u.slot b o e n hb (by simp)) (fun b o _ e n => u.free b o e n (by simp)) (fun b o _ e => u.there b o e (by simp)) u.tups u.frzs u.tbls (fun m' hm => by
    obtain ⟨o', es', ep', ho', r'⟩ := hm
    rw [ho] at ho'; cases ho'
    exact ⟨_, es', ep', hL, r'⟩) hok I.bare
theorem Inv.call {g' : Array GenState} {t' : Nat} {d' : Drawn} {ch : List Addr} (I : Inv X pins σ H s) (u : Un (frs X.stack) ch H H' s.heap h') (hok : HOk X.prog X.w H' h') (hg : AllBare g')
    (hch : ∀ b ∈ ch, (b ∈ X.ex \/ X.s₀.heap.objs.size <= b) /\ b ≠ X.env.locals /\ (∀ x c, X.env.cells.lookup x = some c -> c ≠ b) /\ ∀ p ∈ X.pn ++ pins, p.1 ≠ b) :
    Inv X pins σ H' { s with heap := h', gens := g', drawn := d', toks := t' } := by
  obtain ⟨m, ⟨o, es, ep, ho, r⟩, _⟩ := id I.loc
  obtain ⟨sl, hL⟩ := u.any ho I.free fun z => (hch _ z).2.1 rfl
  exact I.step (ch := ch) hch (fun b o hL hb hc e n => u.keep b o e n (fun z => (List.mem_cons.mp (I.stkSub b z)).elim hL hb) hc) (fun b o _ _ hc e n => u.any e n hc) (fun b o hc e n => u.free b o e n hc) (fun b o hc e => u.there b o e hc) u.tups u.frzs u.tbls (fun m' hm => by
    obtain ⟨o', es', ep', ho', r'⟩ := hm
    rw [ho] at ho'; cases ho'
    exact ⟨_, es', ep', hL, r'⟩) hok hg
theorem Inv.turned {t' : Nat} {it : Addr} (I : Inv X pins σ H s) (k : ∀ b o, b ≠ it -> s.heap.get? b = some o -> h'.get? b = some o) (hn : H it = none) (hL : it ≠ X.env.locals)
    (h1 : it ∈ X.ex \/ X.s₀.heap.objs.size <= it) (h2 : ∀ x c, X.env.cells.lookup x = some c -> c ≠ it) (h3 : ∀ p ∈ X.pn ++ pins, p.1 ≠ it) : Inv X pins σ H { s with heap := h', toks := t' } := by
  have nit : ∀ b u, H b = some u -> b ≠ it := fun b u e z => by rw [z, hn] at e; cases e
  refine I.step (g' := s.gens) (d' := s.drawn) (ch := [it]) (fun b hb => ?_) (fun b o _ _ hc e _ => k b o (fun z => hc (by simp [z])) e) (fun b o _ _ hc e _ => ⟨o.slots, k b o (fun z => hc (by simp [z])) e⟩) (fun _ _ _ _ n => n)
    (fun b o hc e => ⟨o, k b o (fun z => hc (by simp [z])) e⟩) (fun _ _ e => e) (fun _ _ _ e => e) (fun b ps e => ⟨#[], by rw [e]; simp⟩) (fun m hm => ?_) (fun b u e => ?_) I.bare
  · have e : b = it := by simpa using hb
    subst e
    exact ⟨h1, hL, h2, h3⟩
  · obtain ⟨o, es, ep, ho, r⟩ := hm
    exact ⟨o, es, ep, k _ o (Ne.symm hL) ho, r⟩
  · refine (I.hok b u e).stay (fun c v hc q => k c v ?_ q) (fun _ q => q) fun _ _ q => q
    rcases hc with z | z
    · rw [z]; exact nit b u e
    · exact nit c _ z
theorem Inv.tok (I : Inv X pins σ H s) (t : Nat) : Inv X pins σ H { s with toks := t } := I.un (h' := s.heap) (t' := t) Un.refl I.hok
theorem Inv.kept {t' : Nat} (I : Inv X pins σ H s) (k : ∀ b u, s.heap.get? b = some u -> h'.get? b = some u) : Inv X pins σ H { s with heap := h', toks := t' } := I.un (Un.kept k) (I.hok.kept k)
theorem Inv.laid {a : Addr} {o : HO} {t' : Nat} (I : Inv X pins σ H s) (k : ∀ b u, s.heap.get? b = some u -> h'.get? b = some u) (hp : s.heap.objs.size <= a) (new : ObjOk X.prog X.w (upd H a o) h' a o) :
    Inv X pins σ (upd H a o) { s with heap := h', toks := t' } := I.un (Un.laid k hp (I.hok.fresh hp)) (I.hok.laid k hp new)
theorem Inv.write {x e : Addr} {o : HO} {t' : Nat} (I : Inv X pins σ H s) (mu : Mut (H x)) (he : e = x \/ H e = some (.own x)) (k : ∀ b u, b ≠ e -> s.heap.get? b = some u -> h'.get? b = some u) (heo : ∃ u, h'.get? e = some u)
    (new : ObjOk X.prog X.w (upd H x o) h' x o) : Inv X pins σ (upd H x o) { s with heap := h', toks := t' } := I.un (Un.write mu he k heo) (I.hok.write mu he k heo new)
theorem Inv.pins_of {pins' : List (Addr × Obj)} (I : Inv X pins σ H s) (h : ∀ p ∈ pins', s.heap.get? p.1 = some p.2 /\ H p.1 = none /\ p.1 ≠ X.env.locals /\ p.1 ∉ X.fs /\ ∀ v, p.2.data ≠ .cell v) : Inv X pins' σ H s :=
  ⟨I.ok, I.os, I.bare, I.base, I.loc, I.cell, I.free, I.freeC, fun p hp => (List.mem_append.mp hp).elim (fun z => I.pin p (List.mem_append_left _ z)) (h p), I.hok, I.len⟩
theorem nodup_ix {N : List Str} (hN : N.Nodup) {i j : Nat} {x : Str} (a : N[i]? = some x) (b : N[j]? = some x) : i = j := by
  obtain ⟨h1, e1⟩ := List.getElem?_eq_some_iff.mp a
  obtain ⟨h2, e2⟩ := List.getElem?_eq_some_iff.mp b
  exact (List.getElem_inj hN).mp (e1.trans e2.symm)
theorem store_ok2 {M : Model} {A : Around} {E : Value -> Shared -> Prop} {i : Nat} {x : Str} {v : V} {u : Value} {Q : Unit -> Shared -> Prop} (I : Inv X pins σ H s) (hN : X.N.Nodup) (hi : X.N[i]? = some x) (hx : Loc X.env.scope x) (r : RelV v u)
    (h : ∀ s', Inv X pins (σ.set i (some v)) H s' -> (∃ a, Heap.SameBut a s.heap s'.heap /\ (a = X.env.locals \/ X.env.cells.lookup x = some a)) -> Q () s') (hf : autoParam (X.fn x = true \/ X.env.scope.names.lookup x = some .local) L2.au0._auto_1) : wpAny M A (storeName X.env x u) Q E s := by
  obtain ⟨m, hn, hl⟩ := id I.loc
  have hcls : (X.env.scope.kind == .class || (X.env.scope.kind == .module && X.env.locals != X.env.globals)) = false := by rw [I.ok.kind]; rfl
  have hiσ : i < σ.length := by rw [I.len]; exact (List.getElem?_eq_some_iff.mp hi).1
  have cne := I.cne
  have tracked : ∀ {a : Addr} {h' : Heap}, (∃ o, s.heap.get? a = some o /\ H a = none) -> Heap.SameBut a s.heap h' -> HOk X.prog X.w H h' := fun {a h'} ha hs b ob e => by
    obtain ⟨_, _, hfree⟩ := ha
    refine (I.hok b ob e).stay (fun c w' hc q => (hs.2 c ?_).trans q) (fun _ q => q) fun _ _ q => q
    rintro rfl
    rcases hc with rfl | hc
    · rw [hfree] at e; cases e
    · rw [hfree] at hc; cases hc
  rcases hx with hk | hk
  · refine wpAny_storeName_local hk hn (fun h' hn' hs => ?_) hcls
    obtain ⟨oL, _, _, hoL, _⟩ := id hn
    refine h _ ⟨I.ok, I.os, I.bare, ⟨fun b o e n hb hx => ?_, fun b o e n hb hx => ?_, I.base.free, fun b o e hx => ?_, I.base.tups, I.base.frzs, I.base.tbls⟩, ⟨_, hn', fun j y v' e1 e2 e3 => ?_⟩, fun y c e => ?_, I.free, I.freeC, fun p hp => ?_, tracked ⟨oL, hoL, I.free⟩ hs, by simpa using I.len⟩ ⟨_, hs, .inl rfl⟩
    · exact (hs.2 b (Nat.ne_of_lt (Nat.lt_of_lt_of_le (Heap.lt_size e) I.ok.above))).trans (I.base.keep b o e n hb hx)
    · obtain ⟨sl, e1⟩ := I.base.slot b o e n hb hx
      exact ⟨sl, (hs.2 b (Nat.ne_of_lt (Nat.lt_of_lt_of_le (Heap.lt_size e) I.ok.above))).trans e1⟩
    · obtain ⟨o', e1⟩ := I.base.there b o e hx
      exact ⟨o', (hs.2 b (Nat.ne_of_lt (Nat.lt_of_lt_of_le (Heap.lt_size e) I.ok.above))).trans e1⟩
    · by_cases hj : j = i
      · subst hj
        rw [hi] at e1; cases e1
        rw [List.getElem?_set_self hiσ] at e2
        cases e2
        exact ⟨u, r, .inl ⟨hk, by simp⟩⟩
      · rw [List.getElem?_set_ne (Ne.symm hj)] at e2
        obtain ⟨u', r', q⟩ := hl j y v' e1 e2 e3
        refine ⟨u', r', ?_⟩
        rcases q with ⟨k, e⟩ | ⟨k, c, e, z⟩
        · refine .inl ⟨k, ?_⟩
          have : y ≠ x := fun e => hj (nodup_ix hN e1 (e ▸ hi))
          simp [this, e]
        · exact .inr ⟨k, c, e, z.sameBut hs (cne y c e)⟩
    · obtain ⟨w', z⟩ := I.cell y c e
      exact ⟨w', z.sameBut hs (cne y c e)⟩
    · obtain ⟨e, n, ne, nf, d⟩ := I.pin p hp
      exact ⟨(hs.2 p.1 ne).trans e, n, ne, nf, d⟩
  · have hfn : X.fn x = true := by
      rcases hf with z | z
      · exact z
      · rw [z] at hk; cases hk
    obtain ⟨c, hc⟩ := I.ok.has x (.inl hk)
    obtain ⟨w', z⟩ := I.cell x c hc
    refine wpAny_storeName_cell I.ok.kind hk hc z (fun h' hc' hs => ?_)
    obtain ⟨oc, hoc, hocd⟩ := id z
    refine h { s with heap := h' } ⟨I.ok, I.os, I.bare, ⟨fun b o e n hb hx => ?_, fun b o e n hb hx => ?_, I.base.free, fun b o e hx => ?_, I.base.tups, I.base.frzs, I.base.tbls⟩, ⟨m, hn.sameBut hs (Ne.symm (cne x c hc)), fun j y v' e1 e2 e3 => ?_⟩, fun y c' e => ?_, I.free, I.freeC, fun p hp => ?_, tracked ⟨oc, hoc, I.freeC x c hc⟩ hs, by simpa using I.len⟩ ⟨c, hs, .inr hc⟩
    · exact (hs.2 b (Nat.ne_of_lt (Nat.lt_of_lt_of_le (Heap.lt_size e) (I.ok.cab x c hfn hc)))).trans (I.base.keep b o e n hb hx)
    · obtain ⟨sl, e1⟩ := I.base.slot b o e n hb hx
      exact ⟨sl, (hs.2 b (Nat.ne_of_lt (Nat.lt_of_lt_of_le (Heap.lt_size e) (I.ok.cab x c hfn hc)))).trans e1⟩
    · obtain ⟨o', e1⟩ := I.base.there b o e hx
      exact ⟨o', (hs.2 b (Nat.ne_of_lt (Nat.lt_of_lt_of_le (Heap.lt_size e) (I.ok.cab x c hfn hc)))).trans e1⟩
    · by_cases hj : j = i
      · subst hj
        rw [hi] at e1; cases e1
        rw [List.getElem?_set_self hiσ] at e2
        cases e2
        exact ⟨u, r, .inr ⟨.inl hk, c, hc, hc'⟩⟩
      · rw [List.getElem?_set_ne (Ne.symm hj)] at e2
        obtain ⟨u', r', q⟩ := hl j y v' e1 e2 e3
        refine ⟨u', r', ?_⟩
        rcases q with q | ⟨k, c', e, z'⟩
        · exact .inl q
        · refine .inr ⟨k, c', e, z'.sameBut hs ?_⟩
          rintro rfl
          exact hj (nodup_ix hN e1 (I.ok.inj _ _ _ e hc ▸ hi))
    · by_cases hcc : c' = c
      · subst hcc; exact ⟨_, hc'⟩
      · obtain ⟨w2, z2⟩ := I.cell y c' e
        exact ⟨w2, z2.sameBut hs hcc⟩
    · obtain ⟨e, n, ne, nf, d⟩ := I.pin p hp
      refine ⟨(hs.2 p.1 ?_).trans e, n, ne, nf, d⟩
      intro q
      rw [q, hoc] at e
      have q' : oc = p.2 := Option.some.inj e
      exact d w' (by rw [<- q']; exact hocd)
theorem store_ok {M : Model} {A : Around} {E : Value -> Shared -> Prop} {i : Nat} {x : Str} {v : V} {u : Value} {Q : Unit -> Shared -> Prop} (I : Inv X pins σ H s) (hN : X.N.Nodup) (hi : X.N[i]? = some x) (hx : Loc X.env.scope x) (r : RelV v u)
    (h : ∀ s', Inv X pins (σ.set i (some v)) H s' -> Q () s') (hf : autoParam (X.fn x = true \/ X.env.scope.names.lookup x = some .local) L2.au0._auto_1) : wpAny M A (storeName X.env x u) Q E s :=
  store_ok2 I hN hi hx r (fun s' I' _ => h s' I') hf
theorem Inv.call' {s' : Shared} {ch : List Addr} (I : Inv X pins σ H s) (ho : s'.os = s.os) (u : Un (frs X.stack) ch H H' s.heap s'.heap) (hok : HOk X.prog X.w H' s'.heap) (hg : AllBare s'.gens)
    (hch : ∀ b ∈ ch, (b ∈ X.ex \/ X.s₀.heap.objs.size <= b) /\ b ≠ X.env.locals /\ (∀ x c, X.env.cells.lookup x = some c -> c ≠ b) /\ ∀ p ∈ X.pn ++ pins, p.1 ≠ b) : Inv X pins σ H' s' := by
  obtain ⟨h', g', d', t', o'⟩ := s'
  have e : o' = s.os := ho
  subst e
  exact I.call (g' := g') (t' := t') (d' := d') u hok hg hch
end
noncomputable abbrev XK := Value -> Option Addr -> Hp -> Prop
noncomputable abbrev St := List (Option V)
noncomputable abbrev VK := V -> Hp -> Prop
noncomputable abbrev TE := St -> Hp -> VK -> Prop
noncomputable abbrev TT := St -> Hp -> (Bool -> Hp -> Prop) -> Prop
noncomputable abbrev TA := St -> Hp -> (List V -> Hp -> Prop) -> Prop
structure Ends where
  nx : St -> Hp -> Prop
  rt : VK
  bk : St -> Hp -> Prop := fun _ _ => False
  ct : St -> Hp -> Prop := fun _ _ => False
noncomputable abbrev TS := Ends -> St -> Hp -> Prop
noncomputable def EP (X : Cx) (pins : List (Addr × Obj)) (σ : St) (Q : VK) (u : Value) (s' : Shared) : Prop := ∃ v H', Inv X pins σ H' s' /\ RelV v u /\ Q v H'
noncomputable def TP (X : Cx) (pins : List (Addr × Obj)) (σ : St) (Q : Bool -> Hp -> Prop) (b : Bool) (s' : Shared) : Prop := ∃ H', Inv X pins σ H' s' /\ Q b H'
noncomputable def AP (X : Cx) (pins : List (Addr × Obj)) (σ : St) (Q : List V -> Hp -> Prop) (us : List Value) (s' : Shared) : Prop := ∃ vs H', Inv X pins σ H' s' /\ Vals vs us /\ Q vs H'
noncomputable def SP (X : Cx) (pins : List (Addr × Obj)) (D : Ends) (f : Flow) (s' : Shared) : Prop :=
  match f with
  | .next => ∃ σ' H', Inv X pins σ' H' s' /\ D.nx σ' H'
  | .brk => ∃ σ' H', Inv X pins σ' H' s' /\ D.bk σ' H'
  | .cont => ∃ σ' H', Inv X pins σ' H' s' /\ D.ct σ' H'
  | .ret u => ∃ v σ' H', Inv X pins σ' H' s' /\ RelV v u /\ D.rt v H'
noncomputable def PE (X : Cx) (e : Expr) (t : TE) : Prop :=
  ∀ (pins : List (Addr × Obj)) (s : Shared) (σ : St) (H : Hp) (Q : VK), Inv X pins σ H s -> t σ H Q -> wpAny (model X.prog X.w) X.A (eval e X.env) (EP X pins σ Q) X.xe s
noncomputable def PT (X : Cx) (e : Expr) (t : TT) : Prop :=
  ∀ (pins : List (Addr × Obj)) (s : Shared) (σ : St) (H : Hp) (Q : Bool -> Hp -> Prop), Inv X pins σ H s -> t σ H Q -> wpAny (model X.prog X.w) X.A (isTrue e X.env (eval e X.env)) (TP X pins σ Q) X.xe s
noncomputable def PW (X : Cx) (e : Expr) (t : TT) : Prop :=
  ∀ (whole : Sem Value) (pins : List (Addr × Obj)) (s : Shared) (σ : St) (H : Hp) (Q : Bool -> Hp -> Prop), Inv X pins σ H s -> t σ H Q -> wpAny (model X.prog X.w) X.A (isTrue e X.env whole) (TP X pins σ Q) X.xe s
theorem PW.pt {X : Cx} {e : Expr} {t : TT} (h : PW X e t) : PT X e t := h _
noncomputable def PA (X : Cx) (es : List Expr) (t : TA) : Prop :=
  ∀ (pos : Pos) (pins : List (Addr × Obj)) (s : Shared) (σ : St) (H : Hp) (Q : List V -> Hp -> Prop), Inv X pins σ H s -> t σ H Q -> wpAny (model X.prog X.w) X.A (spliced (backTo pos (starEach es X.env))) (AP X pins σ Q) X.xe s
noncomputable def PS (X : Cx) (st : Stmt) (t : TS) : Prop :=
  ∀ (pins : List (Addr × Obj)) (s : Shared) (σ : St) (H : Hp) (D : Ends), Inv X pins σ H s -> t D σ H -> wpAny (model X.prog X.w) X.A (exec st X.env) (SP X pins D) X.xe s
noncomputable def PSs (X : Cx) (st : List Stmt) (t : TS) : Prop :=
  ∀ (pins : List (Addr × Obj)) (s : Shared) (σ : St) (H : Hp) (D : Ends), Inv X pins σ H s -> t D σ H -> wpAny (model X.prog X.w) X.A (execs st X.env) (SP X pins D) X.xe s
theorem thn {α : Type} {t : Sem α} {Q Q' : α -> Shared -> Prop} {M : Model} {A : Around} {E : Value -> Shared -> Prop} {s : Shared} (h : wpAny M A t Q E s) (hQ : ∀ a s, Q a s -> Q' a s) : wpAny M A t Q' E s := wpAny_mono h hQ fun _ _ x => x
end L2
namespace L2
open PySem PySem.Spec PyProof.Rows
section
variable {X : Cx}
noncomputable def tVar (i : Nat) : TE := fun σ H Q => ∃ v, σ[i]? = some (some v) /\ Q v H
noncomputable def tC (v : V) : TE := fun _ H Q => Q v H
theorem pe_var {i : Nat} {x : Str} {pos : Pos} (hN : X.N[i]? = some x) (hv : Vis X.env.scope x) (hd : autoParam ((x == ("__debug__" : Str)) = false) L2.au1._auto_1) (hcd : autoParam ((x == ("__classdict__" : Str)) = false) L2.au1._auto_1) : PE X (.Name x pos) (tVar i) := by
  intro pins s σ H Q I h
  obtain ⟨v, e, h⟩ := h
  obtain ⟨m, hn, hl⟩ := I.loc
  obtain ⟨u, r, l⟩ := hl i x v hN e hv
  have fin : EP X pins σ Q u s := ⟨v, H, I, r, h⟩
  rcases l with ⟨hk, hm⟩ | ⟨hk, c, hc, hcell⟩
  · exact wpAny_Name (wpAny_loadName_local I.ok.kind hk hn hm fin) hd
  · rcases hk with hk | hk
    · exact wpAny_Name (wpAny_loadName_cell I.ok.kind hk hc hcell fin) hd
    · exact wpAny_Name (wpAny_loadName_free I.ok.kind hk hc hcell fin hcd) hd
theorem pe_int {i j pos} : PE X (.Constant (.int i) j pos) (tC (.int i)) := fun _ _ _ H _ I h => wpAny_Constant_int ⟨.int i, H, I.tok _, ⟨_, rfl⟩, h⟩
theorem pe_bl {b j pos} : PE X (.Constant (.bool b) j pos) (tC (.bl b)) := fun _ _ _ H _ I h => Constant_bool ⟨.bl b, H, I, rfl, h⟩
theorem pe_non {j pos} : PE X (.Constant .none j pos) (tC .non) := fun _ _ _ H _ I h => Constant_none ⟨.non, H, I, rfl, h⟩
theorem pe_str {x j pos} : PE X (.Constant (.str x) j pos) (tC (.str x)) := fun _ _ _ H _ I h => Calls.Constant_str ⟨.str x, H, I.tok _, ⟨_, rfl⟩, h⟩
noncomputable def Gl (X : Cx) (x : Str) : Prop := X.env.kindOf x = some .globalImplicit
theorem ld_glob {E : Value -> Shared -> Prop} {pins : List (Addr × Obj)} {s : Shared} {σ : St} {H : Hp} {x : Str} {u : Value} {pos : Pos} {Q : Value -> Shared -> Prop} (I : Inv X pins σ H s) (hg : Gl X x) (hm : X.mg x = some u) (h : Q u s)
    (hd : autoParam ((x == ("__debug__" : Str)) = false) L2.au1._auto_1) : wpAny (model X.prog X.w) X.A (eval (.Name x pos) X.env) Q E s :=
  Calls.Name_function_global I.ok.kind hg (Calls.loadGlobal_global (by rw [I.ok.glob]; exact I.mod.glob.keeps I.bk) hm h) hd
theorem ld_blt {E : Value -> Shared -> Prop} {pins : List (Addr × Obj)} {s : Shared} {σ : St} {H : Hp} {x : Str} {u : Value} {pos : Pos} {Q : Value -> Shared -> Prop} (I : Inv X pins σ H s) (hg : Gl X x) (hm : X.mg x = none) (hv : bootBuiltins x = some u) (h : Q u s)
    (hn : autoParam (x ≠ "__name__") L2.au1._auto_1) (hd : autoParam ((x == ("__debug__" : Str)) = false) L2.au1._auto_1) : wpAny (model X.prog X.w) X.A (eval (.Name x pos) X.env) Q E s := by
  obtain ⟨mb, h1, h2⟩ := I.mod.blt
  exact Calls.Name_function_global I.ok.kind hg (Calls.loadGlobal_builtin (by rw [I.ok.glob]; exact I.mod.glob.keeps I.bk) hm (by rw [I.ok.blt]; exact h1.keeps I.bk) ((h2 x hn).trans hv) h) hd
theorem pe_glob {x : Str} {v : V} {u : Value} {pos : Pos} (hg : Gl X x) (hm : X.mg x = some u) (r : RelV v u) (hd : autoParam ((x == ("__debug__" : Str)) = false) L2.au1._auto_1) : PE X (.Name x pos) (tC v) :=
  fun _ _ _ H _ I h => ld_glob I hg hm ⟨v, H, I, r, h⟩ hd
theorem pe_bltn {x : Str} {v : V} {u : Value} {pos : Pos} (hg : Gl X x) (hm : X.mg x = none) (hv : bootBuiltins x = some u) (r : RelV v u) (hn : autoParam (x ≠ "__name__") L2.au1._auto_1) (hd : autoParam ((x == ("__debug__" : Str)) = false) L2.au1._auto_1) : PE X (.Name x pos) (tC v) :=
  fun _ _ _ H _ I h => ld_blt I hg hm hv ⟨v, H, I, r, h⟩ hn hd
variable {a b : Expr} {ta tb : TE} {pos : Pos}
noncomputable def tB (t : TE) : TT := fun σ H Q => t σ H fun x H1 => ∃ c, x = .bl c /\ Q c H1
theorem pt_val {e : Expr} {t : TE} (h : PE X e t) (he : autoParam (∀ whole, isTrue e X.env whole = (do let v <- whole; standAt e.pos; holding [v] (truthy v))) L2.au2._auto_1) : PT X e (tB t) := by
  intro pins s σ H Q I hw
  refine isTrue_plain (thn (h pins s σ H _ I hw) fun v s1 ⟨x, H1, I1, r1, q1⟩ => ?_) (he _)
  obtain ⟨d, rfl, q⟩ := q1
  cases r1
  exact wpAny_truthy_bool ⟨H1, I1, q⟩
variable {tA tB' : TT} {rest : List Expr}
noncomputable def tAnd (t u : TT) : TT := fun σ H Q => t σ H fun c H1 => if c = true then u σ H1 Q else Q false H1
noncomputable def tOr (t u : TT) : TT := fun σ H Q => t σ H fun c H1 => if c = true then Q true H1 else u σ H1 Q
noncomputable def tNot (t : TT) : TT := fun σ H Q => t σ H fun c H1 => Q (!c) H1
theorem pw_and1 (ha : PT X a tA) : PW X (.BoolOp .And [a] pos) tA := by
  intro wh pins s σ H Q I h
  refine isTrue_and (thn (ha pins s σ H Q I h) fun c s1 e => ?_)
  cases c with
  | true => exact isTrue_and_nil e
  | false => exact e
theorem pw_or1 (ha : PT X a tA) : PW X (.BoolOp .Or [a] pos) tA := by
  intro wh pins s σ H Q I h
  refine isTrue_or (thn (ha pins s σ H Q I h) fun c s1 e => ?_)
  cases c with
  | false => exact isTrue_or_nil e
  | true => exact e
theorem pw_and (ha : PT X a tA) (hb : PW X (.BoolOp .And (b :: rest) pos) tB') : PW X (.BoolOp .And (a :: b :: rest) pos) (tAnd tA tB') := by
  intro wh pins s σ H Q I h
  refine isTrue_and (thn (ha pins s σ H _ I h) fun c s1 ⟨H1, I1, q1⟩ => ?_)
  cases c with
  | true => exact hb wh pins s1 σ H1 Q I1 q1
  | false => exact ⟨H1, I1, q1⟩
theorem pw_or (ha : PT X a tA) (hb : PW X (.BoolOp .Or (b :: rest) pos) tB') : PW X (.BoolOp .Or (a :: b :: rest) pos) (tOr tA tB') := by
  intro wh pins s σ H Q I h
  refine isTrue_or (thn (ha pins s σ H _ I h) fun c s1 ⟨H1, I1, q1⟩ => ?_)
  cases c with
  | true => exact ⟨H1, I1, q1⟩
  | false => exact hb wh pins s1 σ H1 Q I1 q1
theorem pt_not (ha : PT X a tA) : PT X (.UnaryOp .Not a pos) (tNot tA) := by
  intro pins s σ H Q I h
  exact isTrue_not (ha pins s σ H (fun c H1 => Q (!c) H1) I h)
noncomputable def tAndV (ta tb : TE) : TE := fun σ H Q => ta σ H fun x H1 => ∃ c, x = .bl c /\ if c = true then tb σ H1 Q else Q (.bl false) H1
noncomputable def tNotV (ta : TE) : TE := fun σ H Q => ta σ H fun x H1 => ∃ c, x = .bl c /\ Q (.bl (!c)) H1
theorem pe_one {op} {t : TE} (h : PE X a t) : PE X (.BoolOp op [a] pos) t := fun pins s σ H Q I hw => BoolOp_one (h pins s σ H Q I hw)
theorem pe_and (ha : PE X a ta) (hb : PE X (.BoolOp .And (b :: rest) pos) tb) : PE X (.BoolOp .And (a :: b :: rest) pos) (tAndV ta tb) := by
  intro pins s σ H Q I h
  refine BoolOp_and (thn (ha pins s σ H _ I h) fun v s1 ⟨x, H1, I1, r1, q1⟩ => ?_)
  obtain ⟨c, rfl, q1⟩ := q1
  cases r1
  refine wpAny_truthy_bool ?_
  cases c with
  | true => exact hb pins s1 σ H1 Q I1 q1
  | false => exact ⟨.bl false, H1, I1, rfl, q1⟩
theorem pe_not (ha : PE X a ta) : PE X (.UnaryOp .Not a pos) (tNotV ta) := by
  intro pins s σ H Q I h
  refine UnaryOp_ (thn (ha pins s σ H _ I h) fun v s1 ⟨x, H1, I1, r1, q1⟩ => ?_)
  obtain ⟨c, rfl, q1⟩ := q1
  cases r1
  exact not_of (wpAny_truthy_bool ⟨.bl (!c), H1, I1, rfl, q1⟩)
end
end L2
namespace L2
open PySem PySem.Spec PyProof.Rows
noncomputable def SqL (K : PySem.W.Frag) (H : Hp) (a : Addr) (xs : List V) : Prop :=
  Rd H a (.lst xs) \/
    ∃ (o : Obj) (its : Array Value) (n : Nat), K.lookup a = some o /\ o.cls = .type "list" /\ o.dict = none /\ o.data = .seq its n /\ its.size <= sizeLine /\ Vals xs its.toList
noncomputable def SqT (K : PySem.W.Frag) (H : Hp) (a : Addr) (xs : List V) : Prop :=
  Rd H a (.tup xs) \/
    ∃ (o : Obj) (its : Array Value) (n : Nat), K.lookup a = some o /\ o.cls = .type "tuple" /\ (o.dict = none /\ o.slots = #[]) /\ o.data = .seq its n /\ its.size <= sizeLine /\ Vals xs its.toList
noncomputable def absV : Value -> Option V
  | .none => some .non
  | .bool b => some (.bl b)
  | .int i _ => some (.int i)
  | .str x _ => some (.str x)
  | .bytes b _ => some (.byt b)
  | .float b _ => some (.flt b)
  | .ref a => some (.ref a)
  | .type n => some (.ty n)
  | _ => none
theorem RelV.abs {x : V} {u : Value} (r : RelV x u) : absV u = some x := by
  cases x with
  | non => cases r; rfl
  | bl _ => cases r; rfl
  | int _ => obtain ⟨t, rfl⟩ := r; rfl
  | str _ => obtain ⟨t, rfl⟩ := r; rfl
  | byt _ => obtain ⟨t, rfl⟩ := r; rfl
  | flt _ => obtain ⟨t, rfl⟩ := r; rfl
  | ref _ => cases r; rfl
  | ty _ => cases r; rfl
theorem RelV.inj {x y : V} {u : Value} (r : RelV x u) (q : RelV y u) : x = y := Option.some.inj (r.abs.symm.trans q.abs)
theorem Vals.inj : ∀ {xs ys : List V} {us : List Value}, Vals xs us -> Vals ys us -> xs = ys
  | _, _, _, .nil, .nil => rfl
  | _, _, _, .cons r t, .cons r' t' => by rw [r.inj r', Vals.inj t t']
section
variable {X : Cx} {pins : List (Addr × Obj)} {σ : St} {H : Hp} {s : Shared} {a : Addr} {xs ys : List V}
theorem SqL.of {K : PySem.W.Frag} (h : H a = some (.lst xs)) : SqL K H a xs := .inl (.inl h)
theorem SqT.of {K : PySem.W.Frag} (h : H a = some (.tup xs)) : SqT K H a xs := .inl (.inl h)
theorem Inv.list (I : Inv X pins σ H s) (h : SqL X.K H a xs) : ∃ its : List Value, Vals xs its /\ PlainL s.heap a its.toArray /\ xs.length <= sizeLine := by
  rcases h with h | ⟨o, its, n, hk, hc, hd, hs, hz, r⟩
  · obtain ⟨z, its, n, r, e⟩ := h.ok I.hok
    exact ⟨its, r, ⟨_, n, e, rfl, rfl, rfl⟩, z⟩
  · refine ⟨its.toList, r, ⟨o, n, I.kIn a o hk, hc, hd, by simpa using hs⟩, ?_⟩
    have e := r.length
    simp only [Array.length_toList] at e
    lia
theorem Inv.tuple (I : Inv X pins σ H s) (h : SqT X.K H a xs) : ∃ its : List Value, Vals xs its /\ IsTup s.heap a its.toArray /\ xs.length <= sizeLine := by
  rcases h with h | ⟨o, its, n, hk, hc, _, hs, hz, r⟩
  · obtain ⟨z, its, r, p⟩ := h.ok I.hok
    exact ⟨its, r, p.tup, z⟩
  · refine ⟨its.toList, r, ⟨o, I.kIn a o hk, hc, n, by simpa using hs⟩, ?_⟩
    have e := r.length
    simp only [Array.length_toList] at e
    lia
theorem Inv.list_inj (I : Inv X pins σ H s) (h : SqL X.K H a xs) (h' : SqL X.K H a ys) : xs = ys := by
  obtain ⟨its, r, ⟨o, n, e, _, _, d⟩, _⟩ := I.list h
  obtain ⟨its', r', ⟨o', n', e', _, _, d'⟩, _⟩ := I.list h'
  rw [e] at e'; cases e'
  rw [d] at d'
  injection d' with d1 _
  have : its = its' := by simpa using congrArg Array.toList d1
  subst this
  exact r.inj r'
theorem Inv.tuple_inj (I : Inv X pins σ H s) (h : SqT X.K H a xs) (h' : SqT X.K H a ys) : xs = ys := by
  obtain ⟨its, r, ⟨o, e, _, n, d⟩, _⟩ := I.tuple h
  obtain ⟨its', r', ⟨o', e', _, n', d'⟩, _⟩ := I.tuple h'
  rw [e] at e'; cases e'
  rw [d] at d'
  injection d' with d1 _
  have : its = its' := by simpa using congrArg Array.toList d1
  subst this
  exact r.inj r'
end
noncomputable abbrev Cx.wish (X : Cx) (E : Value -> Shared -> Prop) : Cx := { X with xe := E }
noncomputable abbrev Cx.nox (X : Cx) : Cx := X.wish fun _ _ => False
theorem Cx.Ok.wish {X : Cx} (ok : X.Ok) (E : Value -> Shared -> Prop) : (X.wish E).Ok :=
  ⟨ok.mod, ok.kind, ok.glob, ok.blt, ok.above, ok.inj, ok.has, ok.cab, ok.hd, ok.frames, ok.stk, ok.exf, ok.bs, ok.bsz, ok.noex, ok.exfs, ok.funs, ok.frf⟩
theorem Cx.Ok.unwish {X : Cx} {E : Value -> Shared -> Prop} (ok : (X.wish E).Ok) : X.Ok :=
  ⟨ok.mod, ok.kind, ok.glob, ok.blt, ok.above, ok.inj, ok.has, ok.cab, ok.hd, ok.frames, ok.stk, ok.exf, ok.bs, ok.bsz, ok.noex, ok.exfs, ok.funs, ok.frf⟩
section
variable {X : Cx} {pins : List (Addr × Obj)} {σ : St} {H : Hp} {s : Shared} {E : Value -> Shared -> Prop}
theorem Inv.wish (I : Inv X pins σ H s) (E : Value -> Shared -> Prop) : Inv (X.wish E) pins σ H s := ⟨I.ok.wish E, I.os, I.bare, I.base, I.loc, I.cell, I.free, I.freeC, I.pin, I.hok, I.len⟩
theorem Inv.unwish (I : Inv (X.wish E) pins σ H s) : Inv X pins σ H s := ⟨I.ok.unwish, I.os, I.bare, I.base, I.loc, I.cell, I.free, I.freeC, I.pin, I.hok, I.len⟩
theorem SP.unwish {D : Ends} {f : Flow} {s' : Shared} (h : SP (X.wish E) pins D f s') : SP X pins D f s' := by
  cases f with
  | next => obtain ⟨σ', H', I, q⟩ := h; exact ⟨σ', H', I.unwish, q⟩
  | brk => obtain ⟨σ', H', I, q⟩ := h; exact ⟨σ', H', I.unwish, q⟩
  | cont => obtain ⟨σ', H', I, q⟩ := h; exact ⟨σ', H', I.unwish, q⟩
  | ret u => obtain ⟨v, σ', H', I, r, q⟩ := h; exact ⟨v, σ', H', I.unwish, r, q⟩
theorem PE.nox {e : Expr} {t : TE} (h : PE X.nox e t) : PE X e t := fun pins s σ H Q I hw =>
  wpAny_mono (h pins s σ H Q (I.wish _) hw) (fun _ _ ⟨v, H', I', r, q⟩ => ⟨v, H', I'.unwish, r, q⟩) fun _ _ z => False.elim z
theorem PT.nox {e : Expr} {t : TT} (h : PT X.nox e t) : PT X e t := fun pins s σ H Q I hw =>
  wpAny_mono (h pins s σ H Q (I.wish _) hw) (fun _ _ ⟨H', I', q⟩ => ⟨H', I'.unwish, q⟩) fun _ _ z => False.elim z
theorem PSs.nox {st : List Stmt} {t : TS} (h : PSs X.nox st t) : PSs X st t := fun pins s σ H D I hw =>
  wpAny_mono (h pins s σ H D (I.wish _) hw) (fun _ _ q => q.unwish) fun _ _ z => False.elim z
end
section
variable {X : Cx} {st : Stmt} {rest : List Stmt} {t u : TS} {e : Expr} {te : TE} {pos : Pos}
noncomputable def tNext : TS := fun D σ H => D.nx σ H
noncomputable def tSeq (t u : TS) : TS := fun D σ H => t { D with nx := u D } σ H
theorem pss_nil : PSs X [] tNext := fun _ _ σ H _ I h => wpAny_execs_nil ⟨σ, H, I, h⟩
theorem pss_cons (h1 : PS X st t) (h2 : PSs X rest u) : PSs X (st :: rest) (tSeq t u) := by
  intro pins s σ H D I h
  refine wpAny_execs_cons (thn (h1 pins s σ H { D with nx := u D } I h) fun f s1 q => ?_)
  cases f with
  | next =>
    obtain ⟨σ', H', I', q⟩ := q
    exact h2 pins s1 σ' H' D I' q
  | ret v => exact q
  | brk => exact q
  | cont => exact q
theorem pss_one (h1 : PS X st t) : PSs X [st] t := by
  intro pins s σ H D I h
  refine wpAny_execs_cons (thn (h1 pins s σ H D I h) fun f s1 q => ?_)
  cases f with
  | next => exact wpAny_execs_nil q
  | ret v => exact q
  | brk => exact q
  | cont => exact q
theorem Inv.quiet {pins : List (Addr × Obj)} {σ : St} {H : Hp} {s : Shared} (I : Inv X pins σ H s) : interactive X.env = false := by simp [interactive, I.ok.kind]
noncomputable def tDrop (te : TE) : TS := fun D σ H => te σ H fun _ H1 => D.nx σ H1
theorem ps_expr (he : PE X e te) (hs : autoParam (swapsWith e none pos.line X.env = pure false) L2.au3._auto_1) : PS X (.Expr e pos) (tDrop te) := by
  intro pins s σ H D I h
  exact wpAny_Expr_any (thn (he pins s σ H _ I h) fun v s1 ⟨x, H1, I1, r1, q1⟩ => ⟨σ, H1, I1, q1⟩) I.quiet hs
noncomputable def tRet (te : TE) : TS := fun D σ H => te σ H D.rt
theorem ps_ret (he : PE X e te) : PS X (.Return (some e) pos) (tRet te) := by
  intro pins s σ H D I h
  exact wpAny_Return_some (thn (he pins s σ H _ I h) fun v s1 ⟨x, H1, I1, r1, q1⟩ => ⟨x, σ, H1, I1, r1, q1⟩)
noncomputable def tIfS (c : TT) (t u : TS) : TS := fun D σ H => c σ H fun b H1 => if b = true then t D σ H1 else u D σ H1
theorem ps_if {c : Expr} {a b : List Stmt} {tc : TT} (hc : PT X c tc) (ha : PSs X a t) (hb : PSs X b u) : PS X (.If c a b pos) (tIfS tc t u) := by
  intro pins s σ H D I h
  refine wpAny_If (thn (hc pins s σ H _ I h) fun d s1 ⟨H1, I1, q1⟩ => ?_)
  cases d with
  | true => exact ha pins s1 σ H1 D I1 q1
  | false => exact hb pins s1 σ H1 D I1 q1
end
noncomputable abbrev TG := V -> St -> Hp -> (St -> Hp -> Prop) -> Prop
noncomputable abbrev TGs := List V -> St -> Hp -> (St -> Hp -> Prop) -> Prop
noncomputable def PG (X : Cx) (target : Expr) (t : TG) : Prop :=
  ∀ (pins : List (Addr × Obj)) (s : Shared) (σ : St) (H : Hp) (v : V) (u : Value) (Q : St -> Hp -> Prop), Inv X pins σ H s -> RelV v u -> t v σ H Q ->
    wpAny (model X.prog X.w) X.A (assign target X.env u) (fun _ s' => ∃ σ' H', Inv X pins σ' H' s' /\ Q σ' H') X.xe s
noncomputable abbrev TSet := V -> V -> V -> Hp -> (Hp -> Prop) -> Prop
noncomputable def PSet (X : Cx) (t : TSet) : Prop :=
  ∀ (pins : List (Addr × Obj)) (s : Shared) (σ : St) (H : Hp) (o i v : V) (ov iv u : Value) (Q : Hp -> Prop), Inv X pins σ H s -> RelV o ov -> RelV i iv -> RelV v u -> t o i v H Q ->
    wpAny (model X.prog X.w) X.A (setItem ov iv u) (fun _ s' => ∃ H', Inv X pins σ H' s' /\ Q H') X.xe s
section
variable {X : Cx} {pos : Pos}
noncomputable def gName (i : Nat) : TG := fun v σ H Q => Q (σ.set i (some v)) H
theorem pg_name {i : Nat} {x : Str} (hN : X.N.Nodup) (hi : X.N[i]? = some x) (hx : Loc X.env.scope x) (hf : autoParam (X.fn x = true \/ X.env.scope.names.lookup x = some .local) L2.au0._auto_1) : PG X (.Name x pos) (gName i) := by
  intro pins s σ H v u Q I r h
  exact wpAny_assign_Name (store_ok I hN hi hx r (fun s' I' => ⟨_, H, I', h⟩) hf)
noncomputable def gTup (K : PySem.W.Frag) (n : Nat) (t : TGs) : TG := fun v σ H Q => ∃ a xs, v = .ref a /\ SqT K H a xs /\ xs.length = n /\ t xs σ H Q
noncomputable def gSub (to ti : TE) (t : TSet) : TG := fun v σ H Q => to σ H fun o H1 => ti σ H1 fun i H2 => t o i v H2 fun H3 => Q σ H3
theorem pg_sub {o i : Expr} {to ti : TE} {t : TSet} (ho : PE X o to) (hi : PE X i ti) (hs : PSet X t)
    (ha : autoParam (∀ v, assign (.Subscript o i pos) X.env v = (do
      let ov <- holding [v] (eval o X.env)
      let iv <- holding [v, ov] (eval i X.env)
      standAt pos
      holding [v, ov, iv] (setItem ov iv v)
      release [v, ov, iv] [])) L2.au2._auto_1) : PG X (.Subscript o i pos) (gSub to ti t) := by
  intro pins s σ H v u Q I r h
  rw [ha]
  refine wpAny_bind (wpAny_holding (thn (ho pins s σ H _ I h) fun ov s1 ⟨x, H1, I1, r1, q1⟩ => ?_))
  refine wpAny_bind (wpAny_holding (thn (hi pins s1 σ H1 _ I1 q1) fun iv s2 ⟨y, H2, I2, r2, q2⟩ => ?_))
  refine wpAny_bind (wpAny_standAt (wpAny_bind (wpAny_holding (thn (hs pins s2 σ H2 x y v ov iv u _ I2 r1 r2 r q2) fun _ s3 ⟨H3, I3, q3⟩ => ?_))))
  exact wpAny_release ⟨σ, H3, I3, q3⟩
noncomputable def tAsg (te : TE) (g : TG) : TS := fun D σ H => te σ H fun x H1 => g x σ H1 D.nx
theorem ps_asg {tg e : Expr} {te : TE} {g : TG} (he : PE X e te) (hg : PG X tg g) (hs : autoParam (swapsWithSole [tg] e pos.line X.env = pure false) L2.au3._auto_1) (hw : autoParam (swappedStores [tg] e X.env = pure none) L2.au3._auto_1)
    (h1 : autoParam ((assignEach [tg] X.env).map (·.2) = [assign tg X.env]) L2.au3._auto_1) : PS X (.Assign [tg] e pos) (tAsg te g) := by
  intro pins s σ H D I h
  refine wpAny_Assign_stores (thn (he pins s σ H _ I h) fun v s1 ⟨x, H1, I1, r1, q1⟩ => ?_) hs hw
  rw [h1]
  exact thn (hg pins s1 σ H1 x v _ I1 r1 q1) fun _ s2 q => q
theorem ps_set {i : Nat} {x : Str} {e : Expr} {te : TE} {pos' : Pos} (hN : X.N.Nodup) (hi : X.N[i]? = some x) (hx : Loc X.env.scope x) (he : PE X e te) (hs : autoParam (swapsWith e (some (.Name x pos')) pos.line X.env = pure false) L2.au3._auto_1) (hf : autoParam (X.fn x = true \/ X.env.scope.names.lookup x = some .local) L2.au0._auto_1) :
    PS X (.Assign [.Name x pos'] e pos) (tAsg te (gName i)) := by
  intro pins s σ H D I h
  refine wpAny_Assign_Name (thn (he pins s σ H _ I h) fun v s1 ⟨y, H1, I1, r1, q1⟩ => ?_) hs
  exact store_ok I1 hN hi hx r1 (fun s2 I2 => ⟨_, H1, I2, q1⟩) hf
end
section
variable {X : Cx} {pos : Pos}
end
structure It where
  go : Nat -> Hp -> Prop
  yld : Nat -> Hp -> V -> Hp -> Prop
  stop : Nat -> Hp -> Prop
noncomputable def FpOk (X : Cx) (pins : List (Addr × Obj)) (H : Hp) (b : Addr) : Prop :=
  H b = none /\ b ≠ X.env.locals /\ b ∉ X.fs /\ (b ∈ X.ex \/ X.s₀.heap.objs.size <= b) /\ (∀ x c, X.env.cells.lookup x = some c -> c ≠ b) /\ ∀ p ∈ X.pn ++ pins, p.1 ≠ b
theorem Inv.fpOk {X : Cx} {pins : List (Addr × Obj)} {σ : St} {H H' : Hp} {s : Shared} {b : Addr} (I : Inv X pins σ H s) (hb : s.heap.objs.size <= b) (hn : H' b = none) : FpOk X pins H' b := by
  refine ⟨hn, Nat.ne_of_gt (Nat.lt_of_lt_of_le I.lt hb), I.nofs hb, .inr (Nat.le_trans I.sz hb), fun x c e z => ?_, fun p hp z => ?_⟩
  · obtain ⟨v, q⟩ := I.cell x c e
    exact absurd (Nat.lt_of_lt_of_le q.lt (by rw [z]; exact hb)) (Nat.lt_irrefl _)
  · exact absurd (Nat.lt_of_lt_of_le (Heap.lt_size (I.pin p hp).1) (by rw [z]; exact hb)) (Nat.lt_irrefl _)
structure Turn (P : Program) (w : World) (K : PySem.W.Frag) (tg : Expr) (J : It) (fp : List Addr) (it : Addr) (tn : Nat -> Heap -> Prop) : Prop where
  mem : it ∈ fp
  obj : ∀ i h, tn i h -> ∀ b ∈ fp, ∃ o, h.get? b = some o /\ ∀ v, o.data ≠ .cell v
  keep : ∀ i h h', tn i h -> (∀ b ∈ fp, ∀ o, h.get? b = some o -> h'.get? b = some o) -> tn i h'
  item : ∀ (X : Cx), X.prog = P -> X.w = w -> X.K = K -> X.calm = true -> ∀ (i : Nat) (pins : List (Addr × Obj)) (s : Shared) (σ : St) (H : Hp) (E : Value -> Shared -> Prop), Inv X pins σ H s -> (∀ b ∈ fp, FpOk X pins H b) -> tn i s.heap -> J.go i H ->
    wpAny (model P w) X.A (pyNext (.ref it)) (fun r s1 => ∃ u, r = some u /\
      wpAny (model P w) X.A (letOwnedTupleGo tg (.ref it) u) (fun _ s2 => ∃ x H', Inv X pins σ H' s2 /\ RelV x u /\ J.yld i H x H' /\ tn (i + 1) s2.heap /\ ∀ b ∈ fp, H' b = none) E s1) E s
  done : ∀ (X : Cx), X.prog = P -> X.w = w -> X.K = K -> X.calm = true -> ∀ (i : Nat) (pins : List (Addr × Obj)) (s : Shared) (σ : St) (H : Hp) (E : Value -> Shared -> Prop), Inv X pins σ H s -> (∀ b ∈ fp, FpOk X pins H b) -> tn i s.heap -> J.stop i H ->
    wpAny (model P w) X.A (pyNext (.ref it)) (fun r s1 => r = none /\ Inv X pins σ H s1) E s
  self : ∀ (A : Around) (i : Nat) (s : Shared) (Q : Value -> Shared -> Prop) (E : Value -> Shared -> Prop), tn i s.heap -> Q (.ref it) s -> wpAny (model P w) A (pyIter (.ref it)) Q E s
noncomputable abbrev TI := St -> Hp -> (It -> Hp -> Prop) -> Prop
noncomputable def PIE (X : Cx) (pins : List (Addr × Obj)) (σ : St) (tg : Expr) (R : It -> Hp -> Prop) (itv : Value) (s2 : Shared) : Prop :=
  ∃ (it : Addr) (fp : List Addr) (tn : Nat -> Heap -> Prop) (J : It) (H' : Hp), itv = .ref it /\ Inv X pins σ H' s2 /\ Turn X.prog X.w X.K tg J fp it tn /\ tn 0 s2.heap /\ (∀ b ∈ fp, FpOk X pins H' b) /\ R J H'
noncomputable def PI (X : Cx) (tg iter : Expr) (wi : TI) : Prop :=
  ∀ (pins : List (Addr × Obj)) (s : Shared) (σ : St) (H : Hp) (R : It -> Hp -> Prop), Inv X pins σ H s -> wi σ H R ->
    wpAny (model X.prog X.w) X.A (eval iter X.env) (fun v s1 => wpAny (model X.prog X.w) X.A (pyIter v) (PIE X pins σ tg R) X.xe s1) X.xe s
theorem go_of {M : Model} {A : Around} {E : Value -> Shared -> Prop} {s : Shared} {tg : Expr} {it : Addr} {u : Value} {o : Obj} {n : String} {vs : Array Value} {Q : Unit -> Shared -> Prop} (ho : s.heap.get? it = some o) (hc : o.cls = .type n) (hd : o.data = .fields vs)
    (hn : ["enumerate", "zip", "dict_itemiterator", "dict_reverseitemiterator", "odict_iterator", "itertools.zip_longest", "itertools.pairwise"].contains n = false) (hQ : Q () s) : wpAny M A (letOwnedTupleGo tg (.ref it) u) Q E s := by
  unfold letOwnedTupleGo
  cases tg <;> first
    | exact wpAny_pure hQ
    | (cases u <;> first
        | exact wpAny_pure hQ
        | (refine wpAny_bind (wpAny_load ho ?_)
           rw [hc, hd]
           show wpAny M A (if (["enumerate", "zip", "dict_itemiterator", "dict_reverseitemiterator", "odict_iterator", "itertools.zip_longest", "itertools.pairwise"].contains n && vs[0]? == some (rawInt _)) = true then _ else _) Q E s
           rw [if_neg (by intro h; rw [hn, Bool.false_and] at h; cases h)]
           exact wpAny_pure hQ))
noncomputable def Itl (K : PySem.W.Frag) (a : Addr) : It :=
  ⟨fun i H => ∃ xs x, SqL K H a xs /\ xs[i]? = some x, fun i H x H' => H' = H /\ ∀ xs, SqL K H a xs -> xs[i]? = some x, fun i H => ∃ xs, SqL K H a xs /\ xs.length <= i⟩
noncomputable def Itt (K : PySem.W.Frag) (a : Addr) : It :=
  ⟨fun i H => ∃ xs x, SqT K H a xs /\ xs[i]? = some x, fun i H x H' => H' = H /\ ∀ xs, SqT K H a xs -> xs[i]? = some x, fun i H => ∃ xs, SqT K H a xs /\ xs.length <= i⟩
noncomputable def Itr (lo : Int) (n : Nat) : It := ⟨fun i _ => i < n, fun i H x H' => H' = H /\ x = .int (lo + i), fun i _ => n <= i⟩
theorem turn_list {P : Program} {w : World} {K : PySem.W.Frag} {tg : Expr} (a it : Addr) : Turn P w K tg (Itl K a) [it] it (fun i h => h.IsListIter it a i) where
  mem := by simp
  obj := fun i h st b hb => by
    have e : b = it := by simpa using hb
    subst e
    obtain ⟨o, e, c, d⟩ := st
    exact ⟨o, e, fun v z => by rw [d] at z; cases z⟩
  keep := fun i h h' st k => st.at fun o e => k it (by simp) o e
  item := by
    intro X hP hw hK hc i pins s σ H E I hf st hg
    subst hP hw hK
    obtain ⟨xs, x, hq, hx⟩ := hg
    obtain ⟨its, rv, p, hz⟩ := I.list hq
    obtain ⟨u, hu, ru⟩ := rv.get hx
    obtain ⟨f0, f1, f2, f3, f4, f5⟩ := hf it (by simp)
    refine wpAny_pyNext_list_item st p.isList (x := u) (by simpa using hu) fun h' st' sb => ?_
    have I1 : Inv X pins σ H { s with heap := h' } := I.turned (t' := s.toks) (fun b o hb e => (sb.2 b hb).trans e) f0 f1 f3 f4 f5
    obtain ⟨o, e, c, d⟩ := id st'
    exact ⟨u, rfl, go_of (s := { s with heap := h' }) e c d (by decide) ⟨x, H, I1, ru, ⟨rfl, fun ys hy => by rw [I.list_inj hy hq]; exact hx⟩, st', fun b hb => (hf b hb).1⟩⟩
  done := by
    intro X hP hw hK hc i pins s σ H E I hf st hg
    subst hP hw hK
    obtain ⟨xs, hq, hx⟩ := hg
    obtain ⟨its, rv, p, hz⟩ := I.list hq
    obtain ⟨f0, f1, f2, f3, f4, f5⟩ := hf it (by simp)
    have hl := rv.length
    exact wpAny_pyNext_list_end (I.ok.hd hc) st p.isList (by simp; lia) fun h' eb => ⟨rfl, I.turned (t' := s.toks) (fun b o hb e => eb b o hb e) f0 f1 f3 f4 f5⟩
  self := fun _ _ _ _ _ st h => wpAny_pyIter_listiter st h
theorem turn_tuple {P : Program} {w : World} {K : PySem.W.Frag} {tg : Expr} (a it : Addr) : Turn P w K tg (Itt K a) [it] it (fun i h => h.IsTupleIter it a i) where
  mem := by simp
  obj := fun i h st b hb => by
    have e : b = it := by simpa using hb
    subst e
    obtain ⟨o, e, c, d⟩ := st
    exact ⟨o, e, fun v z => by rw [d] at z; cases z⟩
  keep := fun i h h' st k => st.at fun o e => k it (by simp) o e
  item := by
    intro X hP hw hK hc i pins s σ H E I hf st hg
    subst hP hw hK
    obtain ⟨xs, x, hq, hx⟩ := hg
    obtain ⟨its, rv, p, hz⟩ := I.tuple hq
    obtain ⟨u, hu, ru⟩ := rv.get hx
    obtain ⟨f0, f1, f2, f3, f4, f5⟩ := hf it (by simp)
    refine wpAny_pyNext_tuple_item st (show s.heap.IsTuple a its.toArray from p) (x := u) (by simpa using hu) fun h' st' sb => ?_
    have I1 : Inv X pins σ H { s with heap := h' } := I.turned (t' := s.toks) (fun b o hb e => (sb.2 b hb).trans e) f0 f1 f3 f4 f5
    obtain ⟨o, e, c, d⟩ := id st'
    exact ⟨u, rfl, go_of (s := { s with heap := h' }) e c d (by decide) ⟨x, H, I1, ru, ⟨rfl, fun ys hy => by rw [I.tuple_inj hy hq]; exact hx⟩, st', fun b hb => (hf b hb).1⟩⟩
  done := by
    intro X hP hw hK hc i pins s σ H E I hf st hg
    subst hP hw hK
    obtain ⟨xs, hq, hx⟩ := hg
    obtain ⟨its, rv, p, hz⟩ := I.tuple hq
    obtain ⟨f0, f1, f2, f3, f4, f5⟩ := hf it (by simp)
    have hl := rv.length
    exact wpAny_pyNext_tuple_end (I.ok.hd hc) st (show s.heap.IsTuple a its.toArray from p) (by simp; lia) fun h' eb => ⟨rfl, I.turned (t' := s.toks) (fun b o hb e => eb b o hb e) f0 f1 f3 f4 f5⟩
  self := fun _ _ _ _ _ st h => wpAny_pyIter_tupleiter st h
theorem turn_range {P : Program} {w : World} {K : PySem.W.Frag} {tg : Expr} (it : Addr) (lo : Int) (n : Nat) : Turn P w K tg (Itr lo n) [it] it (fun i h => IsRangeIter h it (lo + (i : Nat) * 1) ((n : Int) - (i : Nat)) 1) where
  mem := by simp
  obj := fun i h st b hb => by
    have e : b = it := by simpa using hb
    subst e
    exact ⟨_, st, fun v z => by
      have z' : Data.fields _ = Data.cell v := z
      cases z'⟩
  keep := fun i h h' st k => k it (by simp) _ st
  item := by
    intro X hP hw hK hc i pins s σ H E I hf st hg
    subst hP hw hK
    obtain ⟨f0, f1, f2, f3, f4, f5⟩ := hf it (by simp)
    have W := Walks.range (prog := X.prog) (w := X.w) (I.ok.hd hc) it lo 1 n
    refine W.item i s _ _ hg st fun v h' tk hv st' kk => ?_
    obtain ⟨t, rfl⟩ := hv
    have I1 : Inv X pins σ H { s with heap := h', toks := tk } := I.turned (fun b o hb e => kk b o (by simpa using hb) e) f0 f1 f3 f4 f5
    refine ⟨_, rfl, go_of (s := { s with heap := h', toks := tk }) (n := "range_iterator") st' rfl rfl (by decide) ⟨.int (lo + i), H, I1, ⟨t, ?_⟩, ⟨rfl, rfl⟩, st', fun b hb => (hf b hb).1⟩⟩
    rw [Int.mul_one]
  done := by
    intro X hP hw hK hc i pins s σ H E I hf st hg
    subst hP hw hK
    obtain ⟨f0, f1, f2, f3, f4, f5⟩ := hf it (by simp)
    exact wpAny_pyNext_range_end (I.ok.hd hc) st (by have : n <= i := hg; lia) fun h' eb => ⟨rfl, I.turned (t' := s.toks) (fun b o hb e => eb b o hb e) f0 f1 f3 f4 f5⟩
  self := fun _ _ _ _ _ st h => wpAny_pyIter_rangeiter st h
end L2
namespace L2
open PySem PySem.Spec PyProof.Rows
section
variable {X : Cx} {tg : Expr}
noncomputable def iList (K : PySem.W.Frag) (tl : TE) : TI := fun σ H R => tl σ H fun x H1 => ∃ a, x = .ref a /\ (∃ xs, SqL K H1 a xs) /\ R (Itl K a) H1
noncomputable def iTup (K : PySem.W.Frag) (tl : TE) : TI := fun σ H R => tl σ H fun x H1 => ∃ a, x = .ref a /\ (∃ xs, SqT K H1 a xs) /\ R (Itt K a) H1
theorem pi_list {l : Expr} {tl : TE} (hl : PE X l tl) : PI X tg l (iList X.K tl) := by
  intro pins s σ H R I h
  refine thn (hl pins s σ H _ I h) fun v s1 ⟨x, H1, I1, r1, q1⟩ => ?_
  obtain ⟨a, e, ⟨xs, hq⟩, q⟩ := q1
  subst e
  cases r1
  obtain ⟨its, rv, p, hz⟩ := I1.list hq
  refine wpAny_pyIter_list p.isList ?_
  refine ⟨s1.heap.objs.size, [s1.heap.objs.size], _, _, H1, rfl, I1.kept (t' := s1.toks) fun b o e => Heap.get?_push_of_some _ e, turn_list a _, ⟨_, Heap.get?_push_size _ rfl, rfl, rfl⟩, fun b hb => ?_, q⟩
  have e : b = s1.heap.objs.size := by simpa using hb
  subst e
  exact I1.fpOk (Nat.le_refl _) (I1.hok.fresh (Nat.le_refl _))
theorem pi_tup {l : Expr} {tl : TE} (hl : PE X l tl) : PI X tg l (iTup X.K tl) := by
  intro pins s σ H R I h
  refine thn (hl pins s σ H _ I h) fun v s1 ⟨x, H1, I1, r1, q1⟩ => ?_
  obtain ⟨a, e, ⟨xs, hq⟩, q⟩ := q1
  subst e
  cases r1
  obtain ⟨its, rv, p, hz⟩ := I1.tuple hq
  refine wpAny_pyIter_tuple (show s1.heap.IsTuple a its.toArray from p) ?_
  refine ⟨s1.heap.objs.size, [s1.heap.objs.size], _, _, H1, rfl, I1.kept (t' := s1.toks) fun b o e => Heap.get?_push_of_some _ e, turn_tuple a _, ⟨_, Heap.get?_push_size _ rfl, rfl, rfl⟩, fun b hb => ?_, q⟩
  have e : b = s1.heap.objs.size := by simpa using hb
  subst e
  exact I1.fpOk (Nat.le_refl _) (I1.hok.fresh (Nat.le_refl _))
theorem range_it {pins : List (Addr × Obj)} {σ : St} {H : Hp} {s : Shared} {R : It -> Hp -> Prop} {E : Value -> Shared -> Prop} {lo hi : Int} {t u v : Tok} {tk : Nat} (I : Inv X pins σ H s) (h1 : -(2 ^ 62) <= lo) (h2 : lo < 2 ^ 62) (h3 : -(2 ^ 62) <= hi) (h4 : hi < 2 ^ 62)
    (q : R (Itr lo (hi - lo).toNat) H) : wpAny (model X.prog X.w) X.A (pyIter (.ref s.heap.objs.size)) (PIE X pins σ tg R) E { s with heap := s.heap.push { cls := .type "range", data := .fields #[.int lo t, .int hi u, .int 1 v] }, toks := tk } := by
  refine wpAny_pyIter_range (IsRange.new ..) (small_one h1 h2 h3 h4) ?_
  have I1 : Inv X pins σ H { s with heap := s.heap.push { cls := .type "range", data := .fields #[.int lo t, .int hi u, .int 1 v] }, toks := tk } := I.kept fun b o e => Heap.get?_push_of_some _ e
  refine ⟨(s.heap.push { cls := .type "range", data := .fields #[.int lo t, .int hi u, .int 1 v] }).objs.size, [(s.heap.push { cls := .type "range", data := .fields #[.int lo t, .int hi u, .int 1 v] }).objs.size], _, _, H, rfl,
    I1.kept (t' := tk) fun b o e => Heap.get?_push_of_some _ e, turn_range _ lo (hi - lo).toNat, ?_, fun b hb => ?_, q⟩
  · have e1 : lo + ((0 : Nat) : Int) * 1 = lo := by simp
    have e2 : (((hi - lo).toNat : Nat) : Int) - ((0 : Nat) : Int) = Builtin.Range.rangeSize lo hi 1 := by rw [rangeSize_one]; split <;> lia
    show IsRangeIter _ _ (lo + ((0 : Nat) : Int) * 1) ((((hi - lo).toNat : Nat) : Int) - ((0 : Nat) : Int)) 1
    rw [e1, e2]
    exact Heap.get?_push_size _ rfl
  · have e : b = (s.heap.push { cls := .type "range", data := .fields #[.int lo t, .int hi u, .int 1 v] }).objs.size := by simpa using hb
    subst e
    exact I1.fpOk (Nat.le_refl _) (I1.hok.fresh (Nat.le_refl _))
noncomputable def iRng1 (ta : TA) : TI := fun σ H R => ta σ H fun vs H1 => ∃ j : Int, vs = [.int j] /\ -(2 ^ 62) <= j /\ j < 2 ^ 62 /\ R (Itr 0 j.toNat) H1
noncomputable def iRng2 (ta : TA) : TI := fun σ H R => ta σ H fun vs H1 => ∃ i j : Int, vs = [.int i, .int j] /\ (-(2 ^ 62) <= i /\ i < 2 ^ 62 /\ -(2 ^ 62) <= j /\ j < 2 ^ 62) /\ R (Itr i (j - i).toNat) H1
theorem pi_range1 {a : Expr} {ta : TA} {p pos : Pos} (hg : Gl X "range") (hm : X.mg "range" = none) (ha : PA X [a] ta) (hs : autoParam (starEach [a] X.env = [(false, eval a X.env)]) L2.au3._auto_1) : PI X tg (.Call (.Name "range" p) [a] [] pos) (iRng1 ta) := by
  intro pins s σ H R I h
  refine Call_ (ld_blt I hg hm boot_range (PyProof.Rows.callWith_type1 (thn (ha pos pins s σ H _ I h) fun us s1 ⟨vs, H1, I1, r1, q1⟩ => ?_) hs rfl))
  obtain ⟨j, e, q1, q2, q⟩ := q1
  subst e
  cases r1 with
  | cons r rr =>
    cases rr
    obtain ⟨t, rfl⟩ := r
    exact call_range_1 (range_it I1 (by lia) (by lia) q1 q2 (by simpa using q))
theorem pi_range2 {a b : Expr} {ta : TA} {p pos : Pos} (hg : Gl X "range") (hm : X.mg "range" = none) (ha : PA X [a, b] ta) (hs : autoParam (starEach [a, b] X.env = [(false, eval a X.env), (false, eval b X.env)]) L2.au3._auto_1) (hs2 : autoParam (starEach [b] X.env = [(false, eval b X.env)]) L2.au3._auto_1) :
    PI X tg (.Call (.Name "range" p) [a, b] [] pos) (iRng2 ta) := by
  intro pins s σ H R I h
  refine Call_ (ld_blt I hg hm boot_range (PyProof.Rows.callWith_type1 (thn (ha pos pins s σ H _ I h) fun us s1 ⟨vs, H1, I1, r1, q1⟩ => ?_) (by rw [hs, hs2]) (by rw [hs2]; rfl)))
  obtain ⟨i, j, e, ⟨q1, q2, q3, q4⟩, q⟩ := q1
  subst e
  cases r1 with
  | cons r rr =>
    cases rr with
    | cons r' rr =>
      cases rr
      obtain ⟨t, rfl⟩ := r
      obtain ⟨t', rfl⟩ := r'
      exact call_range_2 (range_it I1 q1 q2 q3 q4 q)
noncomputable def tFor (wi : TI) (g : TG) (tb : TS) : TS := fun D σ H => wi σ H fun J H1 => ∃ W : Nat -> Nat -> St -> Hp -> Prop, (∃ m, W 0 m σ H1) /\ ∀ i m σ H, W i m σ H ->
  (J.stop i H /\ D.nx σ H) \/ (J.go i H /\ ∃ N : St -> Hp -> Prop, (∀ σ' H', N σ' H' -> ∃ m', m' < m /\ W (i + 1) m' σ' H') /\ ∀ x H', J.yld i H x H' -> g x σ H' fun σ2 H2 => tb { D with nx := N, ct := N, bk := D.nx } σ2 H2)
noncomputable def pinsAt (fp : List Addr) (h : Heap) : List (Addr × Obj) := fp.filterMap fun b => (h.get? b).map fun o => (b, o)
theorem mem_pinsAt {fp : List Addr} {h : Heap} {b : Addr} {o : Obj} (hb : b ∈ fp) (e : h.get? b = some o) : (b, o) ∈ pinsAt fp h := List.mem_filterMap.mpr ⟨b, hb, by rw [e]; rfl⟩
theorem of_pinsAt {fp : List Addr} {h : Heap} {p : Addr × Obj} (hp : p ∈ pinsAt fp h) : p.1 ∈ fp /\ h.get? p.1 = some p.2 := by
  obtain ⟨b, hb, e⟩ := List.mem_filterMap.mp hp
  cases q : h.get? b with
  | none => rw [q] at e; cases e
  | some o =>
    rw [q] at e
    have e' : (b, o) = p := Option.some.inj e
    subst e'
    exact ⟨hb, q⟩
theorem Inv.pinned {pins : List (Addr × Obj)} {σ : St} {H : Hp} {s : Shared} {fp : List Addr} (I : Inv X pins σ H s) (hf : ∀ b ∈ fp, FpOk X pins H b) (ho : ∀ b ∈ fp, ∃ o, s.heap.get? b = some o /\ ∀ v, o.data ≠ .cell v) : Inv X (pins ++ pinsAt fp s.heap) σ H s :=
  I.pins_of fun p hp => (List.mem_append.mp hp).elim (fun z => I.pin p (List.mem_append_right _ z)) fun z => by
    obtain ⟨hb, e⟩ := of_pinsAt z
    obtain ⟨f0, f1, f2, _⟩ := hf p.1 hb
    obtain ⟨o, e', d⟩ := ho p.1 hb
    rw [e] at e'; cases e'
    exact ⟨e, f0, f1, f2, d⟩
theorem Inv.unpinned {pins pl : List (Addr × Obj)} {σ : St} {H : Hp} {s : Shared} (I : Inv X (pins ++ pl) σ H s) : Inv X pins σ H s := I.pins_of fun p hp => I.pin p (List.mem_append_right _ (List.mem_append_left _ hp))
theorem ps_for {iter : Expr} {body : List Stmt} {wi : TI} {g : TG} {tb : TS} {pos : Pos} (hp : PassesOwn (model X.prog X.w) X.A X.env X.xe) (hc : X.calm = true) (hi : PI X tg iter wi) (hg : PG X tg g) (hb : PSs X body tb)
    (hs : autoParam (∀ x, foldedSetIterable iter X.env x = pure x) L2.au2._auto_1) : PS X (.For tg iter body [] pos) (tFor wi g tb) := by
  intro pins s σ H D I h
  refine wpAny_For (thn (hi pins s σ H _ I h) fun v s1 h1 => thn h1 fun itv s2 h2 => ?_) hs
  obtain ⟨it, fp, tn, J, H2, e, I2, T, st2, f2, W, ⟨m0, w0⟩, turn⟩ := h2
  subst e
  have stat : ∀ {H' : Hp}, (∀ b ∈ fp, H' b = none) -> ∀ b ∈ fp, FpOk X pins H' b := fun hn b hb => ⟨hn b hb, (f2 b hb).2⟩
  refine codeAny_forLoop_any (fun n s' => ∃ i σ' H', Inv X pins σ' H' s' /\ tn i s'.heap /\ (∀ b ∈ fp, H' b = none) /\ W i n σ' H') ?_ m0 ⟨0, σ, H2, I2, st2, fun b hb => (f2 b hb).1, w0⟩
  rintro n s3 ⟨i, σ3, H3, I3, st3, fr3, w3⟩
  rcases turn i n σ3 H3 w3 with ⟨stop, qn⟩ | ⟨go, N, hN, step⟩
  · refine wpAny_passesOwn hp (thn (T.done X rfl rfl rfl hc i pins s3 σ3 H3 X.xe I3 (stat fr3) st3 stop) fun r s4 ⟨hr, I4⟩ => ?_)
    subst hr
    exact wpAny_execs_nil ⟨σ3, H3, I4, qn⟩
  · refine wpAny_passesOwn hp (thn (T.item X rfl rfl rfl hc i pins s3 σ3 H3 X.xe I3 (stat fr3) st3 go) fun r s4 ⟨u, hr, h4⟩ => ?_)
    subst hr
    refine wpAny_passesOwn hp (thn h4 fun _ s5 ⟨x, H5, I5, r5, y5, st5, fr5⟩ => ?_)
    have I5' := I5.pinned (stat fr5) (T.obj _ _ st5)
    refine wpAny_passesOwn hp (thn (hg _ s5 σ3 H5 x u _ I5' r5 (step x H5 y5)) fun _ s6 ⟨σ6, H6, I6, q6⟩ => ?_)
    refine wpAny_passesOwn hp (thn (hb _ s6 σ6 H6 _ I6 q6) fun f s7 q7 => ?_)
    have again : ∀ {σ7 : St} {H7 : Hp}, Inv X (pins ++ pinsAt fp s5.heap) σ7 H7 s7 -> N σ7 H7 -> ∃ m, m < n /\ ∃ i σ' H', Inv X pins σ' H' s7 /\ tn i s7.heap /\ (∀ b ∈ fp, H' b = none) /\ W i m σ' H' := fun {σ7 H7} I7 n7 => by
      obtain ⟨m', hm, w7⟩ := hN σ7 H7 n7
      refine ⟨m', hm, i + 1, σ7, H7, I7.unpinned, T.keep _ _ _ st5 fun b hb o e => (I7.pin (b, o) (List.mem_append_right _ (List.mem_append_right _ (mem_pinsAt hb e)))).1, fun b hb => ?_, w7⟩
      obtain ⟨o, e, d⟩ := T.obj _ _ st5 b hb
      exact (I7.pin (b, o) (List.mem_append_right _ (List.mem_append_right _ (mem_pinsAt hb e)))).2.1
    cases f with
    | next => obtain ⟨σ7, H7, I7, n7⟩ := q7; exact again I7 n7
    | cont => obtain ⟨σ7, H7, I7, n7⟩ := q7; exact again I7 n7
    | brk => obtain ⟨σ7, H7, I7, q7⟩ := q7; exact ⟨σ7, H7, I7.unpinned, q7⟩
    | ret v => obtain ⟨x7, σ7, H7, I7, r7, q7⟩ := q7; exact ⟨x7, σ7, H7, I7.unpinned, r7, q7⟩
end
end L2
namespace L2
open PySem PySem.Spec PyProof.Rows
noncomputable abbrev R2 := V -> V -> Hp -> VK -> Prop
noncomputable def OpR (X : Cx) (f : Value -> Value -> Sem Value) (r : R2) : Prop :=
  ∀ (pins : List (Addr × Obj)) (s : Shared) (σ : St) (H : Hp) (x y : V) (v u : Value) (Q : VK), Inv X pins σ H s -> RelV x v -> RelV y u -> r x y H Q ->
    wpAny (model X.prog X.w) X.A (f v u) (EP X pins σ Q) X.xe s
noncomputable def CallR (X : Cx) (f : Value) (r : List V -> Hp -> VK -> Prop) : Prop :=
  ∀ (pins : List (Addr × Obj)) (s : Shared) (σ : St) (H : Hp) (xs : List V) (us : List Value) (Q : VK), Inv X pins σ H s -> Vals xs us -> r xs H Q ->
    wpAny (model X.prog X.w) X.A (call f us) (EP X pins σ Q) X.xe s
noncomputable def tOp (r : R2) (ta tb : TE) : TE := fun σ H Q => ta σ H fun x H1 => tb σ H1 fun y H2 => r x y H2 Q
noncomputable def rI (C : Int -> Int -> Prop) (g : Int -> Int -> V) : R2 := fun x y H Q => ∃ i j, x = .int i /\ y = .int j /\ C i j /\ Q (g i j) H
noncomputable def rI0 (g : Int -> Int -> V) : R2 := fun x y H Q => ∃ i j, x = .int i /\ y = .int j /\ Q (g i j) H
section
variable {X : Cx} {a b c : Expr} {ta tb tc : TE} {pos : Pos}
theorem binT (ha : PE X a ta) (hb : PE X b tb) {pins : List (Addr × Obj)} {s : Shared} {σ : St} {H : Hp} {R : V -> V -> Hp -> Prop} (I : Inv X pins σ H s)
    (h : ta σ H fun x H1 => tb σ H1 fun y H2 => R x y H2) {Q : Value -> Shared -> Prop} {f : Value -> Value -> Sem Value}
    (hf : ∀ v u s2 x y H2, Inv X pins σ H2 s2 -> RelV x v -> RelV y u -> R x y H2 -> wpAny (model X.prog X.w) X.A (f v u) Q X.xe s2) :
    wpAny (model X.prog X.w) X.A (eval a X.env) (fun v s₁ => wpAny (model X.prog X.w) X.A (eval b X.env) (fun u s₂ => wpAny (model X.prog X.w) X.A (f v u) Q X.xe s₂) X.xe s₁) X.xe s := by
  refine thn (ha pins s σ H _ I h) fun v s1 ⟨x, H1, I1, r1, q1⟩ => ?_
  refine thn (hb pins s1 σ H1 _ I1 q1) fun u s2 ⟨y, H2, I2, r2, q2⟩ => ?_
  exact hf v u s2 x y H2 I2 r1 r2 q2
theorem pe_op {op : Operator} {r : R2} (ho : OpR X (binaryOp op) r) (ha : PE X a ta) (hb : PE X b tb) : PE X (.BinOp a op b pos) (tOp r ta tb) := by
  intro pins s σ H Q I h
  exact wpAny_BinOp (binT ha hb I h fun v u s2 x y H2 I2 rx ry q => ho pins s2 σ H2 x y v u Q I2 rx ry q)
theorem opI {f : Value -> Value -> Sem Value} {C : Int -> Int -> Prop} {g : Int -> Int -> Int}
    (rule : ∀ (i j : Int) (t u : Tok) (s : Shared) (Q : Value -> Shared -> Prop) (E : Value -> Shared -> Prop), C i j -> Q (.int (g i j) s.toks) { s with toks := s.toks + 1 } -> wpAny (model X.prog X.w) X.A (f (.int i t) (.int j u)) Q E s) :
    OpR X f (rI C fun i j => .int (g i j)) := by
  intro pins s σ H x y v u Q I rx ry h
  obtain ⟨i, j, rfl, rfl, hc, q⟩ := h
  obtain ⟨t, rfl⟩ := rx
  obtain ⟨t', rfl⟩ := ry
  exact rule i j t t' s _ _ hc ⟨.int (g i j), H, I.tok _, ⟨_, rfl⟩, q⟩
theorem opI0 {f : Value -> Value -> Sem Value} {g : Int -> Int -> Int}
    (rule : ∀ (i j : Int) (t u : Tok) (s : Shared) (Q : Value -> Shared -> Prop) (E : Value -> Shared -> Prop), Q (.int (g i j) s.toks) { s with toks := s.toks + 1 } -> wpAny (model X.prog X.w) X.A (f (.int i t) (.int j u)) Q E s) :
    OpR X f (rI0 fun i j => .int (g i j)) := by
  intro pins s σ H x y v u Q I rx ry h
  obtain ⟨i, j, rfl, rfl, q⟩ := h
  obtain ⟨t, rfl⟩ := rx
  obtain ⟨t', rfl⟩ := ry
  exact rule i j t t' s _ _ ⟨.int (g i j), H, I.tok _, ⟨_, rfl⟩, q⟩
theorem opB0 {f : Value -> Value -> Sem Value} {g : Int -> Int -> Bool}
    (rule : ∀ (i j : Int) (t u : Tok) (s : Shared) (Q : Value -> Shared -> Prop) (E : Value -> Shared -> Prop), Q (.bool (g i j)) s -> wpAny (model X.prog X.w) X.A (f (.int i t) (.int j u)) Q E s) :
    OpR X f (rI0 fun i j => .bl (g i j)) := by
  intro pins s σ H x y v u Q I rx ry h
  obtain ⟨i, j, rfl, rfl, q⟩ := h
  obtain ⟨t, rfl⟩ := rx
  obtain ⟨t', rfl⟩ := ry
  exact rule i j t t' s _ _ ⟨.bl (g i j), H, I, rfl, q⟩
noncomputable def CDiv (i j : Int) : Prop := 0 < j /\ j < 1073741824
noncomputable def CMul (i j : Int) : Prop := (-(2 ^ 64) < i /\ i < 2 ^ 64) \/ (-(2 ^ 64) < j /\ j < 2 ^ 64)
theorem CMul.ok {i j : Int} (h : CMul i j) : IntMulOk i j := by
  rcases h with ⟨h1, h2⟩ | ⟨h1, h2⟩
  · exact .of_left (intBits_le_64 h1 h2)
  · exact .of_right (intBits_le_64 h1 h2)
theorem op_add : OpR X (binaryOp .Add) (rI0 fun i j => .int (i + j)) := opI0 fun _ _ _ _ _ _ _ q => add_int q
theorem op_sub : OpR X (binaryOp .Sub) (rI0 fun i j => .int (i - j)) := opI0 fun _ _ _ _ _ _ _ q => sub_int q
theorem op_mul : OpR X (binaryOp .Mult) (rI CMul fun i j => .int (i * j)) := opI fun _ _ _ _ _ _ _ hc q => mul_int q hc.ok
theorem op_fdiv : OpR X (binaryOp .FloorDiv) (rI CDiv fun i j => .int (i / j)) := opI fun i j _ _ _ _ _ hc q => by
  have h1 : (0 : Int) < j := hc.1
  have h2 : j < 1073741824 := hc.2
  exact floordiv_int (by omega) (by rw [Int.fdiv_eq_ediv_of_nonneg i (by omega)]; exact q) (.inl (PyProof.noPylong_small (by omega)))
theorem op_mod : OpR X (binaryOp .Mod) (rI (fun _ j => 0 < j) fun i j => .int (i % j)) := opI fun i j _ _ _ _ _ hc q => by
  have h1 : (0 : Int) < j := hc
  exact mod_int' (by lia) (by rw [Int.fmod_eq_emod_of_nonneg i (by lia)]; exact q)
end
section
variable {X : Cx} {a b c : Expr} {ta tb tc : TE} {pos : Pos}
theorem fin_bl {pins : List (Addr × Obj)} {σ : St} {H : Hp} {s : Shared} {Q : VK} {k k' : Bool} (I : Inv X pins σ H s) (q : Q (.bl k) H) (e : k = k') : EP X pins σ Q (.bool k') s := by
  subst e
  exact ⟨.bl k, H, I, rfl, q⟩
theorem op_lt : OpR X (compareOp .Lt) (rI0 fun i j => .bl (decide (i < j))) := opB0 fun _ _ _ _ _ _ _ q => lt_int q
theorem op_le : OpR X (compareOp .LtE) (rI0 fun i j => .bl (decide (i <= j))) := opB0 fun _ _ _ _ _ _ _ q => le_int q
theorem op_gt : OpR X (compareOp .Gt) (rI0 fun i j => .bl (decide (j < i))) := opB0 fun _ _ _ _ _ _ _ q => gt_int q
theorem op_ge : OpR X (compareOp .GtE) (rI0 fun i j => .bl (decide (j <= i))) := opB0 fun _ _ _ _ _ _ _ q => ge_int q
theorem op_isN : OpR X (compareOp .Is) (fun x y H Q => y = .non /\ Q (.bl (decide (x = .non))) H) := by
  intro pins s σ H x y v u Q I rx ry h
  obtain ⟨rfl, q⟩ := h
  cases ry
  refine is_none_gen (fin_bl I q ?_)
  cases x <;> first
    | (cases rx; rfl)
    | (obtain ⟨t, rfl⟩ := rx; rfl)
theorem OpR.or {f : Value -> Value -> Sem Value} {r r' : R2} (h : OpR X f r) (h' : OpR X f r') : OpR X f (fun x y H Q => r x y H Q \/ r' x y H Q) := by
  intro pins s σ H x y v u Q I rx ry q
  rcases q with q | q
  · exact h pins s σ H x y v u Q I rx ry q
  · exact h' pins s σ H x y v u Q I rx ry q
theorem nomark (b : Expr) {op : CmpOp} (h : autoParam (op ≠ .In) L2.au1._auto_1) (h2 : autoParam (op ≠ .NotIn) L2.au1._auto_1) : behindInMarks op b = false := by
  have e1 : (op == CmpOp.In) = false := by cases op <;> first | rfl | exact absurd rfl h
  have e2 : (op == CmpOp.NotIn) = false := by cases op <;> first | rfl | exact absurd rfl h2
  cases b with
  | Set elts k _ =>
    show (k == 0 && (op == .In || op == .NotIn) && elts.all (constantsAlone 8)) = false
    rw [e1, e2, Bool.or_self, Bool.and_false, Bool.false_and]
  | _ => rfl
theorem pe_cmpR {op : CmpOp} {r : R2} (ho : OpR X (compareOp op) r) (ha : PE X a ta) (hb : PE X b tb) (hm : behindInMarks op b = false) : PE X (.Compare a [op] [b] pos) (tOp r ta tb) := by
  intro pins s σ H Q I h
  exact wpAny_Compare1 (binT ha hb I h fun v u s2 x y H2 I2 rx ry q => ho pins s2 σ H2 x y v u Q I2 rx ry q) hm
noncomputable def tTest (t : TE) : TT := fun σ H Q => t σ H fun x H' => ∃ k, x = .bl k /\ Q k H'
theorem pt_cmpR {op : CmpOp} {r : R2} (ho : OpR X (compareOp op) r) (ha : PE X a ta) (hb : PE X b tb) (hm : behindInMarks op b = false) : PT X (.Compare a [op] [b] pos) (tTest (tOp r ta tb)) := by
  intro pins s σ H Q I h
  refine wpAny_isTrue_Compare1 (thn (ha pins s σ H _ I h) fun v s1 ⟨x, H1, I1, r1, q1⟩ => thn (hb pins s1 σ H1 _ I1 q1) fun u s2 ⟨y, H2, I2, r2, q2⟩ =>
    thn (ho pins s2 σ H2 x y v u _ I2 r1 r2 q2) fun c s3 ⟨z, H3, I3, r3, k, e, q3⟩ => ?_) hm
  subst e
  cases r3
  exact wpAny_truthy_bool ⟨H3, I3, q3⟩
noncomputable def tChain (r r' : R2) (ta tb tc : TE) : TE := fun σ H Q => ta σ H fun x H1 => tb σ H1 fun y H2 => r x y H2 fun z H3 => ∃ k, z = .bl k /\
  (if k = true then tc σ H3 fun w' H4 => r' y w' H4 Q else Q (.bl false) H3)
theorem pt_chain {op op' : CmpOp} {r r' : R2} (ho : OpR X (compareOp op) r) (ho' : OpR X (compareOp op') r') (ha : PE X a ta) (hb : PE X b tb) (hc : PE X c tc)
    (hm : autoParam (lastMarks [op, op'] [b, c] = false) L2.au4._auto_1) : PT X (.Compare a [op, op'] [b, c] pos) (tTest (tChain r r' ta tb tc)) := by
  intro pins s σ H Q I h
  refine isTrue_chain (thn (ha pins s σ H _ I h) fun v s1 ⟨x, H1, I1, r1, q1⟩ => test_link (thn (hb pins s1 σ H1 _ I1 q1) fun u s2 ⟨y, H2, I2, r2, q2⟩ =>
    thn (ho pins s2 σ H2 x y v u _ I2 r1 r2 q2) fun d s3 ⟨z, H3, I3, r3, k, e, q3⟩ => ?_)) hm
  subst e
  cases r3
  refine wpAny_truthy_bool ?_
  cases k with
  | false =>
    obtain ⟨k', e', q'⟩ := q3
    cases e'
    exact ite_ff ⟨H3, I3, q'⟩
  | true =>
    refine ite_tt (test_last (thn (hc pins s3 σ H3 _ I3 q3) fun w' s4 ⟨z', H4, I4, r4, q4⟩ => thn (ho' pins s4 σ H4 y z' u w' _ I4 r2 r4 q4) fun d' s5 ⟨z2, H5, I5, r5, k2, e2, q5⟩ => ?_))
    subst e2
    cases r5
    exact wpAny_truthy_bool ⟨H5, I5, q5⟩
theorem line63 : (sizeLine : Nat) < 2 ^ 63 := by rw [sizeLine_eq]; decide
theorem op_add_str : OpR X (binaryOp .Add) (fun x y H Q => ∃ i j, x = .str i /\ y = .str j /\ i.length + j.length <= sizeLine /\ Q (.str (i ++ j)) H) := by
  intro pins s σ H x y v u Q I rx ry h
  obtain ⟨i, j, rfl, rfl, hz, q⟩ := h
  obtain ⟨t, rfl⟩ := rx
  obtain ⟨t', rfl⟩ := ry
  exact add_str (fun t' tk => ⟨.str (i ++ j), H, I.tok _, ⟨_, rfl⟩, q⟩) hz
theorem vals1 {x : V} {us : List Value} (r : Vals [x] us) : ∃ u, us = [u] /\ RelV x u := by
  cases r with
  | cons r1 r2 => cases r2; exact ⟨_, rfl, r1⟩
theorem vals2 {x y : V} {us : List Value} (r : Vals [x, y] us) : ∃ u w', us = [u, w'] /\ RelV x u /\ RelV y w' := by
  cases r with
  | cons r1 r2 =>
    cases r2 with
    | cons r3 r4 => cases r4; exact ⟨_, _, rfl, r1, r3⟩
theorem call_max2 (hc : X.calm = true) : CallR X (.builtin "max") (fun xs H Q => ∃ i j, xs = [.int i, .int j] /\ Q (.int (if j > i then j else i)) H) := by
  intro pins s σ H xs us Q I r h
  obtain ⟨i, j, rfl, q⟩ := h
  obtain ⟨u, w', rfl, ⟨t, rfl⟩, ⟨t', rfl⟩⟩ := vals2 r
  refine max_two_ints (I.ok.hd hc) fun h' tk k => ⟨_, H, I.kept k, ?_, q⟩
  by_cases hj : j > i
  · rw [if_pos hj, if_pos hj]; exact ⟨_, rfl⟩
  · rw [if_neg hj, if_neg hj]; exact ⟨_, rfl⟩
theorem call_int1 : CallR X (.type "int") (fun xs H Q => (∃ i, xs = [.int i] /\ Q (.int i) H) \/ ∃ k, xs = [.bl k] /\ Q (.int (if k then 1 else 0)) H) := by
  intro pins s σ H xs us Q I r h
  rcases h with ⟨i, rfl, q⟩ | ⟨k, rfl, q⟩
  · obtain ⟨u, rfl, t, rfl⟩ := vals1 r
    exact call_int_int ⟨.int i, H, I, ⟨_, rfl⟩, q⟩
  · obtain ⟨u, rfl, r1⟩ := vals1 r
    cases r1
    exact call_int_bool ⟨.int (if k then 1 else 0), H, I.tok _, ⟨_, rfl⟩, q⟩
end
end L2
namespace L2
open PySem PySem.Spec PyProof.Rows
structure ObjM (h : Heap) (x dx C : Addr) (mA : Str -> Option Value) : Prop where
  obj : h.get? x = some (PySem.W.instObj C dx)
  ns : h.Ns1 dx mA
  ne : dx ≠ x
theorem lookIn_ns {h : Heap} {dx : Addr} {mA : Str -> Option Value} (n : h.Ns1 dx mA) : ∃ od, h.get? dx = some od /\ ∀ name, PySem.W.lookIn name od = some (mA name) := by
  obtain ⟨o, es, ep, ho, hd, hk, _, hm⟩ := n
  refine ⟨o, ho, fun name => ?_⟩
  have e := hm name
  unfold nsFind findBy at e
  rw [<- Array.find?_toList] at e
  unfold PySem.W.lookIn
  rw [hd]
  dsimp only
  split
  · rename_i y q
    rw [q] at e
    exact congrArg some e
  · rename_i q
    rw [q] at e
    have a : es.toList.any (·.refKey) = false := by
      rw [List.any_eq_false]
      intro y hy
      obtain ⟨z, t, hkey⟩ := hk y (Array.mem_toList_iff.mp hy)
      simp [DictEntry.refKey, hkey]
    have a' : ¬ es.toList.any (·.refKey) = true := by rw [a]; exact Bool.false_ne_true
    rw [if_neg a']
    exact congrArg some e
theorem ObjM.look {h : Heap} {x dx C : Addr} {mA : Str -> Option Value} (I : ObjM h x dx C mA) : ∃ od, PySem.W.InstAt h x (PySem.W.instObj C dx) C (some od) /\ ∀ name, PySem.W.lookIn name od = some (mA name) :=
  let ⟨od, ho, hl⟩ := lookIn_ns I.ns
  ⟨od, ⟨I.obj, rfl, rfl, ho⟩, hl⟩
section
variable {prog : Program} {w : World} {A : Around} {E : Value -> Shared -> Prop} {s : Shared} {K : PySem.W.Frag} {x dx C f : Addr} {mA : Str -> Option Value} {name : Str} {v : Value}
end
theorem RelO.some_of {v : V} {o : Option Value} (r : RelO (some v) o) : ∃ u, o = some u /\ RelV v u := by
  cases o with
  | none => exact (show False from r).elim
  | some u => exact ⟨u, rfl, r⟩
section
variable {P : Program} {w : World} {H H' : Hp} {h h' : Heap} {a C dx : Addr} {fs fs' : List (Str × V)}
theorem ins_get (hok : HOk P w H h) (e : H a = some (.ins C dx fs)) : ∃ mA, ObjM h a dx C mA /\ (∀ f, RelO (fs.lookup f) (mA f)) /\ PySem.Within mA (fs.map (·.1)) /\ fs.length <= 1000 /\ H dx = some (.own a) := by
  obtain ⟨d, z, ne, ob, mA, n, r, q⟩ := (show ObjOk P w H h a (.ins C dx fs) from hok a _ e)
  exact ⟨mA, ⟨ob, n, ne⟩, r, q, z, d⟩
end
structure Cls (K : PySem.W.Frag) (C : Addr) : Prop where
  pg : PySem.W.plainGet K C Str.empty = true
  hd : PySem.W.hasDictIn K C = true
  po : PySem.W.plainOver K C = true
  sa : PySem.W.findIn K (.ref C) "__setattr__" = some (some (.builtin "object.__setattr__"))
theorem Cls.get {K : PySem.W.Frag} {C : Addr} (c : Cls K C) (f : Str) : PySem.W.plainGet K C f = true := c.pg
section
variable {X : Cx} {pins : List (Addr × Obj)} {σ : St} {H : Hp} {s : Shared} {a C dx : Addr} {fs : List (Str × V)} {f : Str} {v : V} {A : Around} {E : Value -> Shared -> Prop}
end
section
variable {X : Cx} {o e value : Expr} {f : Str} {pos pos' tpos : Pos} {ta tv : TE}
end
section
variable {X : Cx} {pins : List (Addr × Obj)} {σ : St} {H : Hp} {s : Shared} {A : Around} {E : Value -> Shared -> Prop} {Q : Value -> Shared -> Prop} {c : Value} {b : Bool}
inductive TyOf (K : PySem.W.Frag) (H : Hp) : V -> Value -> Prop where
  | non : TyOf K H .non (.type "NoneType")
  | bl (x : Bool) : TyOf K H (.bl x) (.type "bool")
  | int (i : Int) : TyOf K H (.int i) (.type "int")
  | str (x : Str) : TyOf K H (.str x) (.type "str")
  | flt (x : UInt64) : TyOf K H (.flt x) (.type "float")
  | lst {a : Addr} {xs : List V} (e : H a = some (.lst xs)) : TyOf K H (.ref a) (.type "list")
  | frz {a : Addr} {o : Obj} {xs : List V} (e : H a = some (.frz o (.lst xs))) : TyOf K H (.ref a) (.type "list")
  | tup {a : Addr} {xs : List V} (e : H a = some (.tup xs)) : TyOf K H (.ref a) (.type "tuple")
  | dK {a : Addr} {kvs : List (Key × V)} (e : H a = some (.dK kvs)) : TyOf K H (.ref a) (.type "dict")
  | dT {a : Addr} {kvs : List (List Key × V)} (e : H a = some (.dT kvs)) : TyOf K H (.ref a) (.type "dict")
  | ins {a C dx : Addr} {fs : List (Str × V)} (e : H a = some (.ins C dx fs)) (cl : Cls K C) (ha : PySem.W.findIn K (.ref C) "__class__" = some (some (.builtin "object.__class__")))
      (hn : PySem.W.specialIn K (.builtin "object.__class__") "__get__" = some (some (.builtin "getset_descriptor.__get__"))) (htk : PySem.W.takesIn K (.builtin "object.__class__") = some true)
      (hm : PySem.W.mroIn K C (.type "object") = some true) : TyOf K H (.ref a) (.ref C)
theorem isinst_ok {x : V} {u t : Value} (I : Inv X pins σ H s) (rx : RelV x u) (ty : TyOf X.K H x t) (e : PySem.W.kitOne X.K t c = some b) (h : ∀ tk, Q (.bool b) { s with toks := tk }) :
    wpAny (model X.prog X.w) A (call (.builtin "isinstance") [u, c]) Q E s := by
  cases ty with
  | non => cases (show u = Value.none from rx); exact PySem.W.kia_one PySem.W.kitx_none I.kIn True.intro e (fun z => nomatch z) h
  | bl y => cases (show u = Value.bool y from rx); exact PySem.W.kia_one PySem.W.kitx_bool I.kIn True.intro e (fun z => nomatch z) h
  | int i => obtain ⟨t, q⟩ := (show ∃ t, u = Value.int i t from rx); cases q; exact PySem.W.kia_one PySem.W.kitx_int I.kIn True.intro e (fun z => nomatch z) h
  | str y => obtain ⟨t, q⟩ := (show ∃ t, u = Value.str y t from rx); cases q; exact PySem.W.kia_one PySem.W.kitx_str I.kIn True.intro e (fun z => nomatch z) h
  | flt y => obtain ⟨t, q⟩ := (show ∃ t, u = Value.float y t from rx); cases q; exact PySem.W.kia_one PySem.W.kitx_float I.kIn True.intro e (fun z => nomatch z) h
  | @lst a xs ea =>
    cases (show u = Value.ref a from rx)
    obtain ⟨_, _, n, _, h1⟩ := (show ObjOk X.prog X.w H s.heap a (.lst xs) from I.hok a _ ea)
    exact PySem.W.kia_one PySem.W.kitx_list I.kIn ⟨_, h1, rfl⟩ e (fun z => nomatch z) h
  | @frz a ob xs ea =>
    cases (show u = Value.ref a from rx)
    obtain ⟨_, _, _, n, _, h1⟩ := (show ObjOk X.prog X.w H s.heap a (.frz ob (.lst xs)) from I.hok a _ ea)
    exact PySem.W.kia_one PySem.W.kitx_list I.kIn ⟨_, h1, rfl⟩ e (fun z => nomatch z) h
  | @tup a xs ea =>
    cases (show u = Value.ref a from rx)
    obtain ⟨_, _, _, p⟩ := (show ObjOk X.prog X.w H s.heap a (.tup xs) from I.hok a _ ea)
    obtain ⟨o, h1, h2, _⟩ := p
    exact PySem.W.kia_one PySem.W.kitx_tuple I.kIn ⟨o, h1, h2⟩ e (fun z => nomatch z) h
  | @dK a kvs ea =>
    cases (show u = Value.ref a from rx)
    obtain ⟨_, _, vs, _, p⟩ := (show ObjOk X.prog X.w H s.heap a (.dK kvs) from I.hok a _ ea)
    obtain ⟨o, es, ep, h1, h2, _⟩ := p
    exact PySem.W.kia_one PySem.W.kitx_dict I.kIn ⟨o, h1, h2.1⟩ e (fun z => nomatch z) h
  | @dT a kvs ea =>
    cases (show u = Value.ref a from rx)
    obtain ⟨_, _, xs, _, o, es, ep, h1, h2, _⟩ := (show ObjOk X.prog X.w H s.heap a (.dT kvs) from I.hok a _ ea)
    exact PySem.W.kia_one PySem.W.kitx_dict I.kIn ⟨o, h1, h2.1⟩ e (fun z => nomatch z) h
  | @ins a C dx fs ea cl ha hn htk hm =>
    cases (show u = Value.ref a from rx)
    obtain ⟨mA, O, _⟩ := ins_get I.hok ea
    obtain ⟨od, J, _⟩ := O.look
    exact PySem.W.kia_one (PySem.W.kitx_own (cl.get _) cl.hd ha hn htk hm) I.kIn J e (fun z => nomatch z) h
end
end L2
namespace L2
open PySem PySem.Spec PyProof.Rows
structure Room (k : Nat) (A : Around) : Prop where
  hd : A.handled = none
  dp : A.depth + 3 * k + 5 < recursionLimit
  un : A.units + 16 * k + 200 < cLine
theorem Room.mono {j k : Nat} {A : Around} (r : Room k A) (h : j <= k) : Room j A := ⟨r.hd, by have := r.dp; lia, by have := r.un; lia⟩
theorem Room.deeper {k : Nat} {A : Around} (r : Room (k + 1) A) (env : Env) : Room k (A.deeper env) :=
  ⟨r.hd, by have := r.dp; show A.depth + 1 + 3 * k + 5 < _; lia, by have := r.un; show A.units + 3 + 16 * k + 200 < _; lia⟩
theorem Room.depth {k : Nat} {A : Around} (r : Room k A) : A.depth < recursionLimit := by have := r.dp; omega
theorem Room.units0 {k : Nat} {A : Around} (r : Room k A) : A.units < cLine := by have := r.un; omega
noncomputable def tNil : TA := fun _ H Q => Q [] H
noncomputable def tCons (ta : TE) (tr : TA) : TA := fun σ H Q => ta σ H fun x H1 => tr σ H1 fun xs H2 => Q (x :: xs) H2
section
variable {X : Cx} {e : Expr} {es : List Expr} {te : TE} {t : TA} {pos : Pos}
theorem pa_nil : PA X [] tNil := fun _ _ _ _ H Q I h => Calls.spliced_nil ⟨[], H, I, .nil, h⟩
theorem pa_cons (ha : PE X e te) (hr : PA X es t) (hs : autoParam (starEach (e :: es) X.env = (false, eval e X.env) :: starEach es X.env) L2.au3._auto_1) : PA X (e :: es) (tCons te t) := by
  intro pos pins s σ H Q I h
  rw [hs]
  show wpAny _ _ (spliced ((false, eval e X.env) :: backTo pos (starEach es X.env))) _ _ s
  refine Calls.spliced_cons (thn (ha pins s σ H _ I h) fun u s1 ⟨x, H1, I1, r1, q1⟩ => ?_)
  exact thn (hr pos pins s1 σ H1 _ I1 q1) fun us s2 ⟨xs, H2, I2, r2, q2⟩ => ⟨x :: xs, H2, I2, .cons r1 r2, q2⟩
noncomputable def tTup (t : TA) : TE := fun σ H Q => t σ H fun xs H1 => xs.length <= sizeLine /\ ∀ p, H1 p = none -> Q (.ref p) (upd H1 p (.tup xs))
noncomputable def tLst (t : TA) : TE := fun σ H Q => t σ H fun xs H1 => xs.length <= sizeLine /\ ∀ p, H1 p = none -> Q (.ref p) (upd H1 p (.lst xs))
theorem pe_tup {x1} (h : PA X es t) : PE X (.Tuple es x1 pos) (tTup t) := by
  intro pins s σ H Q I hq
  refine wpAny_Tuple_spliced (thn (h pos pins s σ H _ I hq) fun us s1 ⟨xs, H1, I1, r, z, q⟩ => ⟨by rw [<- r.length]; exact z, ?_⟩)
  have hf : H1 s1.heap.objs.size = none := I1.hok.fresh (Nat.le_refl _)
  refine ⟨.ref s1.heap.objs.size, upd H1 s1.heap.objs.size (.tup xs), I1.laid (t' := s1.toks) (fun b u e => Heap.get?_push_of_some _ e) (Nat.le_refl _) ?_, rfl, q _ hf⟩
  exact ⟨z, us, r, TupN.new _ _⟩
theorem pe_lst (h : PA X es t) : PE X (.List es pos) (tLst t) := by
  intro pins s σ H Q I hq
  refine wpAny_List_spliced (thn (h pos pins s σ H _ I hq) fun us s1 ⟨xs, H1, I1, r, z, q⟩ => ⟨by rw [<- r.length]; exact z, ?_⟩)
  have hf : H1 s1.heap.objs.size = none := I1.hok.fresh (Nat.le_refl _)
  refine ⟨.ref s1.heap.objs.size, upd H1 s1.heap.objs.size (.lst xs), I1.laid (t' := s1.toks) (fun b u e => Heap.get?_push_of_some _ e) (Nat.le_refl _) ?_, rfl, q _ hf⟩
  exact ⟨z, us, 0, r, Heap.get?_push_size _ rfl⟩
end
noncomputable abbrev Sp := List V -> Hp -> VK -> XK -> Prop
noncomputable abbrev CXT := List Env -> Hp -> Shared -> XK -> Value -> Shared -> Prop
structure Env0 (P : Program) (w : World) (K : PySem.W.Frag) (mg : Str -> Option Value) (base : Heap) (A : Around) (outer : List Env) (s : Shared) (H : Hp) : Prop where
  frames : A.frames = some outer
  mod : Mod K mg base
  bs : ∀ b o, base.get? b = some o -> s.heap.get? b = some o /\ H b = none
  bsz : base.objs.size <= s.heap.objs.size
  funs : s.heap.FunFrames base outer
  frf : ∀ b ∈ frs outer, H b = none
  hok : HOk P w H s.heap
  bare : AllBare s.gens
noncomputable def CE (outer : List Env) (P : Program) (w : World) (H : Hp) (s : Shared) (Q : VK) (u : Value) (s' : Shared) : Prop :=
  ∃ v H', s'.os = s.os /\ AllBare s'.gens /\ Un (frs outer) [] H H' s.heap s'.heap /\ HOk P w H' s'.heap /\ RelV v u /\ Q v H'
noncomputable def CR (CX : CXT) (outer : List Env) (P : Program) (w : World) (H : Hp) (s : Shared) (Q : VK) (E : XK) (r : Result) (s' : Shared) : Prop :=
  match r with
  | .ok (.ret u) => CE outer P w H s Q u s'
  | .ok _ => False
  | .error e => CX outer H s E e s'
structure FnOk (P : Program) (w : World) (K : PySem.W.Frag) (mg : Str -> Option Value) (base : Heap) (CX : CXT) (k : Nat) (f : Addr) (fd : FuncData) (ps : List Str) (sp : Sp) : Prop where
  len : ∀ vs H Q E, sp vs H Q E -> vs.length = ps.length
  run : ∀ (A : Around) (outer : List Env) (s : Shared) (H : Hp) (args : Args) (us : List Value) (vs : List V) (Q : VK) (E : XK), Room k A -> Env0 P w K mg base A outer s H -> BindsTo s fd args (ps.zip us) -> Vals vs us -> sp vs H Q E ->
    codeAny (model P w) A (.call (.ref f) args) (CR CX outer P w H s Q E) s
theorem FnOk.mono {P : Program} {w : World} {K : PySem.W.Frag} {mg : Str -> Option Value} {base : Heap} {CX : CXT} {j k : Nat} {f : Addr} {fd : FuncData} {ps : List Str} {sp : Sp} (F : FnOk P w K mg base CX j f fd ps sp) (h : j <= k) :
    FnOk P w K mg base CX k f fd ps sp := ⟨F.len, fun A outer s H args us vs Q E hr => F.run A outer s H args us vs Q E (hr.mono h)⟩
section
variable {X : Cx} {pins : List (Addr × Obj)} {σ : St} {H : Hp} {s s' : Shared}
theorem Inv.env0 (I : Inv X pins σ H s) : Env0 X.prog X.w X.K X.mg X.base X.A X.stack s H :=
  ⟨I.ok.frames, I.ok.mod, I.bs, Nat.le_trans I.ok.bsz I.sz, I.stack, I.stkFree, I.hok, I.bare⟩
theorem Inv.after {Q : VK} {u : Value} (I : Inv X pins σ H s) (h : CE X.stack X.prog X.w H s Q u s') : EP X pins σ Q u s' := by
  obtain ⟨v, H', os, bare, un, hok, r, q⟩ := h
  obtain ⟨hh, g, d, t, os'⟩ := s'
  obtain rfl : os' = s.os := os
  exact ⟨v, H', I.call (h' := hh) (g' := g) (d' := d) (t' := t) (ch := []) un hok bare (fun b z => absurd z (by simp)), r, q⟩
end
noncomputable def tCall (sp : Sp) (dvs : List V) (E : XK) (t : TA) : TE := fun σ H Q => t σ H fun vs H1 => sp (vs ++ dvs) H1 Q E
noncomputable def Binds (K : PySem.W.Frag) (fd : FuncData) (ps : List Str) (ds : List Value) : Prop :=
  ∀ (s : Shared) (us : List Value), K.In s.heap -> (us ++ ds).length = ps.length -> BindsTo s fd ⟨us, []⟩ (ps.zip (us ++ ds))
theorem Binds.all {K : PySem.W.Frag} {fd : FuncData} {ps : List Str} (h : ∀ us : List Value, us.length = ps.length -> bindArgs fd ⟨us, []⟩ = pure (ps.zip us)) : Binds K fd ps [] := fun s us _ hl => by
  rw [List.append_nil] at hl ⊢
  exact .of_eq (h us hl)
noncomputable def Passes (CX : CXT) (X : Cx) (E : XK) : Prop := ∀ (pins : List (Addr × Obj)) (σ : St) (H : Hp) (s : Shared) (e : Value) (s' : Shared), Inv X pins σ H s -> CX X.stack H s E e s' -> X.xe e s'
section
variable {X : Cx} {CX : CXT} {k : Nat} {f C : Addr} {fd : FuncData} {ps : List Str} {sp : Sp} {dvs : List V} {ds : List Value} {E : XK} {x m : Str} {p pos apos : Pos} {e o : Expr} {es : List Expr} {ta : TE} {t : TA}
theorem run_fn {pins : List (Addr × Obj)} {σ : St} {H : Hp} {s : Shared} {Q : VK} {us : List Value} {vs : List V} (F : FnOk X.prog X.w X.K X.mg X.base CX k f fd ps sp) (hr : Room k X.A) (hb : Binds X.K fd ps ds) (hd : Vals dvs ds) (hx : Passes CX X E)
    (I : Inv X pins σ H s) (r : Vals vs us) (h : sp (vs ++ dvs) H Q E) : wpAny (model X.prog X.w) X.A (call (.ref f) us) (EP X pins σ Q) X.xe s := by
  have r2 : Vals (vs ++ dvs) (us ++ ds) := r.append hd
  have hl : (us ++ ds).length = ps.length := by rw [<- r2.length]; exact F.len _ _ _ _ h
  refine wpAny_call (codeAny_mono (F.run X.A X.stack s H ⟨us, []⟩ (us ++ ds) (vs ++ dvs) Q E hr I.env0 (hb s us I.kIn hl) r2 h) fun r s' hq => ?_)
  cases r with
  | error e => exact hx pins σ H s e s' I hq
  | ok fl =>
    cases fl with
    | ret u => exact I.after hq
    | next => exact False.elim hq
    | brk => exact False.elim hq
    | cont => exact False.elim hq
theorem pe_call (F : FnOk X.prog X.w X.K X.mg X.base CX k f fd ps sp) (hr : Room k X.A) (hg : Gl X x) (hm : X.mg x = some (.ref f)) (hk : PySem.W.keepIn X.K (.ref f) = true) (hb : Binds X.K fd ps ds) (hd : Vals dvs ds) (hx : Passes CX X E)
    (ha : PA X (e :: es) t) (hdb : autoParam ((x == ("__debug__" : Str)) = false) L2.au1._auto_1) (he : autoParam (starEach (e :: es) X.env = (false, eval e X.env) :: starEach es X.env) L2.au3._auto_1) (hpl : autoParam ((backTo pos (starEach es X.env)).any (·.1) = false) L2.au3._auto_1) :
    PE X (.Call (.Name x p) (e :: es) [] pos) (tCall sp dvs E t) := by
  intro pins s σ H Q I h
  refine wpAny_Call_Name_kw (ld_glob I hg hm ?_ hdb)
  refine PySem.W.callWith_K (h₀ := X.base) I.ok.mod.kin hk (thn (ha pos pins s σ H _ I h) fun us s1 ⟨vs, H1, I1, r, q⟩ => ⟨I1.kIn, ?_⟩) he hpl
  exact run_fn F hr hb hd hx I1 r q
end
section
variable {X : Cx} {CX : CXT} {k : Nat} {f C : Addr} {fd : FuncData} {ps ks : List Str} {sp : Sp} {E : XK} {x m : Str} {p pos apos kpos : Pos} {e o : Expr} {es : List Expr} {kws : List Keyword} {te ta : TE} {t tk : TA} {nm : Option Str}
variable {g : List Value -> List Value -> List Value} {gV : List V -> List V -> List V}
end
structure FnScope (N P : List Str) (sc : Scope) : Prop where
  kind : sc.kind = .function
  co : sc.isCoroutine = false
  gen : sc.isGenerator = false
  nd : N.Nodup
  pre : N.take P.length = P
  par : ∀ x ∈ P, sc.names.lookup x = some .local \/ sc.names.lookup x = some .cell
  nofree : ∀ y ∈ sc.names, y.2 ≠ .free
theorem bindL_out {kindOf : Str -> Option NameKind} {x : Str} : ∀ {binds : List (Str × Value)} {m : Str -> Option Value}, (∀ v, (x, v) ∉ binds) -> bindL kindOf binds m x = m x
  | [], _, _ => rfl
  | (n, v) :: r, m, h => by
    unfold bindL
    rw [bindL_out fun w hw => h w (List.mem_cons_of_mem _ hw)]
    split
    · have : x ≠ n := by rintro rfl; exact h v List.mem_cons_self
      simp [this]
    · rfl
theorem bindC_out {kindOf : Str -> Option NameKind} {x : Str} : ∀ {binds : List (Str × Value)} {m : Str -> Option Value}, (∀ v, (x, v) ∉ binds) -> bindC kindOf binds m x = m x
  | [], _, _ => rfl
  | (n, v) :: r, m, h => by
    unfold bindC
    rw [bindC_out fun w hw => h w (List.mem_cons_of_mem _ hw)]
    split
    · rfl
    · have : x ≠ n := by rintro rfl; exact h v List.mem_cons_self
      simp [this]
theorem bindL_get {kindOf : Str -> Option NameKind} {x : Str} {v : Value} : ∀ {P : List Str} {vs : List Value} {i : Nat} {m : Str -> Option Value}, P.Nodup -> P[i]? = some x -> vs[i]? = some v -> kindOf x = some .local ->
    bindL kindOf (P.zip vs) m x = some v
  | [], _, _, _, _, h, _, _ => by simp at h
  | _ :: _, [], _, _, _, _, h, _ => by simp at h
  | p :: P, w :: vs, 0, m, nd, h1, h2, hk => by
    simp at h1 h2; subst h1; subst h2
    show bindL kindOf ((p, w) :: P.zip vs) m p = _
    unfold bindL
    rw [bindL_out fun v hv => (List.nodup_cons.mp nd).1 (List.of_mem_zip hv).1, if_pos hk]
    simp
  | p :: P, w :: vs, i + 1, m, nd, h1, h2, hk => by
    show bindL kindOf ((p, w) :: P.zip vs) m x = _
    unfold bindL
    exact bindL_get (i := i) (List.nodup_cons.mp nd).2 (by simpa using h1) (by simpa using h2) hk
theorem bindC_get {kindOf : Str -> Option NameKind} {x : Str} {v : Value} : ∀ {P : List Str} {vs : List Value} {i : Nat} {m : Str -> Option Value}, P.Nodup -> P[i]? = some x -> vs[i]? = some v -> kindOf x ≠ some .local ->
    bindC kindOf (P.zip vs) m x = some v
  | [], _, _, _, _, h, _, _ => by simp at h
  | _ :: _, [], _, _, _, _, h, _ => by simp at h
  | p :: P, w :: vs, 0, m, nd, h1, h2, hk => by
    simp at h1 h2; subst h1; subst h2
    show bindC kindOf ((p, w) :: P.zip vs) m p = _
    unfold bindC
    rw [bindC_out fun v hv => (List.nodup_cons.mp nd).1 (List.of_mem_zip hv).1, if_neg hk]
    simp
  | p :: P, w :: vs, i + 1, m, nd, h1, h2, hk => by
    show bindC kindOf ((p, w) :: P.zip vs) m x = _
    unfold bindC
    exact bindC_get (i := i) (List.nodup_cons.mp nd).2 (by simpa using h1) (by simpa using h2) hk
noncomputable def start (N : List Str) (vs : List V) : St := vs.map some ++ List.replicate (N.length - vs.length) none
noncomputable def cxOf (CX : CXT) (P : Program) (w : World) (K : PySem.W.Frag) (mg : Str -> Option Value) (base : Heap) (N : List Str) (qual : Str) (scope : Scope) (f : Addr) (cd : Value) (A : Around) (outer : List Env) (s : Shared) (H : Hp) (E : XK) : Cx where
  prog := P
  w := w
  K := K
  mg := mg
  base := base
  A := A.deeper (envOfC qual scope s.heap.objs.size f cd)
  N := N
  s₀ := s
  H₀ := H
  env := envOfC qual scope s.heap.objs.size f cd
  outer := outer
  stack := envOfC qual scope s.heap.objs.size f cd :: outer
  ex := []
  calm := true
  fn := fun _ => true
  pn := []
  xe := fun e s' => wpAny (model P w) (A.deeper (envOfC qual scope s.heap.objs.size f cd)) (leaving (envOfC qual scope s.heap.objs.size f cd) e) (fun _ s'' => CX outer H s E e s'') (fun e' s'' => CX outer H s E e' s'') s'
theorem cell_has {sc : Scope} {n : Nat} {x : Str} (h : sc.names.lookup x = some .cell) : ∃ c, (cellsFrom n sc.names []).lookup x = some c := by
  have q := PySem.W.cellsFrom_some sc.names n [] (.inl h)
  exact Option.isSome_iff_exists.mp q
theorem inv_start {CX : CXT} {P : Program} {w : World} {K : PySem.W.Frag} {mg : Str -> Option Value} {base : Heap} {N ps : List Str} {qual : Str} {scope : Scope} {f : Addr} {cd : Value} {A : Around} {outer : List Env} {s s1 : Shared} {H : Hp} {E : XK} {us : List Value} {vs : List V}
    (S : FnScope N ps scope) (hd : A.handled = none) (e0 : Env0 P w K mg base A outer s H) (hl : vs.length = ps.length) (r : Vals vs us)
    (x : InCallC s s.heap.objs.size (bindL (envOfC qual scope s.heap.objs.size f cd).kindOf (ps.zip us) fun _ => none) (cellsFrom (s.heap.objs.size + 1) scope.names []) (bindC (envOfC qual scope s.heap.objs.size f cd).kindOf (ps.zip us) fun _ => none) s1) :
    Inv (cxOf CX P w K mg base N qual scope f cd A outer s H E) [] (start N vs) H s1 := by
  have hpl : ps.length <= N.length := by have := congrArg List.length S.pre; rw [List.length_take] at this; lia
  obtain ⟨h1, tk, rfl, hk⟩ := x.done
  have noA : ∀ b : Addr, b ∉ (cxOf CX P w K mg base N qual scope f cd A outer s H E).ex := fun b z => absurd (show b ∈ ([] : List Addr) from z) (by simp)
  refine ⟨⟨e0.mod, S.kind, rfl, rfl, Nat.le_refl _, fun y z c h1 h2 => ?_, fun y hy => ?_, fun y c _ h => ?_, fun _ => hd, Around.frames_deeper e0.frames, .inr ⟨rfl, rfl⟩, fun b z => absurd z (noA b), e0.bs, e0.bsz, fun b _ _ => noA b, fun b z => absurd z (noA b), e0.funs, e0.frf⟩,
    rfl, e0.bare, Un.kept hk, ⟨_, x.toInCall.ns, fun i y v h1 h2 h3 => ?_⟩, fun y c h => ⟨_, x.cell y c h⟩, e0.hok.fresh (Nat.le_refl _), fun y c h => ?_, fun p hp => absurd (show p ∈ ([] : List (Addr × Obj)) from hp) (by simp), e0.hok.kept hk, ?_⟩
  · exact name_of_addr x.apart (PySem.mem_of_lookup h1) (PySem.mem_of_lookup h2)
  · have hy : scope.names.lookup y = some .cell \/ scope.names.lookup y = some .free := hy
    rcases hy with hy | hy
    · exact cell_has hy
    · exact absurd rfl (S.nofree _ (PySem.mem_of_lookup hy))
  · exact Nat.le_of_lt (x.above y c (PySem.mem_of_lookup h))
  · have hi : i < vs.length := by
      unfold start at h2
      by_cases hi : i < vs.length
      · exact hi
      · rw [List.getElem?_append_right (by simpa using hi)] at h2
        rw [List.getElem?_replicate] at h2
        split at h2 <;> cases h2
    have ha : vs[i]? = some v := by
      unfold start at h2
      rw [List.getElem?_append_left (by simpa using hi), List.getElem?_map] at h2
      cases e : vs[i]? with
      | none => rw [e] at h2; cases h2
      | some a => rw [e] at h2; cases h2; rfl
    obtain ⟨u, hu, rv⟩ := r.get ha
    have hp : ps[i]? = some y := by
      rw [<- S.pre, List.getElem?_take_of_lt (by lia)]; exact h1
    have ndP : ps.Nodup := by rw [<- S.pre]; exact S.nd.sublist (List.take_sublist _ _)
    refine ⟨u, rv, ?_⟩
    rcases S.par y (List.mem_of_getElem? hp) with k | k
    · exact .inl ⟨k, bindL_get ndP hp hu k⟩
    · obtain ⟨c, e⟩ := cell_has (n := s.heap.objs.size + 1) k
      refine .inr ⟨.inl k, c, e, ?_⟩
      have q := x.cell y c e
      rw [bindC_get ndP hp hu (by show scope.names.lookup y ≠ _; rw [k]; decide)] at q
      exact q
  · exact e0.hok.fresh (Nat.le_of_lt (x.above y c (PySem.mem_of_lookup h)))
  · unfold start
    show _ = N.length
    rw [List.length_append, List.length_map, List.length_replicate]
    lia
theorem fn_of {CX : CXT} {P : Program} {w : World} {K : PySem.W.Frag} {mg : Str -> Option Value} {base : Heap} {k : Nat} {f : Addr} {name qual : Str} {params : Arguments} {body : List Stmt} {scope : Scope} {dV kV doc pm cdv ct oc : Value} {an od : Option Addr}
    {osl : Array (Option Value)} {N ps : List Str} {sp : Sp} (lk : K.lookup f = some ⟨oc, od, .func (PySem.W.fnOf name qual params body scope dV kV doc pm an cdv ct), osl⟩) (hcd : PySem.W.codeIn K cdv qual = true) (S : FnScope N ps scope)
    (len : ∀ vs H Q E, sp vs H Q E -> vs.length = ps.length)
    (hbody : ∀ (A : Around) (outer : List Env) (s : Shared) (H : Hp) (vs : List V) (Q : VK) (E : XK), Room k (A.deeper (envOfC qual scope s.heap.objs.size f cdv)) -> sp vs H Q E ->
      ∃ t, PSs (cxOf CX P w K mg base N qual scope f cdv A outer s H E) body t /\ t { nx := fun _ H' => Q .non H', rt := Q } (start N vs) H) :
    FnOk P w K mg base CX (k + 1) f (PySem.W.fnOf name qual params body scope dV kV doc pm an cdv ct) ps sp := by
  refine ⟨len, fun A outer s H args us vs Q E hr e0 hb r hsp => ?_⟩
  have hl := len _ _ _ _ hsp
  have KX : K.In s.heap := e0.mod.kin.keeps fun b o e => (e0.bs b o e).1
  have lim : s.heap.NoLimit := e0.mod.nolimit.keeps fun b o e => (e0.bs b o e).1
  have hkind : ∀ y ∈ ps.zip us, scope.names.lookup y.1 = some .local \/ (scope.names.lookup y.1 = some .cell /\ ((cellsFrom (s.heap.objs.size + 1) scope.names []).lookup y.1).isSome = true) := fun ⟨n, v⟩ hy => by
    rcases S.par n (List.of_mem_zip hy).1 with q | q
    · exact .inl q
    · exact .inr ⟨q, PySem.W.cellsFrom_some _ _ _ (.inl q)⟩
  refine codeAny_call_function hr.depth (KX _ _ lk) rfl S.co S.gen rfl (PySem.W.codeRec_of KX hcd) (hb _ _ _ _ ?_)
  refine wpAny_newFunctionEnv_cells S.kind hkind fun env he s1 x => ?_
  subst he
  refine ⟨lim.keeps x.toInCall.keep, codeAny_func ?_⟩
  obtain ⟨t, ht, hq⟩ := hbody A outer s H vs Q E (hr.deeper _) hsp
  have I : Inv (cxOf CX P w K mg base N qual scope f cdv A outer s H E) [] (start N vs) H s1 := inv_start S hr.hd e0 hl r x
  refine wpAny_mono (ht [] s1 (start N vs) H _ I hq) (fun fl s' hs => ?_) fun e s' hs => hs
  have fin : ∀ {σ' : St} {H' : Hp} {v : V} {u : Value}, Inv (cxOf CX P w K mg base N qual scope f cdv A outer s H E) [] σ' H' s' -> RelV v u -> Q v H' -> CE outer P w H s Q u s' :=
    fun {σ' H' v u} J rv q => ⟨v, H', J.os, J.bare, J.base, J.hok, rv, q⟩
  cases fl with
  | ret u =>
    obtain ⟨v, σ', H', J, rv, q⟩ := hs
    exact fin J rv q
  | next =>
    obtain ⟨σ', H', J, q⟩ := hs
    exact fin (v := V.non) (u := Value.none) J rfl q
  | brk =>
    obtain ⟨_, _, _, q⟩ := hs
    exact False.elim q
  | cont =>
    obtain ⟨_, _, _, q⟩ := hs
    exact False.elim q
end L2
namespace L2
open PySem PySem.Spec PyProof.Rows
section
variable {X : Cx} {x : Str} {p pos : Pos} {e : Expr} {es : List Expr} {t : TA} {id T : String} {r : List V -> Hp -> VK -> Prop}
noncomputable def tCB (r : List V -> Hp -> VK -> Prop) (t : TA) : TE := fun σ H Q => t σ H fun vs H1 => r vs H1 Q
theorem pe_callB (hc : CallR X (.builtin id) r) (hg : Gl X x) (hm : X.mg x = none) (hv : bootBuiltins x = some (.builtin id)) (ha : PA X (e :: es) t) (hn : autoParam (x ≠ "__name__") L2.au1._auto_1) (hdb : autoParam ((x == ("__debug__" : Str)) = false) L2.au1._auto_1)
    (he : autoParam (starEach (e :: es) X.env = (false, eval e X.env) :: starEach es X.env) L2.au3._auto_1) (hpl : autoParam ((backTo pos (starEach es X.env)).any (·.1) = false) L2.au3._auto_1) : PE X (.Call (.Name x p) (e :: es) [] pos) (tCB r t) := by
  intro pins s σ H Q I h
  refine wpAny_Call_Name_kw (ld_blt I hg hm hv ?_ hn hdb)
  exact PyProof.Rows.callWith_builtin1 (thn (ha pos pins s σ H _ I h) fun us s1 ⟨vs, H1, I1, r1, q1⟩ => hc pins s1 σ H1 vs us Q I1 r1 q1) he hpl
theorem pe_callTy (hc : CallR X (.type T) r) (hg : Gl X x) (hm : X.mg x = none) (hv : bootBuiltins x = some (.type T)) (ha : PA X (e :: es) t) (hn : autoParam (x ≠ "__name__") L2.au1._auto_1) (hdb : autoParam ((x == ("__debug__" : Str)) = false) L2.au1._auto_1)
    (he : autoParam (starEach (e :: es) X.env = (false, eval e X.env) :: starEach es X.env) L2.au3._auto_1) (hpl : autoParam ((backTo pos (starEach es X.env)).any (·.1) = false) L2.au3._auto_1) : PE X (.Call (.Name x p) (e :: es) [] pos) (tCB r t) := by
  intro pins s σ H Q I h
  refine wpAny_Call_Name_kw (ld_blt I hg hm hv ?_ hn hdb)
  exact PyProof.Rows.callWith_type1 (thn (ha pos pins s σ H _ I h) fun us s1 ⟨vs, H1, I1, r1, q1⟩ => hc pins s1 σ H1 vs us Q I1 r1 q1) he hpl
end
end L2
namespace HT
open PySem PyProof.Rows
section
open PySem.SeqAt
open PySem.AutoSeq1 (wpAny_loadPart')
open PySem.MeetsSeq PySem.MeetsSeq2 PySem.MeetsSeq3
end
section
variable {prog : Program} {w : World} {A : Around} {E : Value -> Shared -> Prop} {s : Shared}
theorem cat_tup {t b : Addr} {vs ws : List Value} {Q : Value -> Shared -> Prop} (ht : IsTup s.heap t vs.toArray) (hb : IsTup s.heap b ws.toArray) (hv : vs ≠ [])
    (h1 : ws = [] -> Q (.ref t) s) (h2 : ws ≠ [] -> Q (.ref s.heap.objs.size) { s with heap := s.heap.push { cls := .type "tuple", data := .seq (vs ++ ws).toArray } })
    (hsz : vs.length + ws.length <= sizeLine) : wpAny (model prog w) A (binaryOp .Add (.ref t) (.ref b)) Q E s := by
  obtain ⟨⟨cls, dd, data, sl⟩, ho, hc, n, hd⟩ := id ht
  obtain ⟨⟨cls2, dd2, data2, sl2⟩, ho2, hc2, n2, hd2⟩ := id hb
  simp only at hc hd hc2 hd2
  subst hc hd hc2 hd2
  have e : vs.toArray ++ ws.toArray = (vs ++ ws).toArray := by simp
  by_cases hw : ws = []
  · exact concat_meets ⟨_, ho, rfl⟩ ⟨_, ho2, rfl⟩ noFill_tuple_add seq_tuple_add PySem.F.slot_tuple_add PySem.F.entry_tuple_add (PySem.F.args_tuple_add_2 _ _)
      (tuple_addW1 t b vs.toArray ws.toArray n n2 dd dd2 sl sl2 (by simpa using hv) (by simp [hw])) ⟨ho, ho2, h1 hw⟩
  · refine concat_meets ⟨_, ho, rfl⟩ ⟨_, ho2, rfl⟩ noFill_tuple_add seq_tuple_add PySem.F.slot_tuple_add PySem.F.entry_tuple_add (PySem.F.args_tuple_add_2 _ _)
      (tuple_addW2 t b vs.toArray ws.toArray n n2 dd dd2 sl sl2 (by simpa using hv) (by simpa using hw) (by rw [List.size_toArray, List.size_toArray]; exact hsz)) ⟨ho, ho2, ?_⟩
    rw [e]
    exact h2 hw
noncomputable def sIx (n d : Nat) : Option Int -> Nat
  | none => d
  | some v => if v < 0 then (v + (n : Int)).toNat else min v.toNat n
theorem sIx_none (n d : Nat) : sIx n d none = d := rfl
theorem sIx_nat (n d k : Nat) : sIx n d (some (k : Int)) = min k n := by
  show (if (k : Int) < 0 then ((k : Int) + (n : Int)).toNat else min (k : Int).toNat n) = min k n
  rw [if_neg (by lia), Int.toNat_natCast]
theorem sIx_le (n d : Nat) (hd : d <= n) (o : Option Int) : sIx n d o <= n := by
  cases o with
  | none => exact hd
  | some v =>
    show (if v < 0 then (v + (n : Int)).toNat else min v.toNat n) <= n
    by_cases hv : v < 0
    · rw [if_pos hv]; lia
    · rw [if_neg hv]; exact Nat.min_le_right _ _
theorem clip_eq (v : Int) (n d : Nat) : (if v < 0 then max (v + (n : Int)) 0 else min v (n : Int)) = ((sIx n d (some v) : Nat) : Int) := by
  show (if v < 0 then max (v + (n : Int)) 0 else min v (n : Int)) = (((if v < 0 then (v + (n : Int)).toNat else min v.toNat n) : Nat) : Int)
  by_cases hv : v < 0
  · simp only [if_pos hv]; lia
  · simp only [if_neg hv]; lia
theorem adjust_gen (lo hi : Option Int) (n : Nat) : Builtin.Slice.sliceAdjust lo hi 1 (n : Int) = (((sIx n 0 lo : Nat) : Int), ((sIx n n hi : Nat) : Int)) := by
  have h1 : ¬ ((1 : Int) < 0) := by lia
  unfold Builtin.Slice.sliceAdjust
  simp only [h1, if_false]
  refine Prod.ext ?_ ?_
  · cases lo with
    | none => rfl
    | some v => exact clip_eq v n 0
  · cases hi with
    | none => rfl
    | some v => exact clip_eq v n n
theorem places_gen (i j : Nat) : Builtin.Slice.slicePlaces (i : Int) (j : Int) 1 = j - i := by
  unfold Builtin.Slice.slicePlaces
  have h1 : (1 : Int) > 0 := by lia
  simp only [h1, if_true, Int.ediv_one]
  split <;> lia
theorem slicePart_ {v : Value} {o : Option Int} {Q : Option Int -> Shared -> Prop} (p : IsPart v o) (h : Q o s) : wpAny (model prog w) A (Builtin.Slice.slicePartIndex v) Q E s := by
  cases p with
  | none => exact slicePart_none h
  | int i t => exact slicePart_int h
theorem sliceApplied_gen {sl : Addr} {vl vu : Value} {lo hi : Option Int} {n : Nat} {Q : Int × Int × Nat -> Shared -> Prop} (hs : s.heap.IsSliceOf sl vl vu .none) (pl : IsPart vl lo) (pu : IsPart vu hi)
    (h : Q (((sIx n 0 lo : Nat) : Int), 1, sIx n n hi - sIx n 0 lo) s) : wpAny (model prog w) A (Builtin.Slice.sliceApplied (.ref sl) (pure (n : Int))) Q E s := by
  obtain ⟨os, hos, hcs, hds⟩ := id hs
  unfold Builtin.Slice.sliceApplied Builtin.Slice.sliceFields
  refine wpAny_bind (wpAny_bind (wpAny_field hos hds (x := vl) rfl (wpAny_bind (wpAny_field hos hds (x := vu) rfl (wpAny_bind (wpAny_field hos hds (x := .none) rfl (wpAny_pure ?_)))))))
  refine wpAny_bind (slicePart_none ?_)
  show wpAny _ _ (if ((1 : Int) == 0) = true then _ else _) _ _ s
  rw [if_neg (by decide)]
  refine wpAny_bind (slicePart_ pl (wpAny_bind (slicePart_ pu (wpAny_bind (wpAny_pure ?_)))))
  show wpAny _ _ (match Builtin.Slice.sliceAdjust lo hi 1 (n : Int) with | (lo, hi) => pure (lo, (1 : Int), Builtin.Slice.slicePlaces lo hi 1)) _ _ s
  rw [adjust_gen lo hi n]
  show wpAny _ _ (pure (((sIx n 0 lo : Nat) : Int), (1 : Int), Builtin.Slice.slicePlaces ((sIx n 0 lo : Nat) : Int) ((sIx n n hi : Nat) : Int) 1)) _ _ s
  rw [places_gen]
  exact wpAny_pure h
theorem pick_gen (xs : Array Value) (i k : Nat) : ((List.range k).filterMap fun (m : Nat) => xs[((i : Int) + (m : Int) * 1).toNat]?).toArray = ((xs.toList.drop i).take k).toArray := by
  have e : (fun (m : Nat) => xs[((i : Int) + (m : Int) * 1).toNat]?) = fun m => xs[i + m]? := by
    funext m
    have : ((i : Int) + (m : Int) * 1).toNat = i + m := by lia
    rw [this]
  rw [e]
  have := pick_run xs i k
  rw [List.filterMap_map] at this
  have e2 : ((fun x => xs[x]?) ∘ fun x => i + x) = fun m => xs[i + m]? := rfl
  rw [e2] at this
  rw [this]
theorem getItem_tuple_cut {t sl : Addr} {items : Array Value} {vl vu : Value} {lo hi : Option Int} {Q : Value -> Shared -> Prop} (ht : IsTup s.heap t items) (hs : s.heap.IsSliceOf sl vl vu .none) (pl : IsPart vl lo) (pu : IsPart vu hi)
    (hw : ¬ (sIx items.size 0 lo = 0 /\ sIx items.size items.size hi = items.size))
    (h : Q (.ref s.heap.objs.size) { s with heap := s.heap.push { cls := .type "tuple", data := .seq ((items.toList.drop (sIx items.size 0 lo)).take (sIx items.size items.size hi - sIx items.size 0 lo)).toArray } })
    (hsz : items.size <= sizeLine) : wpAny (model prog w) A (getItem (.ref t) (.ref sl)) Q E s := by
  have htake : sizeOk (.seq ((items.toList.drop (sIx items.size 0 lo)).take (sIx items.size items.size hi - sIx items.size 0 lo)).toArray) := by
    show ((items.toList.drop (sIx items.size 0 lo)).take (sIx items.size items.size hi - sIx items.size 0 lo)).toArray.size <= sizeLine
    rw [List.size_toArray, List.length_take, List.length_drop, Array.length_toList]
    omega
  have hj : sIx items.size items.size hi <= items.size := sIx_le _ _ (Nat.le_refl _) hi
  obtain ⟨os, hos, hcs, hds⟩ := id hs
  have hTs : s.TypeIs (.ref sl) "slice" := ⟨os, hos, hcs⟩
  unfold getItem
  try with_reducible refine wpAny_holding ?_
  first | refine wpAny_bind (wpAny_pure ?_) | skip
  refine wpAny_bind (wpAny_sequenceKey ht.typeIs (by decide) ?_)
  refine wpAny_bind (wpAny_callSpecial?_slot (name := Str.ofString "__getitem__") ht.typeIs PyProof.Rows.slot_tuple_getitem
    (wpAny_call_entry PyProof.Rows.slot_tuple_getitem ht.typeIs entry_tuple_getitem ?_ (args_tuple_getitem _ _)))
  show wpAny _ _ (Builtin.Tuple.tupleItemsOf (.ref t) >>= _) _ _ s
  refine wpAny_bind (tupleItemsOf_ ht ?_)
  refine wpAny_bind (wpAny_typeOf hTs ?_)
  rw [if_pos (by decide)]
  refine wpAny_bind (sliceApplied_gen hs pl pu ?_)
  have hno : ¬ ((((sIx items.size 0 lo : Nat) : Int) == 0 && (1 : Int) == 1 && (sIx items.size items.size hi - sIx items.size 0 lo) == items.size) = true) := by
    intro q
    rw [Bool.and_eq_true, Bool.and_eq_true] at q
    have q1 : ((sIx items.size 0 lo : Nat) : Int) = 0 := eq_of_beq q.1.1
    have q2 : sIx items.size items.size hi - sIx items.size 0 lo = items.size := eq_of_beq q.2
    exact hw ⟨by omega, by omega⟩
  show wpAny _ _ (if (((sIx items.size 0 lo : Nat) : Int) == 0 && (1 : Int) == 1 && (sIx items.size items.size hi - sIx items.size 0 lo) == items.size) = true then _ else _) _ _ s
  rw [if_neg hno, pick_gen]
  first
    | exact wpAny_bind (m := Builtin.Tuple.tupleExact _) (wpAny_newObj_type (wpAny_pure ⟨_, rfl, wpAny_pure h⟩) htake)
    | exact wpAny_bind (m := Builtin.Tuple.tupleExact _) (wpAny_newObj_type (wpAny_bind (wpAny_pure (wpAny_pure ⟨_, rfl, wpAny_pure h⟩))) htake)
    | exact wpAny_bind (wpAny_bind (m := Builtin.Tuple.tupleExact _) (wpAny_newObj_type (wpAny_pure (wpAny_pure ⟨_, rfl, wpAny_pure h⟩)) htake))
    | exact wpAny_bind (wpAny_bind (m := Builtin.Tuple.tupleExact _) (wpAny_newObj_type (wpAny_pure ⟨_, rfl, wpAny_pure h⟩) htake))
end
end HT
namespace L2
open PySem PySem.Spec PyProof.Rows
noncomputable abbrev TO := St -> Hp -> (Option Int -> Hp -> Prop) -> Prop
noncomputable def PO (X : Cx) (e : Option Expr) (t : TO) : Prop :=
  ∀ (pins : List (Addr × Obj)) (s : Shared) (σ : St) (H : Hp) (Q : Option Int -> Hp -> Prop), Inv X pins σ H s -> t σ H Q ->
    wpAny (model X.prog X.w) X.A (evalPart e X.env) (fun u s' => ∃ o H', Inv X pins σ H' s' /\ IsPart u o /\ Q o H') X.xe s
noncomputable def tNoPart : TO := fun _ H Q => Q none H
noncomputable def tPart (t : TE) : TO := fun σ H Q => t σ H fun x H1 => ∃ i, x = .int i /\ Q (some i) H1
theorem intsAre_of {ns : List Int} : ∀ {us : List Value}, Vals (ns.map V.int) us -> IntsAre us ns := by
  induction ns with
  | nil => intro us r; rw [List.map_nil] at r; cases r; exact .nil
  | cons n ns ih =>
    intro us r
    rw [List.map_cons] at r
    cases r with
    | cons r1 r2 =>
      obtain ⟨t, e⟩ := r1
      subst e
      exact .cons n t (ih r2)
section
variable {X : Cx} {e : Expr} {te : TE} {lo hi : Option Expr} {tl th : TO} {pos p2 : Pos}
theorem po_none : PO X none tNoPart := by
  intro pins s σ H Q I h
  rw [evalPart_none]
  exact wpAny_pure ⟨none, H, I, .none, h⟩
theorem po_some (h : PE X e te) : PO X (some e) (tPart te) := by
  intro pins s σ H Q I hw
  rw [evalPart_some]
  refine thn (h pins s σ H _ I hw) fun u s1 ⟨x, H1, I1, r1, q1⟩ => ?_
  obtain ⟨i, rfl, q⟩ := q1
  obtain ⟨t, rfl⟩ := r1
  exact ⟨some i, H1, I1, .int i t, q⟩
noncomputable def SlR (X : Cx) (r : V -> Option Int -> Option Int -> Hp -> VK -> Prop) : Prop :=
  ∀ (pins : List (Addr × Obj)) (s : Shared) (σ : St) (H : Hp) (x : V) (v vl vu : Value) (lo hi : Option Int) (sl : Addr) (Q : VK), Inv X pins σ H s -> RelV x v -> s.heap.IsSliceOf sl vl vu .none -> IsPart vl lo -> IsPart vu hi -> r x lo hi H Q ->
    ∃ T id, typeLookup (.type T) "__getitem__" = pure (some (.builtin id)) /\ s.TypeIs v T /\ wpAny (model X.prog X.w) X.A (getItem v (.ref sl)) (EP X pins σ Q) X.xe s
theorem SlR.or {r r' : V -> Option Int -> Option Int -> Hp -> VK -> Prop} (h : SlR X r) (h' : SlR X r') : SlR X (fun x lo hi H Q => r x lo hi H Q \/ r' x lo hi H Q) := by
  intro pins s σ H x v vl vu lo hi sl Q I rx hs pl pu q
  rcases q with q | q
  · exact h pins s σ H x v vl vu lo hi sl Q I rx hs pl pu q
  · exact h' pins s σ H x v vl vu lo hi sl Q I rx hs pl pu q
noncomputable def tSl (r : V -> Option Int -> Option Int -> Hp -> VK -> Prop) (te : TE) (tl th : TO) : TE := fun σ H Q => te σ H fun x H1 => tl σ H1 fun l H2 => th σ H2 fun u H3 => r x l u H3 Q
theorem pe_slice {r : V -> Option Int -> Option Int -> Hp -> VK -> Prop} (hr : SlR X r) (he : PE X e te) (hl : PO X lo tl) (hu : PO X hi th) : PE X (.Subscript e (.Slice lo hi none p2) pos) (tSl r te tl th) := by
  intro pins s σ H Q I h
  refine Subscript_ (thn (he pins s σ H _ I h) fun v s1 ⟨x, H1, I1, r1, q1⟩ => ?_)
  refine wpAny_Slice (thn (hl pins s1 σ H1 _ I1 q1) fun vl s2 ⟨l, H2, I2, pl, q2⟩ => thn (hu pins s2 σ H2 _ I2 q2) fun vu s3 ⟨u, H3, I3, pu, q3⟩ => ?_)
  rw [evalPart_none]
  refine wpAny_pure ?_
  have I4 : Inv X pins σ H3 { s3 with heap := s3.heap.push { cls := .type "slice", data := .fields #[vl, vu, .none] } } := I3.kept (t' := s3.toks) fun b ob q => Heap.get?_push_of_some _ q
  obtain ⟨T, id, hT, ht, hg⟩ := hr pins { s3 with heap := s3.heap.push { cls := .type "slice", data := .fields #[vl, vu, .none] } } σ H3 x v vl vu l u s3.heap.objs.size Q I4 r1 (Heap.IsSliceOf.new ..) pl pu q3
  show wpAny (model X.prog X.w) X.A (subscriptTail e (.Slice lo hi none p2) v (.ref s3.heap.objs.size)) (EP X pins σ Q) X.xe { s3 with heap := s3.heap.push { cls := .type "slice", data := .fields #[vl, vu, .none] } }
  exact tail_any (ops := [.ref s3.heap.objs.size, v]) ht hT hg (by with_unfolding_all rfl)
noncomputable def cutV (xs : List V) (lo hi : Option Int) : List V := (xs.drop (HT.sIx xs.length 0 lo)).take (HT.sIx xs.length xs.length hi - HT.sIx xs.length 0 lo)
theorem cutV_length (xs : List V) (lo hi : Option Int) : (cutV xs lo hi).length <= xs.length := by
  unfold cutV
  rw [List.length_take, List.length_drop]
  omega
noncomputable def rSlT (K : PySem.W.Frag) : V -> Option Int -> Option Int -> Hp -> VK -> Prop := fun x lo hi H Q => ∃ a xs, x = .ref a /\ SqT K H a xs /\
  ¬ (HT.sIx xs.length 0 lo = 0 /\ HT.sIx xs.length xs.length hi = xs.length) /\ ∀ p, H p = none -> Q (.ref p) (upd H p (.tup (cutV xs lo hi)))
theorem sl_tup : SlR X (rSlT X.K) := by
  intro pins s σ H x v vl vu lo hi sl Q I rx hs pl pu h
  obtain ⟨a, xs, rfl, hx, hw, q⟩ := h
  cases rx
  obtain ⟨its, r, ht, hz⟩ := I.tuple hx
  have hlen : its.toArray.size = xs.length := by rw [List.size_toArray]; exact r.length.symm
  refine ⟨"tuple", _, PyProof.Rows.slot_tuple_getitem.lookup, ht.typeIs, ?_⟩
  refine HT.getItem_tuple_cut ht hs pl pu (by rw [hlen]; exact hw) ?_ (by rw [hlen]; exact hz)
  rw [hlen]
  refine ⟨.ref s.heap.objs.size, _, I.laid (t' := s.toks) (o := .tup (cutV xs lo hi)) (fun b ob q => Heap.get?_push_of_some _ q) (Nat.le_refl _) ?_, rfl, q _ (I.hok.fresh (Nat.le_refl _))⟩
  exact ⟨Nat.le_trans (cutV_length xs lo hi) hz, _, (r.drop (HT.sIx xs.length 0 lo)).take (HT.sIx xs.length xs.length hi - HT.sIx xs.length 0 lo), TupN.new _ _⟩
noncomputable def rCatT (K : PySem.W.Frag) : R2 := fun x y H Q => ∃ a b xs ys, x = .ref a /\ y = .ref b /\ SqT K H a xs /\ SqT K H b ys /\ xs ≠ [] /\ xs.length + ys.length <= sizeLine /\
  (ys = [] -> Q (.ref a) H) /\ (ys ≠ [] -> ∀ p, H p = none -> Q (.ref p) (upd H p (.tup (xs ++ ys))))
theorem Vals.nil_iff {xs : List V} {us : List Value} (r : Vals xs us) : us = [] ↔ xs = [] := by
  cases r with
  | nil => simp
  | cons _ _ => simp
theorem op_catT : OpR X (binaryOp .Add) (rCatT X.K) := by
  intro pins s σ H x y v u Q I rx ry h
  obtain ⟨a, b, xs, ys, rfl, rfl, ha, hb, hx, hz, q1, q2⟩ := h
  cases rx
  cases ry
  obtain ⟨its, r1, p1, _⟩ := I.tuple ha
  obtain ⟨its2, r2, p2, _⟩ := I.tuple hb
  refine HT.cat_tup p1 p2 (fun z => hx (r1.nil_iff.mp z)) (fun z => ⟨.ref a, H, I, rfl, q1 (r2.nil_iff.mp z)⟩) (fun z => ?_) (by rw [<- r1.length, <- r2.length]; exact hz)
  refine ⟨.ref s.heap.objs.size, _, I.laid (t' := s.toks) (o := .tup (xs ++ ys)) (fun b ob q => Heap.get?_push_of_some _ q) (Nat.le_refl _) ?_, rfl, q2 (fun w => z (r2.nil_iff.mpr w)) _ (I.hok.fresh (Nat.le_refl _))⟩
  exact ⟨by rw [List.length_append]; exact hz, _, r1.append r2, TupN.new _ _⟩
end
end L2
namespace L2
open PySem PySem.Spec PyProof.Rows
noncomputable def ixN (n : Nat) (i : Int) : Option Nat := if 0 <= i then (if i < n then some i.toNat else none) else if -(n : Int) <= i then some (i + n).toNat else none
noncomputable def atI {α : Type} (xs : List α) (i : Int) : Option α := (ixN xs.length i).bind fun j => xs[j]?
theorem ixN_seq {n : Nat} {i : Int} {j : Nat} (h : ixN n i = some j) : seqIndex? i n = some j /\ j < n /\ -(n : Int) <= i /\ i < n := by
  unfold ixN at h
  by_cases h0 : 0 <= i
  · rw [if_pos h0] at h
    by_cases h1 : i < n
    · rw [if_pos h1] at h
      have e : i.toNat = j := Option.some.inj h
      exact ⟨by rw [seqIndex_of h0 h1, e], by lia, by lia, h1⟩
    · rw [if_neg h1] at h; cases h
  · rw [if_neg h0] at h
    by_cases h1 : -(n : Int) <= i
    · rw [if_pos h1] at h
      have e : (i + n).toNat = j := Option.some.inj h
      exact ⟨by rw [seqIndex_neg (by lia) h1, e], by lia, h1, by lia⟩
    · rw [if_neg h1] at h; cases h
theorem atI_get {α : Type} {xs : List α} {i : Int} {v : α} (h : atI xs i = some v) : ∃ j, seqIndex? i xs.length = some j /\ xs[j]? = some v /\ j < xs.length /\ -(xs.length : Int) <= i /\ i < xs.length := by
  unfold atI at h
  cases e : ixN xs.length i with
  | none => rw [e] at h; cases h
  | some j =>
    rw [e] at h
    obtain ⟨h1, h2, h3, h4⟩ := ixN_seq e
    exact ⟨j, h1, h, h2, h3, h4⟩
theorem atI_nat {α : Type} {xs : List α} {j : Nat} {v : α} (h : xs[j]? = some v) : atI xs (j : Int) = some v := by
  have hj : j < xs.length := (List.getElem?_eq_some_iff.mp h).1
  have e : ixN xs.length (j : Int) = some j := by
    unfold ixN
    rw [if_pos (by lia), if_pos (by lia)]; simp
  unfold atI; rw [e]; exact h
noncomputable def PlainIx (b : Expr) : Prop := ∀ o i, subscripted b false o i = operate [o, i] (getItem o i)
noncomputable def IxR (X : Cx) (r : R2) : Prop :=
  ∀ (value slice : Expr) (pins : List (Addr × Obj)) (s : Shared) (σ : St) (H : Hp) (x y : V) (v u : Value) (Q : VK), Inv X pins σ H s -> RelV x v -> RelV y u -> r x y H Q ->
    subscripted slice false v u = operate [v, u] (getItem v u) -> wpAny (model X.prog X.w) X.A (subscriptTail value slice v u) (EP X pins σ Q) X.xe s
noncomputable def MtR (X : Cx) (id : String) (r : V -> List V -> Hp -> VK -> Prop) : Prop :=
  ∀ (pins : List (Addr × Obj)) (s : Shared) (σ : St) (H : Hp) (x : V) (xs : List V) (v : Value) (us : List Value) (Q : VK), Inv X pins σ H s -> RelV x v -> Vals xs us -> r x xs H Q ->
    wpAny (model X.prog X.w) X.A (call (.builtin id) (v :: us)) (EP X pins σ Q) X.xe s
section
variable {X : Cx} {a b : Expr} {ta tb : TE} {pos : Pos}
theorem IxR.or {r r' : R2} (h : IxR X r) (h' : IxR X r') : IxR X (fun x y H Q => r x y H Q \/ r' x y H Q) := by
  intro value slice pins s σ H x y v u Q I rx ry q hs
  rcases q with q | q
  · exact h value slice pins s σ H x y v u Q I rx ry q hs
  · exact h' value slice pins s σ H x y v u Q I rx ry q hs
theorem pe_ix {r : R2} (hr : IxR X r) (ha : PE X a ta) (hb : PE X b tb) (hs : PlainIx b) : PE X (.Subscript a b pos) (tOp r ta tb) := by
  intro pins s σ H Q I h
  exact Subscript_ (binT ha hb I h fun v u s2 x y H2 I2 rx ry q => hr a b pins s2 σ H2 x y v u Q I2 rx ry q (hs _ _))
noncomputable def rIxL (K : PySem.W.Frag) : R2 := fun x y H Q => ∃ p xs i v, x = .ref p /\ y = .int i /\ SqL K H p xs /\ atI xs i = some v /\ Q v H
noncomputable def rIxT (K : PySem.W.Frag) : R2 := fun x y H Q => ∃ p xs i v, x = .ref p /\ y = .int i /\ SqT K H p xs /\ atI xs i = some v /\ Q v H
noncomputable def rIxS : R2 := fun x y H Q => ∃ z i c, x = .str z /\ y = .int i /\ z.length <= sizeLine /\ atI z.cps.toList i = some c /\ Q (.str ⟨#[c]⟩) H
theorem ix_list : IxR X (rIxL X.K) := by
  intro value slice pins s σ H x y v u Q I rx ry h hs
  obtain ⟨p, xs, i, z, rfl, rfl, hq, he, q⟩ := h
  cases rx
  obtain ⟨t, rfl⟩ := ry
  obtain ⟨its, r, pl, hz⟩ := I.list hq
  obtain ⟨j, h1, h2, h3, h4, h5⟩ := atI_get he
  obtain ⟨w, ew, rw'⟩ := r.get h2
  have hl := r.length
  have hn := line63
  have fin : EP X pins σ Q w s := ⟨z, H, I, rw', q⟩
  by_cases h0 : 0 <= i
  · have hj : i.toNat = j := by
      rw [seqIndex_of h0 h5] at h1
      exact Option.some.inj h1
    exact item_listR pl.isList h0 (by lia) (by rw [hj]; simpa using ew) fin hs
  · have hj : (i + (its.toArray.size : Int)).toNat = j := by
      rw [seqIndex_neg (by lia) h4] at h1
      rw [List.size_toArray, <- hl]
      exact Option.some.inj h1
    exact subscriptTail_builtinR (x := w) pl.isList.typeIs slot_list_getitem.lookup
      (wpAny_getItem_list_neg (Q := fun r s' => r = w /\ EP X pins σ Q r s') pl.isList (by lia) (by rw [List.size_toArray] <;> lia) (by lia) (by rw [hj]; simpa using ew) ⟨rfl, fin⟩) hs
theorem ix_tup : IxR X (rIxT X.K) := by
  intro value slice pins s σ H x y v u Q I rx ry h hs
  obtain ⟨p, xs, i, z, rfl, rfl, hq, he, q⟩ := h
  cases rx
  obtain ⟨t, rfl⟩ := ry
  obtain ⟨its, r, pl, hz⟩ := I.tuple hq
  obtain ⟨j, h1, h2, h3, h4, h5⟩ := atI_get he
  obtain ⟨w, ew, rw'⟩ := r.get h2
  have hl := r.length
  have hn := line63
  have fin : EP X pins σ Q w s := ⟨z, H, I, rw', q⟩
  exact subscriptTail_builtinR (x := w) pl.typeIs slot_tuple_getitem.lookup
    (getItem_tuple (j := j) (Q := fun r s' => r = w /\ EP X pins σ Q r s') pl (by lia) (by lia) (by rw [List.size_toArray, <- hl]; exact h1) (by simpa using ew) ⟨rfl, fin⟩) hs
theorem ix_str : IxR X rIxS := by
  intro value slice pins s σ H x y v u Q I rx ry h hs
  obtain ⟨z, i, c, rfl, rfl, hz, he, q⟩ := h
  obtain ⟨t, rfl⟩ := rx
  obtain ⟨t', rfl⟩ := ry
  obtain ⟨j, h1, h2, h3, h4, h5⟩ := atI_get he
  have hl : z.cps.toList.length = z.length := by simp [Str.length]
  rw [hl] at h1 h4 h5
  have hn := line63
  exact tail_any (typeIs_str s z t) slot_str_getitem.lookup (getItem_str (c := c) (by
    have e1 : decide (i < -(2 ^ 63 : Int)) = false := decide_eq_false (by lia)
    have e2 : decide (i >= 2 ^ 63) = false := decide_eq_false (by lia)
    rw [e1, e2, Bool.or_false]) (by rw [h1]; simpa using h2) ⟨.str ⟨#[c]⟩, H, I.tok _, ⟨_, rfl⟩, q⟩) hs
noncomputable def rIx (K : PySem.W.Frag) : R2 := fun x y H Q => rIxL K x y H Q \/ rIxT K x y H Q \/ rIxS x y H Q
theorem ix_seq : IxR X (rIx X.K) := ix_list.or (ix_tup.or ix_str)
theorem mapSeq_set (its : List Value) (n j : Nat) (u : Value) : Obj.mapSeq (·.setIfInBounds j u) { cls := .type "list", data := .seq its.toArray n } = { cls := .type "list", data := .seq (its.set j u).toArray n } := by
  simp [Obj.mapSeq]
theorem Inv.lst {pins : List (Addr × Obj)} {σ : St} {H : Hp} {s : Shared} {p : Addr} {xs : List V} (I : Inv X pins σ H s) (h : H p = some (.lst xs)) :
    ∃ (its : List Value) (n : Nat), Vals xs its /\ s.heap.get? p = some { cls := .type "list", data := .seq its.toArray n } /\ xs.length <= sizeLine := by
  obtain ⟨z, its, n, r, e⟩ := I.hok p _ h
  exact ⟨its, n, r, e, z⟩
theorem Inv.lstUpd {pins : List (Addr × Obj)} {σ : St} {H : Hp} {s : Shared} {p : Addr} {xs ys : List V} {its its' : List Value} {n n' : Nat} {f : Obj -> Obj} (I : Inv X pins σ H s) (h : H p = some (.lst xs))
    (ho : s.heap.get? p = some { cls := .type "list", data := .seq its.toArray n }) (hf : f { cls := .type "list", data := .seq its.toArray n } = { cls := .type "list", data := .seq its'.toArray n' }) (r : Vals ys its') (hz : ys.length <= sizeLine) (t : Nat) :
    Inv X pins σ (upd H p (.lst ys)) { s with heap := s.heap.update p f, toks := t } := by
  have e : (s.heap.update p f).get? p = some { cls := .type "list", data := .seq its'.toArray n' } := by
    rw [Heap.get?_update_self f ho (by rw [hf] <;> rfl), hf]
  refine I.write (x := p) (e := p) (by rw [h]; trivial) (.inl rfl) (fun b u hb q => (Heap.get?_update_other _ _ (Ne.symm hb)).trans q) ⟨_, e⟩ ?_
  exact ⟨hz, its', n', r, e⟩
noncomputable def rSetL : V -> V -> V -> Hp -> (Hp -> Prop) -> Prop := fun o i v H Q => ∃ p xs k j, o = .ref p /\ i = .int k /\ H p = some (.lst xs) /\ ixN xs.length k = some j /\ Q (upd H p (.lst (xs.set j v)))
theorem set_list : PSet X rSetL := by
  intro pins s σ H o i v ov iv u Q I ro ri rv h
  obtain ⟨p, xs, k, j, rfl, rfl, hp, hj, q⟩ := h
  cases ro
  obtain ⟨t, rfl⟩ := ri
  obtain ⟨its, n, r, ho, hz⟩ := I.lst hp
  obtain ⟨h1, h2, h3, h4⟩ := ixN_seq hj
  have hl := r.length
  have hn := line63
  have I' : Inv X pins σ (upd H p (.lst (xs.set j v))) { s with heap := s.heap.update p (Obj.mapSeq (·.setIfInBounds j u)) } :=
    I.lstUpd hp ho (mapSeq_set its n j u) (r.set rv j) (by rw [List.length_set]; exact hz) s.toks
  by_cases h0 : 0 <= k
  · have hk : k.toNat = j := by
      rw [seqIndex_of h0 h4] at h1
      exact Option.some.inj h1
    exact PySem.W.ki_setAt ho h0 (by lia) (by rw [List.size_toArray, <- hl]; exact h4) (by rw [hk]; exact ⟨_, I', q⟩)
  · have hk : (k + (its.toArray.size : Int)).toNat = j := by
      rw [seqIndex_neg (by lia) h3] at h1
      rw [List.size_toArray, <- hl]
      exact Option.some.inj h1
    exact PySem.W.ki_setBack ho (by lia) (by rw [List.size_toArray, <- hl]; exact h3) (by lia) (by rw [hk]; exact ⟨_, I', q⟩)
theorem slice_bounds (lo hi : Option Int) (n : Nat) : (sliceBounds lo hi none n).1 = ((HT.sIx n 0 lo : Nat) : Int) /\ (sliceBounds lo hi none n).2.1 = ((HT.sIx n n hi : Nat) : Int) /\ (sliceBounds lo hi none n).2.2 = 1 := by
  refine ⟨?_, ?_, rfl⟩
  · cases lo with
    | none => simp [sliceBounds, HT.sIx]
    | some i =>
      simp only [sliceBounds, HT.sIx, Option.getD_none, show (1 : Int) > 0 by decide, if_true]
      by_cases h : i < 0
      · simp only [h, if_true] <;> lia
      · simp only [h, if_false] <;> lia
  · cases hi with
    | none => simp [sliceBounds, HT.sIx]
    | some i =>
      simp only [sliceBounds, HT.sIx, Option.getD_none, show (1 : Int) > 0 by decide, if_true]
      by_cases h : i < 0
      · simp only [h, if_true] <;> lia
      · simp only [h, if_false] <;> lia
theorem slicePick_cut (its : List Value) (lo hi : Option Int) : slicePick its.toArray lo hi none = ((its.drop (HT.sIx its.length 0 lo)).take (HT.sIx its.length its.length hi - HT.sIx its.length 0 lo)).toArray := by
  obtain ⟨h1, h2, h3⟩ := slice_bounds lo hi its.toArray.size
  unfold slicePick
  rw [h1, h2, h3]
  simp only [sliceRange_one, pick_run, List.size_toArray] <;> rfl
noncomputable def rSlL (K : PySem.W.Frag) : V -> Option Int -> Option Int -> Hp -> VK -> Prop := fun x lo hi H Q => ∃ a xs, x = .ref a /\ SqL K H a xs /\ ∀ p, H p = none -> Q (.ref p) (upd H p (.lst (cutV xs lo hi)))
theorem sl_list : SlR X (rSlL X.K) := by
  intro pins s σ H x v vl vu lo hi sl Q I rx hs pl pu h
  obtain ⟨a, xs, rfl, hx, q⟩ := h
  cases rx
  obtain ⟨its, r, ht, hz⟩ := I.list hx
  have hlen := r.length
  refine ⟨"list", _, slot_list_getitem.lookup, ht.isList.typeIs, ?_⟩
  refine wpAny_getItem_list_slice ht.isList hs pl pu .none (by simp) ?_ (by rw [List.size_toArray] <;> lia)
  rw [slicePick_cut, <- hlen]
  refine ⟨.ref s.heap.objs.size, _, I.laid (t' := s.toks) (o := .lst (cutV xs lo hi)) (fun b ob q => Heap.get?_push_of_some _ q) (Nat.le_refl _) ?_, rfl, q _ (I.hok.fresh (Nat.le_refl _))⟩
  exact ⟨Nat.le_trans (cutV_length xs lo hi) hz, _, 0, (r.drop (HT.sIx xs.length 0 lo)).take (HT.sIx xs.length xs.length hi - HT.sIx xs.length 0 lo), Heap.get?_push_size _ rfl⟩
theorem call_len_seq : CallR X (.builtin "len") (fun xs H Q => ∃ p ys, xs = [.ref p] /\ (SqL X.K H p ys \/ SqT X.K H p ys) /\ Q (.int ys.length) H) := by
  intro pins s σ H xs us Q I r h
  obtain ⟨p, ys, rfl, hq, q⟩ := h
  obtain ⟨u, rfl, rx⟩ := vals1 r
  cases rx
  have hn := line63
  rcases hq with hq | hq
  · obtain ⟨its, r', pl, hz⟩ := I.list hq
    have hlen := r'.length
    exact Calls.call_len_list pl.isList (by simp only [List.size_toArray] <;> lia) ⟨.int ys.length, H, I.tok _, ⟨s.toks + 1, by rw [List.size_toArray, hlen]⟩, q⟩
  · obtain ⟨its, r', pl, hz⟩ := I.tuple hq
    have hlen := r'.length
    exact len_tuple pl (by simp only [List.size_toArray] <;> lia) ⟨.int ys.length, H, I.tok _, ⟨s.toks + 1, by rw [List.size_toArray, hlen]⟩, q⟩
theorem call_len_str : CallR X (.builtin "len") (fun xs H Q => ∃ z, xs = [.str z] /\ z.length <= sizeLine /\ Q (.int z.length) H) := by
  intro pins s σ H xs us Q I r h
  obtain ⟨z, rfl, hz, q⟩ := h
  obtain ⟨u, rfl, t, rfl⟩ := vals1 r
  have hn := line63
  exact len_str (by lia) ⟨.int z.length, H, I.tok _, ⟨_, rfl⟩, q⟩
theorem CallR.or {f : Value} {r r' : List V -> Hp -> VK -> Prop} (h : CallR X f r) (h' : CallR X f r') : CallR X f (fun xs H Q => r xs H Q \/ r' xs H Q) := by
  intro pins s σ H xs us Q I rs q
  rcases q with q | q
  · exact h pins s σ H xs us Q I rs q
  · exact h' pins s σ H xs us Q I rs q
theorem call_list_of : CallR X (.type "list") (fun xs H Q => ∃ p ys, xs = [.ref p] /\ (SqL X.K H p ys \/ SqT X.K H p ys) /\ ∀ l, H l = none -> Q (.ref l) (upd H l (.lst ys))) := by
  intro pins s σ H xs us Q I r h
  obtain ⟨p, ys, rfl, hq, q⟩ := h
  obtain ⟨u, rfl, rx⟩ := vals1 r
  cases rx
  have fin : ∀ (its : List Value), Vals ys its -> ys.length <= sizeLine -> ∀ (h' : Heap) (c' : Nat), (∀ b o', s.heap.get? b = some o' -> h'.get? b = some o') ->
      h'.get? s.heap.objs.size = some { cls := .type "list", dict := none, data := .seq its.toArray c', slots := #[] } -> EP X pins σ Q (.ref s.heap.objs.size) { s with heap := h' } := fun its r' hz h' c' kp e =>
    ⟨.ref s.heap.objs.size, _, I.laid (t' := s.toks) kp (Nat.le_refl _) (show ObjOk X.prog X.w _ h' _ (.lst ys) from ⟨hz, its, c', r', e⟩), rfl, q _ (I.hok.fresh (Nat.le_refl _))⟩
  rcases hq with hq | hq
  · obtain ⟨its, r', pl, hz⟩ := I.list hq
    have hlen := r'.length
    obtain ⟨o, ho, hc, n, hd⟩ := pl.isList
    exact call_list_seq p (.inl rfl) ho hc hd (fun h' c' kp e => fin its r' hz h' c' kp e) (by simp only [List.size_toArray] <;> lia)
  · obtain ⟨its, r', pl, hz⟩ := I.tuple hq
    have hlen := r'.length
    obtain ⟨o, ho, hc, n, hd⟩ := pl
    exact call_list_seq p (.inr rfl) ho hc hd (fun h' c' kp e => fin its r' hz h' c' kp e) (by simp only [List.size_toArray] <;> lia)
theorem call_tuple_of : CallR X (.type "tuple") (fun xs H Q => ∃ p ys, xs = [.ref p] /\ ((SqL X.K H p ys /\ ∀ l, H l = none -> Q (.ref l) (upd H l (.tup ys))) \/ (SqT X.K H p ys /\ Q (.ref p) H))) := by
  intro pins s σ H xs us Q I r h
  obtain ⟨p, ys, rfl, h⟩ := h
  obtain ⟨u, rfl, rx⟩ := vals1 r
  cases rx
  rcases h with ⟨hq, q⟩ | ⟨hq, q⟩
  · obtain ⟨its, r', pl, hz⟩ := I.list hq
    have hlen := r'.length
    refine call_tuple_list pl.isList (fun h' kp => ?_) (by simp only [List.size_toArray] <;> lia)
    have I1 : Inv X pins σ H { s with heap := h' } := I.kept (t' := s.toks) kp
    have I2 : Inv X pins σ (upd H h'.objs.size (.tup ys)) { s with heap := h'.push { cls := .type "tuple", data := .seq its.toArray } } :=
      I1.laid (t' := s.toks) (fun b o e => Heap.get?_push_of_some _ e) (Nat.le_refl _) (show ObjOk X.prog X.w _ _ _ (.tup ys) from ⟨hz, its, r', TupN.new _ _⟩)
    exact ⟨.ref h'.objs.size, _, I2, rfl, q _ (I1.hok.fresh (Nat.le_refl _))⟩
  · obtain ⟨its, r', pl, hz⟩ := I.tuple hq
    exact call_tuple_same pl ⟨.ref p, H, I, rfl, q⟩
noncomputable def tyV (K : PySem.W.Frag) (T : String) (x : V) (H : Hp) : Prop := match x with
  | .str _ => T = "str"
  | .int _ => T = "int"
  | .ref p => (T = "list" /\ ∃ xs, SqL K H p xs) \/ (T = "tuple" /\ ∃ o, K.lookup p = some o /\ o.cls = .type "tuple" /\ o.dict = none) \/
      (T = "dict" /\ ((∃ kvs, H p = some (.dK kvs)) \/ ∃ kvs, H p = some (.dT kvs))) \/ (T = "set" /\ ∃ S n, H p = some (.set S n))
  | _ => False
theorem tyV_is {pins : List (Addr × Obj)} {σ : St} {H : Hp} {s : Shared} {T : String} {x : V} {v : Value} (I : Inv X pins σ H s) (r : RelV x v) (ty : tyV X.K T x H) :
    s.TypeIs v T /\ ∀ a, v = .ref a -> ∃ ob, s.heap.get? a = some ob /\ ob.dict = none := by
  cases x with
  | str z =>
    obtain ⟨t, rfl⟩ := r
    cases (show T = "str" from ty)
    exact ⟨typeIs_str s z t, fun _ e => nomatch e⟩
  | int i =>
    obtain ⟨t, rfl⟩ := r
    cases (show T = "int" from ty)
    exact ⟨typeIs_int s i t, fun _ e => nomatch e⟩
  | ref p =>
    cases r
    rcases ty with ⟨rfl, xs, hq⟩ | ⟨rfl, o, hk, hc, hd⟩ | ⟨rfl, hk⟩ | ⟨rfl, S, n, hk⟩
    · obtain ⟨its, _, pl, _⟩ := I.list hq
      refine ⟨pl.isList.typeIs, fun a e => ?_⟩
      cases e
      obtain ⟨o, n, e, c, hd, _⟩ := pl
      exact ⟨o, e, hd⟩
    · refine ⟨⟨o, I.kIn p o hk, hc⟩, fun a e => ?_⟩
      cases e
      exact ⟨o, I.kIn _ o hk, hd⟩
    · have z : ∃ o, s.heap.get? p = some o /\ o.ExactDict := by
        rcases hk with ⟨kvs, hk⟩ | ⟨kvs, hk⟩
        · obtain ⟨_, _, _, _, o, _, _, e, ex, _⟩ := I.hok p _ hk
          exact ⟨o, e, ex⟩
        · obtain ⟨_, _, _, _, o, _, _, e, ex, _⟩ := I.hok p _ hk
          exact ⟨o, e, ex⟩
      obtain ⟨o, e, ex⟩ := z
      refine ⟨⟨o, e, ex.1⟩, fun a e2 => ?_⟩
      cases e2
      exact ⟨o, e, ex.2.1⟩
    · obtain ⟨o, _, _, _, e, ex, _⟩ := I.hok p _ hk
      refine ⟨⟨o, e, ex.1⟩, fun a e2 => ?_⟩
      cases e2
      exact ⟨o, e, ex.2.1⟩
  | _ => exact False.elim ty
noncomputable def tBM0 (K : PySem.W.Frag) (T : String) (r : V -> List V -> Hp -> VK -> Prop) (to : TE) : TE := fun σ H Q => to σ H fun x H1 => tyV K T x H1 /\ r x [] H1 Q
noncomputable def tBM (K : PySem.W.Frag) (T : String) (r : V -> List V -> Hp -> VK -> Prop) (to : TE) (t : TA) : TE := fun σ H Q => to σ H fun x H1 => tyV K T x H1 /\ t σ H1 fun xs H2 => r x xs H2 Q
variable {o e : Expr} {es : List Expr} {to : TE} {t : TA} {name : Str} {apos cpos : Pos} {T id : String} {r : V -> List V -> Hp -> VK -> Prop}
theorem pe_bm0 (pa : PlainAttrs T) (slot : Slot T name id) (hty : typeOf (.builtin id) = pure (.type "method_descriptor")) (hm : MtR X id r) (ho : PE X o to)
    (hbase : autoParam (attributeBase o name X.env (eval o X.env) = eval o X.env) L2.au3._auto_1) (hline : autoParam ((apos.endLine == cpos.line) = true) L2.au3._auto_1) : PE X (.Call (.Attribute o name apos) [] [] cpos) (tBM0 X.K T r to) := by
  intro pins s σ H Q I h
  refine wpAny_Call_method0_late hbase hline (thn (ho pins s σ H _ I h) fun v s1 ⟨x, H1, I1, r1, ty, q1⟩ => ?_)
  obtain ⟨h1, h2⟩ := tyV_is I1 r1 ty
  exact ⟨T, id, pa, slot, hty, h1, h2, Calls.callWith_builtin rfl (PySem.evalArgs_none (hm pins s1 σ H1 x [] v [] Q I1 r1 .nil q1))⟩
theorem pe_bm (pa : PlainAttrs T) (slot : Slot T name id) (hty : typeOf (.builtin id) = pure (.type "method_descriptor")) (hm : MtR X id r) (ho : PE X o to) (ha : PA X (e :: es) t)
    (hbase : autoParam (attributeBase o name X.env (eval o X.env) = eval o X.env) L2.au3._auto_1)
    (hfew : autoParam (((backTo cpos (starEach (e :: es) X.env)).all (fun x => !x.1) && (backToKw cpos (keywordEach [] X.env)).all (fun x => x.1.isSome)
      && decide ((e :: es).length + ([] : List Keyword).length + (if ([] : List Keyword).isEmpty then 0 else 1) < 30)) = true) L2.au3._auto_1)
    (hline : autoParam ((apos.endLine == cpos.line) = true) L2.au3._auto_1) (hs : autoParam (starEach (e :: es) X.env = (false, eval e X.env) :: starEach es X.env) L2.au3._auto_1) (hplain : autoParam ((backTo cpos (starEach es X.env)).any (·.1) = false) L2.au3._auto_1) :
    PE X (.Call (.Attribute o name apos) (e :: es) [] cpos) (tBM X.K T r to t) := by
  intro pins s σ H Q I h
  refine wpAny_Call_method_late hbase hfew hline rfl (thn (ho pins s σ H _ I h) fun v s1 ⟨x, H1, I1, r1, ty, q1⟩ => ?_)
  obtain ⟨h1, h2⟩ := tyV_is I1 r1 ty
  refine ⟨T, id, pa, slot, hty, h1, h2, ?_⟩
  have hA := ha cpos pins s1 σ H1 _ I1 q1
  rw [hs] at hA ⊢
  refine Calls.callWith_builtin (by show (false || (backTo cpos (starEach es X.env)).any (·.1)) = false; rw [hplain] <;> rfl) (Calls.evalArgs_plain ?_)
  exact thn hA fun us s2 ⟨vs, H2, I2, r2, q2⟩ => hm pins s2 σ H2 x vs v us Q I2 r1 r2 q2
end
end L2
namespace L2
open PySem PySem.Spec PyProof.Rows
noncomputable def MtM (X : Cx) (id : String) (r : V -> List V -> Hp -> VK -> Prop) : Prop :=
  ∀ (pins : List (Addr × Obj)) (s : Shared) (σ : St) (H : Hp) (x : V) (xs : List V) (v : Value) (us : List Value) (Q : VK), Inv X pins σ H s -> RelV x v -> Vals xs us -> r x xs H Q ->
    wpAny (model X.prog X.w) X.A (call (.builtin id) (v :: us)) (EP X pins σ Q) X.xe s
theorem Vals.one : ∀ {x : V} {us : List Value}, Vals [x] us -> ∃ u, us = [u] /\ RelV x u
  | _, _, .cons r .nil => ⟨_, rfl, r⟩
theorem Vals.eraseIdx : ∀ {xs : List V} {us : List Value} (i : Nat), Vals xs us -> Vals (xs.eraseIdx i) (us.eraseIdx i)
  | _, _, _, .nil => .nil
  | _, _, 0, .cons _ t => t
  | _, _, i + 1, .cons r t => .cons r (Vals.eraseIdx i t)
theorem Vals.rep {xs : List V} {us : List Value} (h : Vals xs us) : ∀ k : Nat, Vals (List.replicate k xs).flatten (List.replicate k us).flatten
  | 0 => .nil
  | k + 1 => by
    rw [List.replicate_succ, List.replicate_succ, List.flatten_cons, List.flatten_cons]
    exact Vals.append h (Vals.rep h k)
theorem len_erase {α : Type} : ∀ (l : List α) (i : Nat), (l.eraseIdx i).length <= l.length
  | [], _ => Nat.le_refl _
  | _ :: _, 0 => Nat.le_succ _
  | _ :: r, i + 1 => Nat.succ_le_succ (len_erase r i)
theorem foldl_rep (its : List Value) : ∀ (k : Nat) (acc : List Value),
    List.foldl (fun x1 x2 => x1 ++ x2) acc.toArray (List.replicate k its.toArray) = (acc ++ (List.replicate k its).flatten).toArray
  | 0, acc => by simp
  | k + 1, acc => by
    have e : acc.toArray ++ its.toArray = (acc ++ its).toArray := by simp
    have e2 : (acc ++ its) ++ (List.replicate k its).flatten = acc ++ (List.replicate (k + 1) its).flatten := by
      rw [List.replicate_succ, List.flatten_cons, List.append_assoc]
    rw [<- e2, <- foldl_rep its k (acc ++ its), <- e, List.replicate_succ, List.foldl_cons]
section
variable {X : Cx} {pins : List (Addr × Obj)} {σ : St} {H : Hp} {s : Shared} {l b : Addr} {xs ys zs : List V}
theorem Inv.lset {its its' : List Value} {n : Nat} {f : Array Value -> Array Value} {t' : Nat} (I : Inv X pins σ H s) (hH : H l = some (.lst xs))
    (e : s.heap.get? l = some { cls := .type "list", data := .seq its.toArray n }) (hf : f its.toArray = its'.toArray) (hv : Vals ys its') (hz : ys.length <= sizeLine) :
    Inv X pins σ (upd H l (.lst ys)) { s with heap := s.heap.update l (Obj.mapSeq f), toks := t' } := by
  have q := PySem.IsL.update e f
  rw [hf] at q
  refine I.write (x := l) (e := l) (by rw [hH]; exact trivial) (.inl rfl) (fun b' u hb hu => (Heap.get?_update_other s.heap (Obj.mapSeq f) (Ne.symm hb)).trans hu) ⟨_, q⟩ ?_
  exact ⟨hz, its', _, hv, q⟩
theorem Inv.lnew {its : List Value} {t' : Nat} (I : Inv X pins σ H s) (hv : Vals ys its) (hz : ys.length <= sizeLine) :
    Inv X pins σ (upd H s.heap.objs.size (.lst ys)) { s with heap := s.heap.push { cls := .type "list", data := .seq its.toArray }, toks := t' } :=
  I.laid (fun _ _ q => Heap.get?_push_of_some _ q) (Nat.le_refl _) ⟨hz, its, 0, hv, Heap.get?_push_size _ rfl⟩
theorem Inv.fresh (I : Inv X pins σ H s) : H s.heap.objs.size = none := I.hok.fresh (Nat.le_refl _)
theorem Inv.lstM (I : Inv X pins σ H s) (hH : H l = some (.lst xs)) : xs.length <= sizeLine /\ ∃ (its : List Value) (n : Nat), Vals xs its /\ xs.length = its.length /\ s.heap.get? l = some { cls := .type "list", data := .seq its.toArray n } := by
  obtain ⟨z, its, n, r, e⟩ := I.hok l _ hH
  exact ⟨z, its, n, r, r.length, e⟩
theorem notLongL {n : Nat} (h : n <= sizeLine) : Builtin.List.listTooLong n = false := by
  unfold Builtin.List.listTooLong
  exact decide_eq_false (by lia)
end
section
variable {X : Cx}
noncomputable def rAppend : V -> List V -> Hp -> VK -> Prop := fun x vs H Q => ∃ l xs y, x = .ref l /\ vs = [y] /\ H l = some (.lst xs) /\ xs.length < sizeLine /\ Q .non (upd H l (.lst (xs ++ [y])))
theorem mt_append : MtM X "list.append" rAppend := by
  intro pins s σ H x vs v us Q I rx rv h
  obtain ⟨l, xs, y, rfl, rfl, hH, hz, q⟩ := h
  cases rx
  obtain ⟨u, rfl, ru⟩ := rv.one
  obtain ⟨z, its, n, r, hl, e⟩ := I.lstM hH
  refine call_meets F.slot_list_append ⟨_, e, rfl⟩ F.entry_list_append (F.args_list_append_2 _ _) (PySem.list_append l its.toArray n u (by rw [List.size_toArray]; lia)) ⟨e, ?_⟩
  refine ⟨.non, _, I.lset (its' := its ++ [u]) hH e (by simp) (r.append (.cons ru .nil)) ?_, rfl, q⟩
  rw [List.length_append, List.length_singleton]
  lia
noncomputable def rPopAt : V -> List V -> Hp -> VK -> Prop := fun x vs H Q => ∃ l xs i k y, x = .ref l /\ vs = [.int i] /\ H l = some (.lst xs) /\ -(2 ^ 63) <= i /\ i < 2 ^ 63 /\ seqIndex? i xs.length = some k /\ xs[k]? = some y /\ Q y (upd H l (.lst (xs.eraseIdx k)))
theorem mt_popAt : MtM X "list.pop" rPopAt := by
  intro pins s σ H x vs v us Q I rx rv h
  obtain ⟨l, xs, i, k, y, rfl, rfl, hH, h1, h2, hk, hy, q⟩ := h
  cases rx
  obtain ⟨u, rfl, ru⟩ := rv.one
  obtain ⟨t, rfl⟩ := ru
  obtain ⟨z, its, n, r, hl, e⟩ := I.lstM hH
  obtain ⟨w, hw, rw'⟩ := r.get hy
  refine call_meets F.slot_list_pop ⟨_, e, rfl⟩ F.entry_list_pop (F.args_list_pop_2 _ _)
    (MeetsSeq.list_pop_at l its.toArray n i t k w (fitsIndex_both h1 h2) (by rw [List.size_toArray, <- hl]; exact hk) (by rw [<- Array.getElem?_toList]; exact hw) (by rw [List.size_toArray]; lia)) ⟨e, ?_⟩
  refine ⟨y, _, I.lset (its' := its.eraseIdx k) hH e ?_ (r.eraseIdx k) ?_, rw', q⟩
  · show its.toArray.eraseIdxIfInBounds k = (its.eraseIdx k).toArray
    rw [List.eraseIdxIfInBounds_toArray]
  · have := len_erase xs k
    lia
noncomputable def rCat : R2 := fun x y H Q => ∃ l b xs zs, x = .ref l /\ y = .ref b /\ H l = some (.lst xs) /\ H b = some (.lst zs) /\ xs.length + zs.length <= sizeLine /\ ∀ p, H p = none -> Q (.ref p) (upd H p (.lst (xs ++ zs)))
theorem op_cat : OpR X (binaryOp .Add) rCat := by
  intro pins s σ H x y v u Q I rx ry h
  obtain ⟨l, b, xs, zs, rfl, rfl, hH, hB, hz, q⟩ := h
  cases rx
  cases ry
  obtain ⟨z, its, n, r, hl, e⟩ := I.lstM hH
  obtain ⟨z2, its2, n2, r2, hl2, e2⟩ := I.lstM hB
  refine PySem.P.add_list e e2 ?_ (by rw [List.size_toArray, List.size_toArray]; omega)
  have ea : its.toArray ++ its2.toArray = (its ++ its2).toArray := by simp
  rw [ea]
  exact ⟨.ref _, _, I.lnew (t' := s.toks) (r.append r2) (by rw [List.length_append]; omega), rfl, q _ I.fresh⟩
noncomputable def rRep : R2 := fun x y H Q => ∃ l k xs, x = .ref l /\ y = .int k /\ H l = some (.lst xs) /\ -(2 ^ 63) <= k /\ k < 2 ^ 63 /\ xs.length * k.toNat <= sizeLine /\
  ∀ p, H p = none -> Q (.ref p) (upd H p (.lst (List.replicate k.toNat xs).flatten))
theorem len_rep {α : Type} (xs : List α) (k : Nat) : (List.replicate k xs).flatten.length = k * xs.length := by
  induction k with
  | zero => simp
  | succ k ih => rw [List.replicate_succ, List.flatten_cons, List.length_append, ih, Nat.succ_mul, Nat.add_comm]
theorem op_rep : OpR X (binaryOp .Mult) rRep := by
  intro pins s σ H x y v u Q I rx ry h
  obtain ⟨l, k, xs, rfl, rfl, hH, h1, h2, hz, q⟩ := h
  cases rx
  obtain ⟨t, rfl⟩ := ry
  obtain ⟨z, its, n, r, hl, e⟩ := I.lstM hH
  have hlen : its.toArray.size * k.toNat <= sizeLine := by rw [List.size_toArray, <- hl]; exact hz
  have hcap : ¬ its.toArray.size * k.toNat > (2 ^ 63 - 1) / 8 := by
    have : (sizeLine : Nat) <= (2 ^ 63 - 1) / 8 := by decide
    lia
  have hfit : ¬ (!Builtin.List.listFitsIndex k) = true := by
    rw [fitsIndex_both h1 h2]
    exact Bool.false_ne_true
  have hlong : ¬ Builtin.List.listTooLong (its.toArray.size * k.toNat) = true := by
    rw [notLongL hlen]
    exact Bool.false_ne_true
  have hnew : List.foldl (fun x1 x2 => x1 ++ x2) #[] (List.replicate (if its.toArray.isEmpty = true then 0 else k.toNat) its.toArray) = (List.replicate k.toNat its).flatten.toArray := by
    have f0 : ∀ m : Nat, List.foldl (fun x1 x2 => x1 ++ x2) #[] (List.replicate m its.toArray) = (List.replicate m its).flatten.toArray := fun m => by
      have := foldl_rep its m []
      rw [List.nil_append] at this
      exact this
    rw [f0]
    cases its with
    | nil => simp
    | cons a r' => rw [if_neg (by simp)]
  refine wpAny_binaryOp_repeat_ref (T := "list") (U := "int") (by decide) ⟨_, e, rfl⟩ (fun s' => typeIs_int s' k t) noFill_list_mul F.fills_int_mul F.slot_int_rmul repeat_list F.slot_int_index.lookup
    (call_meets F.slot_int_rmul (typeIs_int s k t) F.entry_int_rmul (F.args_int_rmul_2 _ _) (int___rmul___int_list k t l its.toArray n)
      ⟨e, rfl, ⟨_, e, rfl⟩, call_meets F.slot_list_mul ⟨_, e, rfl⟩ F.entry_list_mul (F.args_list_mul_2 _ _) (AutoListH.list___mul___list_int_3 l its.toArray n k t hfit hcap hlong) ⟨e, ?_⟩⟩)
  rw [hnew]
  exact ⟨.ref _, _, I.lnew (t' := s.toks) (r.rep k.toNat) (by rw [len_rep, Nat.mul_comm]; exact hz), rfl, q _ I.fresh⟩
end
section
variable {prog : Program} {w : World} {A : Around} {E : Value -> Shared -> Prop} {s : Shared}
end
section
variable {X : Cx}
end
end L2
set_option maxRecDepth 100000
namespace L2
open PySem PySem.Spec PyProof.Rows
section
variable {κ : Type} [DecidableEq κ]
noncomputable def valV (kvs : List (κ × V)) (k : κ) : Option V := (kvs.find? fun kv => decide (kv.1 = k)).map (·.2)
noncomputable def putK (kvs : List (κ × V)) (k : κ) (v : V) : List (κ × V) :=
  if (kvs.any fun kv => decide (kv.1 = k)) = true then kvs.map (fun kv => if kv.1 = k then (kv.1, v) else kv) else kvs ++ [(k, v)]
theorem valV_pos {p : κ × V} {r : List (κ × V)} {k : κ} (e : p.1 = k) : valV (p :: r) k = some p.2 := by simp [valV, List.find?_cons, e]
theorem valV_neg {p : κ × V} {r : List (κ × V)} {k : κ} (e : ¬ p.1 = k) : valV (p :: r) k = valV r k := by simp [valV, List.find?_cons, e]
theorem valV_any (k : κ) : ∀ kvs : List (κ × V), (kvs.any fun kv => decide (kv.1 = k)) = (valV kvs k).isSome
  | [] => rfl
  | p :: r => by
    rw [List.any_cons]
    by_cases e : p.1 = k
    · simp only [valV_pos e, decide_eq_true e, Bool.true_or, Option.isSome_some]
    · rw [valV_neg e, decide_eq_false e, Bool.false_or]; exact valV_any k r
theorem length_putK (kvs : List (κ × V)) (k : κ) (v : V) : (putK kvs k v).length <= kvs.length + 1 := by
  unfold putK
  split
  · rw [List.length_map]; lia
  · rw [List.length_append, List.length_cons, List.length_nil]; lia
theorem RelO.isSome_eq {o : Option V} {u : Option Value} (r : RelO o u) : o.isSome = u.isSome := by
  cases o with
  | none => cases u with
    | none => rfl
    | some _ => exact (show False from r).elim
  | some _ => cases u with
    | none => exact (show False from r).elim
    | some _ => rfl
theorem KV.val {kvs : List (κ × V)} {vs : List (κ × Value)} (r : KV kvs vs) (k : κ) : RelO (valV kvs k) (valueAt vs k) := by
  unfold KV at r
  induction r with
  | nil => exact True.intro
  | @cons p q ps qs h t ih =>
    obtain ⟨h1, h2⟩ := h
    by_cases e : p.1 = k
    · have e' : q.1 = k := h1.symm.trans e
      have b : valueAt (q :: qs) k = some q.2 := by simp [valueAt, List.find?_cons, e']
      rw [valV_pos e, b]; exact h2
    · have e' : ¬ q.1 = k := fun z => e (h1.trans z)
      have b : valueAt (q :: qs) k = valueAt qs k := by simp [valueAt, List.find?_cons, e']
      rw [valV_neg e, b]; exact ih
theorem KV.any {kvs : List (κ × V)} {vs : List (κ × Value)} (r : KV kvs vs) (k : κ) : (kvs.any fun kv => decide (kv.1 = k)) = vs.any fun kv => decide (kv.1 = k) := by
  unfold KV at r
  induction r with
  | nil => rfl
  | cons h t ih => rw [List.any_cons, List.any_cons, ih, h.1]
theorem KV.repl {kvs : List (κ × V)} {vs : List (κ × Value)} (r : KV kvs vs) (k : κ) {y : V} {u : Value} (ry : RelV y u) :
    KV (kvs.map fun kv => if kv.1 = k then (kv.1, y) else kv) (vs.map fun kv => if kv.1 = k then (kv.1, u) else kv) := by
  unfold KV at r ⊢
  induction r with
  | nil => exact .nil
  | @cons p q ps qs h t ih =>
    rw [List.map_cons, List.map_cons]
    refine .cons ?_ ih
    obtain ⟨h1, h2⟩ := h
    by_cases e : p.1 = k
    · rw [if_pos e, if_pos (h1.symm.trans e)]; exact ⟨h1, ry⟩
    · rw [if_neg e, if_neg (fun z => e (h1.trans z))]; exact ⟨h1, h2⟩
theorem KV.put {kvs : List (κ × V)} {vs : List (κ × Value)} (r : KV kvs vs) (k : κ) {y : V} {u : Value} (ry : RelV y u) : KV (putK kvs k y) (stored vs k u) := by
  unfold putK stored
  rw [r.any k]
  by_cases e : (vs.any fun kv => decide (kv.1 = k)) = true
  · rw [if_pos e, if_pos e]; exact r.repl k ry
  · rw [if_neg e, if_neg e]; exact Paired.snoc r ⟨rfl, ry⟩
theorem KV.length {kvs : List (κ × V)} {vs : List (κ × Value)} (r : KV kvs vs) : kvs.length = vs.length := Paired.length r
end
theorem kV_is {P : Program} {w : World} {k : Key} {u : Value} (r : RelV (kV k) u) : (mixKind P w).is k u = true := by
  cases k with
  | inl i => obtain ⟨t, e⟩ := (show ∃ t, u = Value.int i t from r); subst e; exact mixKind_int P w i t
  | inr x => obtain ⟨t, e⟩ := (show ∃ t, u = Value.str x t from r); subst e; exact mixKind_str P w x t
  | non => cases (show u = Value.none from r); exact mixKind_non P w
theorem items_are {P : Program} {w : World} : ∀ {ks : List Key} {us : List Value}, Vals (ks.map kV) us -> ItemsAre (mixKind P w) ks us
  | [], _, r => by rw [List.map_nil] at r; cases r; exact .nil
  | k :: ks, _, r => by
    rw [List.map_cons] at r
    cases r with
    | cons h t => exact .cons (kV_is h) (items_are t)
noncomputable abbrev KT (H : Hp) : List (List Key × V) -> List (List Key × Addr × Value) -> Prop := Paired fun p q => p.1 = q.1 /\ H q.2.1 = some (.tup (p.1.map kV)) /\ RelV p.2 q.2.2
theorem KT.val {H : Hp} {kvs : List (List Key × V)} {xs : List (List Key × Addr × Value)} (r : KT H kvs xs) (k : List Key) : RelO (valV kvs k) ((atKey xs k).map (·.2)) := by
  induction r with
  | nil => exact True.intro
  | @cons p q ps qs h t ih =>
    obtain ⟨h1, _, h2⟩ := h
    by_cases e : p.1 = k
    · have e' : q.1 = k := h1.symm.trans e
      have b : atKey (q :: qs) k = some q.2 := by simp [atKey, List.find?_cons, e']
      rw [valV_pos e, b]; exact h2
    · have e' : ¬ q.1 = k := fun z => e (h1.trans z)
      have b : atKey (q :: qs) k = atKey qs k := by simp [atKey, List.find?_cons, e']
      rw [valV_neg e, b]; exact ih
theorem KT.repl {H : Hp} {kvs : List (List Key × V)} {xs : List (List Key × Addr × Value)} (r : KT H kvs xs) (k : List Key) {y : V} {u : Value} (ry : RelV y u) :
    KT H (kvs.map fun kv => if kv.1 = k then (kv.1, y) else kv) (xs.map (putAt k u)) := by
  induction r with
  | nil => exact .nil
  | @cons p q ps qs h t ih =>
    rw [List.map_cons, List.map_cons]
    refine .cons ?_ ih
    obtain ⟨h1, h2, h3⟩ := h
    unfold putAt
    by_cases e : p.1 = k
    · rw [if_pos e, if_pos (h1.symm.trans e)]; exact ⟨h1, h2, ry⟩
    · rw [if_neg e, if_neg (fun z => e (h1.trans z))]; exact ⟨h1, h2, h3⟩
theorem KT.put {H : Hp} {kvs : List (List Key × V)} {xs : List (List Key × Addr × Value)} (r : KT H kvs xs) (k : List Key) {b : Addr} {y : V} {u : Value} (hb : H b = some (.tup (k.map kV))) (ry : RelV y u) :
    KT H (putK kvs k y) (storedH xs k b u) := by
  have e : (kvs.any fun kv => decide (kv.1 = k)) = (atKey xs k).isSome := by
    rw [valV_any, (r.val k).isSome_eq, Option.isSome_map]
  unfold putK storedH
  rw [e]
  by_cases q : (atKey xs k).isSome = true
  · rw [if_pos q, if_pos q]; exact r.repl k ry
  · rw [if_neg q, if_neg q]; exact Paired.snoc r ⟨rfl, hb, ry⟩
theorem KT.keeps {H H' : Hp} {kvs : List (List Key × V)} {xs : List (List Key × Addr × Value)} (r : KT H kvs xs) (ht : ∀ b ys, H b = some (.tup ys) -> H' b = some (.tup ys)) : KT H' kvs xs :=
  Paired.mapP r fun _ _ z => ⟨z.1, ht _ _ z.2.1, z.2.2⟩
section
variable {P : Program} {w : World} {H : Hp} {h : Heap} {a : Addr}
theorem rd_of {u : HO} (ok : HOk P w H h) (e : Rd H a u) : ObjOk P w H h a u := e.ok ok
theorem dk_rd {kvs : List (Key × V)} (ok : HOk P w H h) (e : Rd H a (.dK kvs)) : kvs.length <= sizeLine /\ (a == sysModules) = false /\ ∃ vs, KV kvs vs /\ h.DictOf (mixKind P w) a vs :=
  show ObjOk P w H h a (.dK kvs) from rd_of ok e
theorem dk_of {kvs : List (Key × V)} (ok : HOk P w H h) (e : H a = some (.dK kvs)) : kvs.length <= sizeLine /\ (a == sysModules) = false /\ ∃ vs, KV kvs vs /\ h.DictOf (mixKind P w) a vs := dk_rd ok (.inl e)
theorem key_of {ks : List Key} (ok : HOk P w H h) (e : H a = some (.tup (ks.map kV))) : (tupleKind (mixKind P w)).is h ks a := by
  obtain ⟨_, its, r, o, h1, h2, _, n, h3⟩ := (show ObjOk P w H h a (.tup (ks.map kV)) from ok a _ e)
  exact ⟨o, its.toArray, n, h1, h2, h3, by simpa using items_are r⟩
theorem dt_rd {kvs : List (List Key × V)} (ok : HOk P w H h) (e : Rd H a (.dT kvs)) : kvs.length <= sizeLine /\ (a == sysModules) = false /\
    ∃ xs, KT H kvs xs /\ h.DictOfH (tupleKind (mixKind P w)) a xs := by
  obtain ⟨z, y, xs, r, o, es, ep, h1, h2, h3, h4, h5⟩ := (show ObjOk P w H h a (.dT kvs) from rd_of ok e)
  refine ⟨z, y, xs, r, o, es, ep, h1, h2, h3, h4, fun x hx => ?_, h5⟩
  have all : ∀ {l : List (List Key × V)} {m : List (List Key × Addr × Value)}, KT H l m -> ∀ x ∈ m, (tupleKind (mixKind P w)).is h x.1 x.2.1 := by
    intro l m q
    induction q with
    | nil => intro x hx; exact nomatch hx
    | @cons p q ps qs hq t ih =>
      intro x hx
      rcases List.mem_cons.mp hx with e | hx
      · subst e
        exact key_of ok (by rw [<- hq.1]; exact hq.2.1)
      · exact ih x hx
  exact all r x hx
theorem dt_of {kvs : List (List Key × V)} (ok : HOk P w H h) (e : H a = some (.dT kvs)) : kvs.length <= sizeLine /\ (a == sysModules) = false /\
    ∃ xs, KT H kvs xs /\ h.DictOfH (tupleKind (mixKind P w)) a xs := dt_rd ok (.inl e)
end
noncomputable def DGet (H : Hp) (a : Addr) (y : V) (r : Option V) : Prop :=
  (∃ kvs k, Rd H a (.dK kvs) /\ y = kV k /\ r = valV kvs k) \/ ∃ kvs k b, Rd H a (.dT kvs) /\ y = .ref b /\ H b = some (.tup (k.map kV)) /\ r = valV kvs k
noncomputable def DPut (H : Hp) (a : Addr) (y v : V) (H' : Hp) : Prop :=
  (∃ kvs k, H a = some (.dK kvs) /\ y = kV k /\ kvs.length < sizeLine /\ H' = upd H a (.dK (putK kvs k v))) \/
  ∃ kvs k b, H a = some (.dT kvs) /\ y = .ref b /\ H b = some (.tup (k.map kV)) /\ kvs.length < sizeLine /\ H' = upd H a (.dT (putK kvs k v))
theorem DGet.k {H : Hp} {a : Addr} {kvs : List (Key × V)} {k : Key} (e : H a = some (.dK kvs)) : DGet H a (kV k) (valV kvs k) := .inl ⟨kvs, k, .inl e, rfl, rfl⟩
theorem DPut.k {H : Hp} {a : Addr} {kvs : List (Key × V)} {k : Key} {v : V} (e : H a = some (.dK kvs)) (hl : kvs.length < sizeLine) : DPut H a (kV k) v (upd H a (.dK (putK kvs k v))) := .inl ⟨kvs, k, e, rfl, hl, rfl⟩
section
variable {X : Cx} {pins : List (Addr × Obj)} {σ : St} {H : Hp} {s : Shared} {a : Addr} {y v : V} {u r : Value} {o : Option V} {A : Around} {E : Value -> Shared -> Prop}
theorem Inv.big (I : Inv X pins σ H s) : sysModules < s.heap.objs.size := by
  have h : mainGlobals < s.heap.objs.size := (I.mod.glob.keeps I.bk).lt
  exact Nat.lt_trans (by decide) h
theorem d_getItem {Q : Value -> Shared -> Prop} (hu : A.units + 1 < cLine) (I : Inv X pins σ H s) (g : DGet H a y (some v)) (ry : RelV y u) (h : ∀ w' s', Inv X pins σ H s' -> RelV v w' -> Q w' s') :
    wpAny (model X.prog X.w) A (getItem (.ref a) u) Q E s := by
  rcases g with ⟨kvs, k, e, ey, l⟩ | ⟨kvs, k, b, e, ey, eb, l⟩
  · subst ey
    obtain ⟨z, hd, vs, rel, dd⟩ := dk_rd I.hok e
    obtain ⟨w', hw, rw'⟩ := RelO.some_of (v := v) (o := valueAt vs k) (by rw [l]; exact rel.val k)
    exact wpAny_getItem_of (kV_is ry) dd.mapOf hw (h w' _ (I.tok _) rw')
  · subst ey
    cases (show u = Value.ref b from ry)
    obtain ⟨z, hd, xs, rel, dd⟩ := dt_rd I.hok e
    obtain ⟨w', hw, rw'⟩ := RelO.some_of (v := v) (o := (atKey xs k).map (·.2)) (by rw [l]; exact rel.val k)
    obtain ⟨p, hp, hp2⟩ := Option.map_eq_some_iff.mp hw
    refine wpAny_getItem_heap (tupleKind_room_in1 hu) (key_of I.hok eb) dd hp ?_
    rw [hp2]
    exact h w' _ (I.tok _) rw'
theorem d_in {Q : Value -> Shared -> Prop} (hu : A.units + 1 < cLine) (I : Inv X pins σ H s) (g : DGet H a y o) (ry : RelV y u) (h : ∀ s', Inv X pins σ H s' -> Q (.bool o.isSome) s') :
    wpAny (model X.prog X.w) A (compareOp .In u (.ref a)) Q E s := by
  rcases g with ⟨kvs, k, e, ey, l⟩ | ⟨kvs, k, b, e, ey, eb, l⟩
  · subst ey
    obtain ⟨z, hd, vs, rel, dd⟩ := dk_rd I.hok e
    refine wpAny_in_of (kV_is ry) hd dd.mapOf ?_
    rw [<- (rel.val k).isSome_eq, <- l]
    exact h _ (I.tok _)
  · subst ey
    cases (show u = Value.ref b from ry)
    obtain ⟨z, hd, xs, rel, dd⟩ := dt_rd I.hok e
    refine wpAny_in_heap (tupleKind_room_in1 hu) (key_of I.hok eb) hd dd ?_
    have q := (rel.val k).isSome_eq
    rw [Option.isSome_map] at q
    rw [<- q, <- l]
    exact h _ (I.tok _)
theorem d_write {h' : Heap} {t' : Nat} {ob : HO} (I : Inv X pins σ H s) (mu : Mut (H a)) (hs : Heap.SameBut a s.heap h') (he : ∃ q, h'.get? a = some q) (new : ObjOk X.prog X.w (upd H a ob) h' a ob) :
    Inv X pins σ (upd H a ob) { s with heap := h', toks := t' } :=
  I.write (x := a) (e := a) mu (.inl rfl) (fun b q hb z => (hs.2 b hb).trans z) he new
theorem dk_new {P : Program} {w : World} {H' : Hp} {h' : Heap} {kvs : List (Key × V)} {vs : List (Key × Value)} (z : kvs.length <= sizeLine) (hd : (a == sysModules) = false) (rel : KV kvs vs) (dd : h'.DictOf (mixKind P w) a vs) :
    ObjOk P w H' h' a (.dK kvs) := ⟨z, hd, vs, rel, dd⟩
theorem d_setItem {H' : Hp} {Q : Unit -> Shared -> Prop} (hu : A.units + 1 < cLine) (I : Inv X pins σ H s) (g : DPut H a y v H') (ry : RelV y u) (rv : RelV v r) (h : ∀ s', Inv X pins σ H' s' -> Q () s') :
    wpAny (model X.prog X.w) A (setItem (.ref a) u r) Q E s := by
  rcases g with ⟨kvs, k, e, ey, l, eH⟩ | ⟨kvs, k, b, e, ey, eb, l, eH⟩
  · subst ey eH
    obtain ⟨z, hd, vs, rel, dd⟩ := dk_of I.hok e
    have hz : vs.length <= sizeLine := by rw [<- rel.length]; exact z
    have hl : (putK kvs k v).length <= sizeLine := by have := length_putK kvs k v; lia
    refine wpAny_setItem_pairs (hsz := hz) (kV_is ry) dd fun h' dd' hs => h _ ?_
    have he : ∃ q, h'.get? a = some q := let ⟨q, _, _, hq, _⟩ := dd'; ⟨q, hq⟩
    exact d_write I (by rw [e]; exact True.intro) hs he (dk_new hl hd (rel.put k rv) dd')
  · subst ey eH
    cases (show u = Value.ref b from ry)
    obtain ⟨z, hd, xs, rel, dd⟩ := dt_of I.hok e
    have hz : xs.length <= sizeLine := by rw [<- Paired.length rel]; exact z
    have hl : (putK kvs k v).length <= sizeLine := by have := length_putK kvs k v; lia
    refine wpAny_setItem_heap (hsz := hz) (tupleKind_room_in1 hu) (key_of I.hok eb) dd fun h' dd' hs => h _ ?_
    obtain ⟨q, es, ep, hq, h2, h3, h4, _, h5⟩ := dd'
    refine d_write I (by rw [e]; exact True.intro) hs ⟨q, hq⟩ ⟨hl, hd, _, (rel.put k eb rv).keeps fun c ys ec => ?_, q, es, ep, hq, h2, h3, h4, h5⟩
    rw [upd_ne (ne_of ec e (fun z => nomatch z))]
    exact ec
end
section
variable {X : Cx} {pins : List (Addr × Obj)} {σ : St} {H : Hp} {s : Shared} {a : Addr} {kvs : List (Key × V)} {k : Key} {u : Value} {A : Around} {E : Value -> Shared -> Prop}
theorem d_len {Q : Value -> Shared -> Prop} (I : Inv X pins σ H s) (e : Rd H a (.dK kvs)) (h : ∀ t s', Inv X pins σ H s' -> Q (.int kvs.length t) s') : wpAny (model X.prog X.w) A (call (.builtin "len") [.ref a]) Q E s := by
  obtain ⟨z, hd, vs, rel, dd⟩ := dk_rd I.hok e
  refine call_len_dict hd dd (by rw [<- rel.length]; rw [sizeLine_eq] at z; lia) ?_
  rw [<- rel.length]
  exact h _ _ (I.tok _)
end
noncomputable def NoSl (i : Expr) : Prop := ∀ ov iv, subscripted i false ov iv = operate [ov, iv] (getItem ov iv)
theorem subD_of {prog : Program} {w : World} {A : Around} {E : Value -> Shared -> Prop} {s : Shared} {env : Env} {value slice : Expr} {pos : Pos} {T id : String} {Q : Value -> Shared -> Prop}
    (hl : typeLookup (.type T) "__getitem__" = pure (some (.builtin id))) (hs : NoSl slice)
    (h : wpAny (model prog w) A (eval value env) (fun o s₁ => wpAny (model prog w) A (eval slice env) (fun i s₂ => s₂.TypeIs o T /\ wpAny (model prog w) A (getItem o i) Q E s₂) E s₁) E s) :
    wpAny (model prog w) A (eval (.Subscript value slice pos) env) Q E s := by
  refine Subscript_ (wpAny_mono h (fun o s₁ h₁ => wpAny_mono h₁ (fun i s₂ h₂ => ?_) fun _ _ x => x) fun _ _ x => x)
  obtain ⟨hT, h₂⟩ := h₂
  unfold subscriptTail
  refine wpAny_bind ?_
  rw [getitemInPython_of_ne hT.not_modules]
  refine wpAny_bind (wpAny_specialOf hT hl ?_)
  have fin : wpAny (model prog w) A (subscripted slice false o i) (fun r s₃ => wpAny (model prog w) A (letTemporaryGo value o r >>= fun _ => pure r) Q E s₃) E s₂ := by
    rw [hs o i]
    exact wpAny_operating (wpAny_mono h₂ (fun r s₃ h₃ => wpAny_bind (wpAny_letTemporaryGo (wpAny_pure h₃))) fun _ _ x => x)
  first
    | exact wpAny_pure (wpAny_bind fin)
    | exact wpAny_bind (wpAny_pure (wpAny_bind fin))
    | exact wpAny_bind fin
theorem dict_typeIs {X : Cx} {pins : List (Addr × Obj)} {σ : St} {H : Hp} {s : Shared} {a : Addr} {y : V} {o : Option V} (I : Inv X pins σ H s) (g : DGet H a y o) : s.TypeIs (.ref a) "dict" := by
  rcases g with ⟨kvs, k, e, _, _⟩ | ⟨kvs, k, b, e, _, _, _⟩
  · obtain ⟨_, _, vs, _, dd⟩ := dk_rd I.hok e
    exact dd.typeIs
  · obtain ⟨_, _, xs, _, dd⟩ := dt_rd I.hok e
    exact dd.typeIs
noncomputable def tDGet (td ty : TE) : TE := fun σ H Q => td σ H fun x H1 => ty σ H1 fun y H2 => ∃ a v, x = .ref a /\ DGet H2 a y (some v) /\ Q v H2
noncomputable def sDPut (td ty tv : TE) : TS := fun D σ H => tv σ H fun v H1 => td σ H1 fun x H2 => ty σ H2 fun y H3 => ∃ a H4, x = .ref a /\ DPut H3 a y v H4 /\ D.nx σ H4
section
variable {X : Cx} {o i e value : Expr} {pos pos' tpos : Pos} {td ty tv : TE}
theorem pe_dget (hu : X.A.units + 1 < cLine) (ho : PE X o td) (hi : PE X i ty) (hs : NoSl i) : PE X (.Subscript o i pos) (tDGet td ty) := by
  intro pins s σ H Q I h
  refine subD_of PySem.F.slot_dict_getitem.lookup hs (thn (ho pins s σ H _ I h) fun u s1 ⟨x, H1, I1, rx, q1⟩ => thn (hi pins s1 σ H1 _ I1 q1) fun iv s2 ⟨y, H2, I2, ry, a, v, ex, g, q2⟩ => ?_)
  subst ex
  obtain rfl : u = Value.ref a := rx
  exact ⟨dict_typeIs I2 g, d_getItem hu I2 g ry fun w' s3 I3 rw' => ⟨v, H2, I3, rw', q2⟩⟩
theorem ps_dput (hu : X.A.units + 1 < cLine) (ho : PE X o td) (hi : PE X i ty) (hv : PE X value tv) (hs : swapsWith value (some (.Subscript o i pos')) pos.line X.env = pure false) :
    PS X (.Assign [.Subscript o i pos'] value pos) (sDPut td ty tv) := by
  intro pins s σ H D I h
  refine wpAny_Assign_Subscript (thn (hv pins s σ H _ I h) fun r s1 ⟨v, H1, I1, rv, q1⟩ => thn (ho pins s1 σ H1 _ I1 q1) fun u s2 ⟨x, H2, I2, rx, q2⟩ => thn (hi pins s2 σ H2 _ I2 q2) fun iv s3 ⟨y, H3, I3, ry, a, H4, ex, g, q3⟩ => ?_) hs
  subst ex
  obtain rfl : u = Value.ref a := rx
  exact d_setItem hu I3 g ry rv fun s4 I4 => ⟨σ, H4, I4, q3⟩
end
theorem dk_empty {P : Program} {w : World} {H : Hp} (h : Heap) (hb : sysModules < h.objs.size) : ObjOk P w H (h.push { cls := .type "dict", data := .dict #[] }) h.objs.size (.dK []) :=
  ⟨Nat.zero_le _, beq_eq_false_iff_ne.mpr (Ne.symm (Nat.ne_of_lt hb)), [], .nil, Heap.DictOf.new h⟩
noncomputable def tDNewK : TE := fun _ H Q => ∀ p, H p = none -> Q (.ref p) (upd H p (.dK []))
section
variable {X : Cx} {pos : Pos}
theorem pe_dnewK : PE X (.Dict [] [] pos) tDNewK := fun pins s σ H Q I h =>
  wpAny_Dict_empty ⟨.ref s.heap.objs.size, _, I.laid (a := s.heap.objs.size) (o := .dK []) (t' := s.toks) (fun _ _ q => Heap.get?_push_of_some _ q) (Nat.le_refl _) (dk_empty s.heap I.big), rfl, h _ (I.hok.fresh (Nat.le_refl _))⟩
end
section
variable {X : Cx} {pins : List (Addr × Obj)} {σ : St} {H : Hp} {s : Shared} {a : Addr} {y d : V} {u r : Value} {o : Option V} {A : Around} {E : Value -> Shared -> Prop}
end
section
variable {X : Cx} {o e f : Expr} {apos cpos : Pos} {td ty tx : TE}
end
section
variable {X : Cx} {pins : List (Addr × Obj)} {σ : St} {H : Hp} {s : Shared} {a : Addr} {kvs : List (Key × V)} {A : Around} {E : Value -> Shared -> Prop}
end
section
variable {X : Cx} {pins : List (Addr × Obj)} {σ : St} {H : Hp} {s : Shared} {a : Addr} {y : V} {u : Value} {A : Around} {E : Value -> Shared -> Prop}
end
end L2
namespace Att
open PySem PySem.W PySem.Calls PyProof.Rows
theorem ints_of_wellAll {P : Params} {h : Heap} : ∀ (ns : List Int) (vs : List Value), WellAll P h vs (ns.map WData.int) -> IntsAre vs ns := by
  intro ns
  induction ns with
  | nil =>
    intro vs w
    rw [List.map_nil] at w
    cases w
    exact .nil
  | cons n ns ih =>
    intro vs w
    rw [List.map_cons] at w
    cases w with
    | cons a b =>
      cases a
      exact .cons _ _ (ih _ b)
theorem script_of {l : OpenLaw} {n : Nat} (hn : l.most = some n) {P : Params} {h : Heap} {args : List WData} {vals : List Value}
    (hpre : l.row.toRowW.claim.pre args = true) (hwl : WellAll P h vals args) :
    ∃ a vs ns, vals = [Value.ref a] /\ args = [WData.list (ns.map WData.int)] /\ h.get? a = some { cls := .type "list", data := .seq vs.toArray } /\ IntsAre vs ns /\ ns.length <= n := by
  have hsh : WShape.hasAll [] args [.list .int] = true := (pre_splitW hpre).1
  have hc : l.pre.holds [] { args := args } = true := (pre_splitW hpre).2
  obtain ⟨d, r, rfl, h1, h2⟩ := hasAllW_cons hsh
  obtain rfl := hasAllW_nil h2
  obtain ⟨xs, rfl, h3⟩ := hasW_list h1
  obtain ⟨ns, rfl⟩ := items_int h3
  have hlen : ns.length <= n := by
    unfold OpenLaw.pre at hc
    have h4 : (WTm.not (.lt (.lit (.int (n : Int))) (.len (.arg 0)))).holds [] { args := [.list (ns.map .int)] } = true := by
      have h4 := (holds_andW hc).1
      rw [hn] at h4
      exact h4
    have h5 := condW_of h4 (w_not (w_lt w_lit (w_len_list (w_arg rfl))))
    rw [List.length_map] at h5
    refine Nat.le_of_not_lt fun q => ?_
    have q' : (n : Int) < ((ns.length : Nat) : Int) := by omega
    first
      | (rw [decide_eq_true q'] at h5; exact absurd h5 (by decide))
      | (simp at h5; omega)
  cases hwl with
  | cons w1 w2 =>
    cases w2
    cases w1 with
    | list ho hall => exact ⟨_, _, ns, rfl, rfl, ho, ints_of_wellAll ns _ hall, hlen⟩
theorem post_true (l : OpenLaw) (args : List WData) : l.row.toRowW.claim.post args (.bool true) args = true :=
  postW_of (r := l.row.toRowW) (X := (true == true))
    (show WShape.has [] (.bool true) .bool = true by first | rfl | decide | simp [WShape.has, WShape.arms, WShape.armsAll])
    (show (WTm.eq .res (.lit (.bool true))).value [] { args := args, res := some (.bool true), after := args } = some (.bool (true == true)) from w_eq_bool (w_res rfl) w_lit) rfl
theorem attach_call {l : OpenLaw} {n : Nat} {q : Program} {loose : List Str} {XP : (Str -> Option Value) -> Heap -> Prop} {YP : World -> Heap -> Prop} {d : DefRec}
    (hn : l.most = some n) (hdf : d.params.defaults = [])
    (call : ∀ (w : World) (s₀ s₁ : Shared) (mg mb : Str -> Option Value) (fa : Addr) (o : Obj) (pm cd doc : Value) (a : Addr) (vs : List Value) (ns : List Int),
      Ground q loose [] XP w s₀ mg mb s₁.heap -> YP w s₁.heap ->
      s₁.heap.get? fa = some o -> o.data = .func (docDef d.name d.params d.body d.scope pm cd doc) -> s₁.heap.CodeRec cd d.name -> mg d.name = some (.ref fa) ->
      s₁.heap.get? a = some { cls := .type "list", data := .seq vs.toArray } -> IntsAre vs ns -> ns.length <= n -> s₁.gens = #[] ->
      codeAny (model l.prog w) callerA (.call (.ref fa) ⟨[.ref a], []⟩) (fun r s' => r = .ok (.ret (.bool true)) /\ OldK s₁.heap s'.heap /\ s'.os = s₁.os /\ AllBare s'.gens) s₁) :
    WalkO q loose XP YP l.row.toRowW d [] (fun f vs => PySem.call f vs) := by
  intro w s₀ s₁ mg mb G Y fa o pm cd doc dV kV ho hd hcd hD hmg hg args vals as hpre hlay hrd hwl hlo
  obtain rfl : dV = .none := Dflts.none hD hdf
  obtain rfl : kV = .none := Dflts.noKw hD
  obtain ⟨a, vs, ns, rfl, rfl, hobj, hints, hlen⟩ := script_of hn hpre hwl
  refine enter_call (codeAny_mono (call w s₀ s₁ mg mb fa o pm cd doc a vs ns G Y ho (fd_plain hd) hcd hmg hobj hints hlen hg) fun r s' hq => ?_)
  obtain ⟨rfl, h2, h3, h4⟩ := hq
  exact ⟨.inl ⟨.bool true, .bool true, [], rfl, fun _ => rfl, .bool true, post_true l _, fun _ => ⟨List.Pairwise.nil, fun _ hm => (nomatch hm)⟩⟩, h2, h3, h4⟩
section
variable {prog : Program} {w : World} {A : Around} {E : Value -> Shared -> Prop} {s : Shared} {K : Frag}
end
end Att
namespace L2
open PySem PySem.Spec PyProof.Rows
theorem vals_ints : ∀ {vs : List Value} {ns : List Int}, IntsAre vs ns -> Vals (ns.map V.int) vs
  | _, _, .nil => .nil
  | _, _, .cons n t h => .cons ⟨t, rfl⟩ (vals_ints h)
noncomputable def Only (H : Hp) : Prop := ∀ b, H b = none \/ ∃ o xs, H b = some (.frz o (.lst xs))
theorem law_call {P : Program} {w : World} {K : PySem.W.Frag} {mg mb : Str -> Option Value} {CX : CXT} {k : Nat} {fa a : Addr} {fd : FuncData} {x : Str} {sp : Sp} {s₁ : Shared} {vs : List Value} {ns : List Int}
    (KX : K.In s₁.heap) (hns : s₁.heap.Ns mainGlobals mg) (hb : s₁.heap.Ns builtinsNs mb) (hbb : ∀ x : Str, x ≠ "__name__" -> mb x = bootBuiltins x) (hlim : s₁.heap.NoLimit) (hg : s₁.gens = #[])
    (ha : s₁.heap.get? a = some { cls := .type "list", data := .seq vs.toArray }) (hi : IntsAre vs ns) (hl : ns.length <= sizeLine) (hr : Room k callerA)
    (F : ∀ base : Heap, K.In base -> base.Ns mainGlobals mg -> FnOk P w K mg base CX k fa fd [x] sp) (hbind : ∀ (s : Shared) (u : Value), BindsTo s fd ⟨[u], []⟩ [(x, u)])
    (hsp : ∀ H : Hp, Only H -> SqL K H a (ns.map V.int) -> sp [.ref a] H (fun v _ => v = .bl true) fun _ _ _ => False)
    (hCX : ∀ H e s', CX [] H s₁ (fun _ _ _ => False) e s' -> False) :
    codeAny (model P w) callerA (.call (.ref fa) ⟨[.ref a], []⟩) (fun r s' => r = .ok (.ret (.bool true)) /\ OldK s₁.heap s'.heap /\ s'.os = s₁.os /\ AllBare s'.gens) s₁ := by
  have rv := vals_ints hi
  have lenV := hi.length
  have core : ∀ H : Hp, Only H -> SqL K H a (ns.map V.int) -> HOk P w H s₁.heap -> (∀ b, H b ≠ none -> b = a) -> (H a ≠ none -> K.lookup a = none) ->
      codeAny (model P w) callerA (.call (.ref fa) ⟨[.ref a], []⟩) (fun r s' => r = .ok (.ret (.bool true)) /\ OldK s₁.heap s'.heap /\ s'.os = s₁.os /\ AllBare s'.gens) s₁ := by
    intro H hO hS hok hA hK
    have base_of : ∀ {b : Addr} {o : Obj}, s₁.heap.get? b = some o -> H b = none -> (hidT s₁.heap H).get? b = some o := fun e n => hidT_get e n
    have noA : ∀ {b : Addr} {o : Obj} {es : Array DictEntry} {ep : Nat}, s₁.heap.get? b = some o -> o.data = .dict es ep -> H b = none := fun {b o es ep} e d => by
      cases q : H b with
      | none => rfl
      | some u =>
        have e' : b = a := hA b (by rw [q]; simp)
        subst e'
        rw [ha] at e; cases e
        have d' : Data.seq vs.toArray _ = Data.dict es ep := d
        cases d'
    have nsK : ∀ {b : Addr} {m : Str -> Option Value}, s₁.heap.Ns b m -> (hidT s₁.heap H).Ns b m := fun {b m} ⟨o, es, ep, e, d, r⟩ => ⟨o, es, ep, base_of e (noA e d), d, r⟩
    have hKb : K.In (hidT s₁.heap H) := fun b o e => base_of (KX b o e) (by
      cases q : H b with
      | none => rfl
      | some u =>
        have e' : b = a := hA b (by rw [q]; simp)
        subst e'
        rw [hK (by rw [q]; simp)] at e; cases e)
    have hM : Mod K mg (hidT s₁.heap H) := ⟨hKb, nsK hns, ⟨mb, nsK hb, hbb⟩, let ⟨mc, h1, h2⟩ := hlim; ⟨mc, nsK h1, h2⟩⟩
    have e0 : Env0 P w K mg (hidT s₁.heap H) callerA [] s₁ H := ⟨rfl, hM, fun b o e => of_hidT e, Nat.le_of_eq (hidT_size _ _), trivial, fun b hb => absurd (show b ∈ ([] : List Addr) from hb) (by simp), hok, .of_eq hg⟩
    refine codeAny_mono ((F _ hKb (nsK hns)).run callerA [] s₁ H ⟨[.ref a], []⟩ [.ref a] [.ref a] _ _ hr e0 (hbind s₁ (.ref a)) (.cons rfl .nil) (hsp H hO hS)) fun r s' h => ?_
    cases r with
    | error e => exact (hCX H e s' h).elim
    | ok fl =>
      cases fl with
      | next => exact False.elim h
      | brk => exact False.elim h
      | cont => exact False.elim h
      | ret u =>
        obtain ⟨v, H', os, bare, un, hok', r', q⟩ := h
        have q' : v = .bl true := q
        subst q'
        obtain rfl : u = Value.bool true := r'
        refine ⟨rfl, OldK.of_keep fun b o e => ?_, os, bare⟩
        cases q : H b with
        | none => exact un.keep b o e q (by intro z; exact absurd (show b ∈ ([] : List Addr) from z) (by simp)) (by simp)
        | some u =>
          rcases hO b with z | ⟨ob, xs, z⟩
          · rw [q] at z; cases z
          · have z2 := un.frzs b ob _ z
            obtain ⟨e1, _⟩ := hok b _ z
            obtain ⟨e2, _⟩ := hok' b _ z2
            rw [e] at e1; cases e1
            exact e2
  cases hk : K.lookup a with
  | some o =>
    have e := KX a o hk
    rw [ha] at e
    cases e
    refine core (fun _ => none) (fun _ => .inl rfl) (.inr ⟨_, vs.toArray, _, hk, rfl, rfl, rfl, by rw [List.size_toArray, lenV]; exact hl, by simpa using rv⟩) (fun b u z => by have z' : (none : Option HO) = some u := z; cases z') (fun b z => absurd rfl z) fun z => absurd rfl z
  | none =>
    refine core (fun b => if b = a then some (.frz { cls := .type "list", data := .seq vs.toArray } (.lst (ns.map V.int))) else none) (fun b => ?_) (.inl (.inr ⟨{ cls := .type "list", data := .seq vs.toArray }, if_pos rfl⟩)) (fun b u z => ?_) (fun b z => ?_) fun _ => hk
    · by_cases hb : b = a
      · exact .inr ⟨_, _, if_pos hb⟩
      · exact .inl (if_neg hb)
    · by_cases hb : b = a
      · have z' := (if_pos hb).symm.trans z
        cases z'
        subst hb
        exact ⟨ha, by rw [List.length_map]; exact hl, vs, _, rv, ha⟩
      · have z' := (if_neg hb).symm.trans z
        cases z'
    · by_cases hb : b = a
      · exact hb
      · exact absurd (if_neg hb) z
end L2
namespace L2
open PySem PySem.Spec PyProof.Rows
theorem walk_of {l : PySem.W.OpenLaw} {n k : Nat} {q : Program} {loose : List Str} {XP : (Str -> Option Value) -> Heap -> Prop} {YP : World -> Heap -> Prop} {d : DefRec} {K : Params -> PySem.W.Frag} {CX : World -> CXT} {sp : World -> Sp} {x : Str}
    (hn : l.most = some n) (hn2 : n <= sizeLine) (hdf : d.params.defaults = []) (hr : Room k callerA)
    (hY : ∀ (w : World) (h : Heap), YP w h -> (K w.params).In h)
    (F : ∀ (w : World) (mg : Str -> Option Value) (fa : Addr) (h : Heap), (K w.params).In h -> h.Ns mainGlobals mg -> mg d.name = some (.ref fa) ->
      ∃ fd : FuncData, (∀ (s : Shared) (u : Value), BindsTo s fd ⟨[u], []⟩ [(x, u)]) /\
        ∀ base : Heap, (K w.params).In base -> base.Ns mainGlobals mg -> FnOk l.prog w (K w.params) mg base (CX w) k fa fd [x] (sp w))
    (hsp : ∀ (w : World) (H : Hp) (a : Addr) (ns : List Int), ns.length <= n -> Only H -> SqL (K w.params) H a (ns.map V.int) -> sp w [.ref a] H (fun v _ => v = .bl true) fun _ _ _ => False)
    (hCX : ∀ (w : World) (H : Hp) (s : Shared) (e : Value) (s' : Shared), CX w [] H s (fun _ _ _ => False) e s' -> False) :
    PySem.W.WalkO q loose XP YP l.row.toRowW d [] (fun f vs => PySem.call f vs) := by
  refine Att.attach_call hn hdf fun w s₀ s₁ mg mb fa o pm cd doc a vs ns G Y ho hd hcd hmg hobj hints hlen hg => ?_
  have KX := hY w _ Y
  obtain ⟨fd, hb, hF⟩ := F w mg fa _ KX G.T.g hmg
  exact law_call KX G.T.g G.T.b G.T.builtins G.T.nolimit hg hobj hints (Nat.le_trans hlen hn2) hr hF hb (fun H hO hS => hsp w H a ns hlen hO hS) fun H e s' => hCX w H s₁ e s'
end L2
namespace L2
open PySem PySem.Spec PyProof.Rows
noncomputable def defArgs (s : Stmt) : Arguments := match s with
  | .FunctionDef _ a _ _ _ _ _ _ _ _ => a
  | _ => { posonlyargs := [], args := [], vararg := none, kwonlyargs := [], kw_defaults := [], kwarg := none, defaults := [] }
noncomputable def defBody (s : Stmt) : List Stmt := match s with
  | .FunctionDef _ _ b _ _ _ _ _ _ _ => b
  | _ => []
noncomputable def defScope (s : Stmt) : Scope := match s with
  | .FunctionDef _ _ _ _ _ _ sc _ _ _ => sc
  | _ => { kind := .function, names := [], isGenerator := false, isCoroutine := false }
structure Fun (K : PySem.W.Frag) (x qual : Str) (st : Stmt) (f : Addr) (fd : FuncData) : Prop where
  ex : ∃ (oc : Value) (od : Option Addr) (kV doc pm : Value) (an : Option Addr) (cdv ct : Value) (osl : Array (Option Value)),
    fd = PySem.W.fnOf x qual (defArgs st) (defBody st) (defScope st) .none kV doc pm an cdv ct /\ K.lookup f = some ⟨oc, od, .func fd, osl⟩ /\ PySem.W.codeIn K cdv qual = true
  kp : PySem.W.keepIn K (.ref f) = true
section
variable {P : Program} {w : World} {K : PySem.W.Frag} {mg : Str -> Option Value} {base : Heap}
theorem Fun.binds {x qual : Str} {st : Stmt} {f : Addr} {fd : FuncData} {ps : List Str} (F : Fun K x qual st f fd)
    (h : ∀ (kV doc pm : Value) (an : Option Addr) (cdv ct : Value) (us : List Value), us.length = ps.length -> bindArgs (PySem.W.fnOf x qual (defArgs st) (defBody st) (defScope st) .none kV doc pm an cdv ct) ⟨us, []⟩ = pure (ps.zip us)) : Binds K fd ps [] := by
  obtain ⟨oc, od, kV, doc, pm, an, cdv, ct, osl, rfl, lk, hcd⟩ := F.ex
  exact .all (h kV doc pm an cdv ct)
theorem fun_mk {x qual : Str} {st : Stmt} {f : Addr} {oc : Value} {od an : Option Addr} {osl : Array (Option Value)} {kV doc pm cdv ct : Value} (l : K.lookup f = some ⟨oc, od, .func (PySem.W.fnOf x qual (defArgs st) (defBody st) (defScope st) .none kV doc pm an cdv ct), osl⟩)
    (c : PySem.W.codeIn K cdv qual = true) (k : PySem.W.keepIn K (.ref f) = true) : Fun K x qual st f (PySem.W.fnOf x qual (defArgs st) (defBody st) (defScope st) .none kV doc pm an cdv ct) := ⟨⟨oc, od, kV, doc, pm, an, cdv, ct, osl, rfl, l, c⟩, k⟩
end
section
variable {X : Cx}
theorem pv (i : Nat) {x : Str} {pos : Pos} (hN : autoParam (X.N[i]? = some x) L2.au3._auto_1) (hv : autoParam (Vis X.env.scope x) L2.au5._auto_1) (hd : autoParam ((x == ("__debug__" : Str)) = false) L2.au1._auto_1)
    (hcd : autoParam ((x == ("__classdict__" : Str)) = false) L2.au1._auto_1) : PE X (.Name x pos) (tVar i) := pe_var hN hv hd hcd
theorem call_lenD : CallR X (.builtin "len") (fun xs H Q => ∃ a kvs, xs = [V.ref a] /\ H a = some (.dK kvs) /\ Q (.int kvs.length) H) := by
  intro pins s σ H xs us Q I r h
  obtain ⟨a, kvs, rfl, ha, q⟩ := h
  obtain ⟨u, rfl, ru⟩ := vals1 r
  cases ru
  exact d_len I (.inl ha) fun t s' I' => ⟨.int kvs.length, H, I', ⟨t, rfl⟩, q⟩
end
theorem iteF {A B : Prop} (h : B) : if false = true then A else B := by
  rw [if_neg Bool.false_ne_true]
  exact h
theorem iteT {A B : Prop} (h : A) : if true = true then A else B := by
  rw [if_pos rfl]
  exact h
noncomputable def Same (H H' : Hp) : Prop := ∀ b o, H b = some o -> H' b = some o
theorem Same.refl (H : Hp) : Same H H := fun _ _ h => h
theorem Same.trans {H H1 H2 : Hp} (a : Same H H1) (b : Same H1 H2) : Same H H2 := fun c o h => b c o (a c o h)
section
variable {κ : Type} [DecidableEq κ]
end
end L2
set_option maxRecDepth 100000
set_option maxHeartbeats 4000000
namespace L2
open PySem PySem.Spec PyProof.Rows
noncomputable def Flies (fr : List Env) (H : Hp) (old : Addr -> Prop) (e : Addr) (cls : Value) (h : Heap) : Prop :=
  ∃ (B : Heap) (a0 : Value), Heap.FlyingW B fr e cls a0 h /\ ∀ b o, h.get? b = some o -> b ∉ frs fr -> (H b ≠ none \/ old b) -> B.get? b = some o
noncomputable def cxx (P : Program) (w : World) : CXT := fun outer H s E ev s' => ∃ (e : Addr) (cls : Value) (H' : Hp), ev = .ref e /\ s'.os = s.os /\ AllBare s'.gens /\
  Un (frs outer) [] H H' s.heap s'.heap /\ HOk P w H' s'.heap /\ Flies outer H' (fun b => ∃ o, s.heap.get? b = some o) e cls s'.heap /\ E cls none H'
theorem ObjOk.there {P : Program} {w : World} {H : Hp} {h : Heap} {a : Addr} {o : HO} (x : ObjOk P w H h a o) : ∃ ob, h.get? a = some ob := by
  cases o with
  | lst xs => obtain ⟨_, _, _, _, e⟩ := x; exact ⟨_, e⟩
  | tup xs => obtain ⟨_, _, _, _, e, _⟩ := x; exact ⟨_, e⟩
  | dK kvs => obtain ⟨_, _, _, _, o, _, _, e, _⟩ := x; exact ⟨_, e⟩
  | dT kvs => obtain ⟨_, _, _, _, o, _, _, e, _⟩ := x; exact ⟨_, e⟩
  | set S n => obtain ⟨o, _, _, _, e, _⟩ := x; exact ⟨_, e⟩
  | ins C dx fs => obtain ⟨_, _, _, e, _⟩ := x; exact ⟨_, e⟩
  | own y => obtain ⟨_, e⟩ := x; exact ⟨_, e⟩
  | xd fs => obtain ⟨_, ⟨_, _, _, e, _⟩, _⟩ := x; exact ⟨_, e⟩
  | rng lo hi => obtain ⟨_, _, _, e⟩ := x; exact ⟨_, e⟩
  | frz ob u => obtain ⟨e, _⟩ := x; exact ⟨_, e⟩
  | tbl ps => exact ⟨_, (show h.get? a = some _ from x)⟩
  | met f y => exact ⟨_, (show h.get? a = some _ from x)⟩
  | ext φ => obtain ⟨_, ⟨_, e⟩, _⟩ := x; exact ⟨_, e⟩
section
variable {X : Cx} {pins : List (Addr × Obj)} {σ : St} {H : Hp} {s : Shared}
theorem Inv.trkNo (I : Inv X pins σ H s) {b : Addr} {u : HO} (q : H b = some u) : b ∉ frs X.stack := fun m => by
  have z := I.stkFree b m
  rw [q] at z; cases z
theorem Inv.oldNo (I : Inv X pins σ H s) (hst : X.stack = X.env :: X.outer) (hf : X.env.frame = some X.env.locals) {b : Addr} {o : Obj} (q : X.s₀.heap.get? b = some o) (n : b ∉ X.fs) : b ∉ frs X.stack := fun m => by
  rcases List.mem_cons.mp (I.stkSub b m) with z | z
  · exact absurd z (Nat.ne_of_lt (Nat.lt_of_lt_of_le (Heap.lt_size q) I.ok.above))
  · exact n z
theorem end_fly {h' B : Heap} {e : Addr} {cls a0 : Value} {E : XK} (I : Inv X pins σ H s) (hst : X.stack = X.env :: X.outer) (hf : X.env.frame = some X.env.locals) (hex : X.ex = [])
    (fl : Heap.FlyingW B X.outer e cls a0 h') (cov : ∀ b o, s.heap.get? b = some o -> b ∉ frs X.stack -> (H b ≠ none \/ ∃ o, X.s₀.heap.get? b = some o) -> B.get? b = some o)
    (up : s.heap.UpToSlots h') (hE : E cls none H) : cxx X.prog X.w X.outer X.H₀ X.s₀ E (.ref e) { s with heap := h' } := by
  have nex : ∀ b : Addr, b ∉ X.ex := fun b z => by rw [hex] at z; cases z
  have trkd : ∀ b u v, H b = some u -> s.heap.get? b = some v -> h'.get? b = some v := fun b u v q r => fl.1 b v (cov b v r (I.trkNo q) (.inl (by rw [q]; simp)))
  have oldd : ∀ b o v, X.s₀.heap.get? b = some o -> b ∉ X.fs -> s.heap.get? b = some v -> h'.get? b = some v := fun b o v q n r => fl.1 b v (cov b v r (I.oldNo hst hf q n) (.inr ⟨o, q⟩))
  have frms : ∀ b o, b ∈ X.fs -> s.heap.get? b = some o -> ∃ sl, h'.get? b = some { o with slots := sl } := fun b o hb q => by
    obtain ⟨_, o2, ho2, nf⟩ := I.funs.mem hb
    rw [q] at ho2; cases ho2
    exact up b o q nf
  refine ⟨e, cls, H, rfl, I.os, I.bare, ⟨fun b o q n hb hx => ?_, fun b o q n hb hx => ?_, fun b o q n hx => I.base.free b o q n (nex b), fun b o q hx => ?_, I.base.tups, I.base.frzs, I.base.tbls⟩, fun b u q => ?_, ⟨B, a0, fl, fun b o q n hor => ?_⟩, hE⟩
  · exact oldd b o o q hb (I.base.keep b o q n hb (nex b))
  · obtain ⟨sl, e1⟩ := I.base.slot b o q n hb (nex b)
    obtain ⟨sl', e2⟩ := frms b _ hb e1
    exact ⟨sl', e2⟩
  · obtain ⟨o1, e1⟩ := I.base.there b o q (nex b)
    by_cases hb : b ∈ X.fs
    · obtain ⟨sl, e2⟩ := frms b o1 hb e1
      exact ⟨_, e2⟩
    · exact ⟨o1, oldd b o o1 q hb e1⟩
  · refine (I.hok b u q).stay (fun c v hc r => ?_) (fun _ z => z) fun _ _ z => z
    rcases hc with z | z
    · exact trkd c u v (by rw [z]; exact q) r
    · exact trkd c _ v z r
  · have q : h'.get? b = some o := q
    rcases hor with hb | ⟨o0, e0⟩
    · obtain ⟨u, hu⟩ := Option.ne_none_iff_exists'.mp hb
      obtain ⟨o1, e1⟩ := (I.hok b u hu).there
      have := trkd b u o1 hu e1
      rw [q] at this; cases this
      exact cov b _ e1 (I.trkNo hu) (.inl hb)
    · obtain ⟨o1, e1⟩ := I.base.there b o0 e0 (nex b)
      have := oldd b o0 o1 e0 n e1
      rw [q] at this; cases this
      exact cov b _ e1 (I.oldNo hst hf e0 n) (.inr ⟨o0, e0⟩)
end
section
variable {P : Program} {w : World} {K : PySem.W.Frag} {mg : Str -> Option Value} {base : Heap} {N : List Str} {qual : Str} {scope : Scope} {f : Addr} {cd : Value} {A : Around} {outer : List Env} {s : Shared} {H : Hp} {E : XK}
theorem passes_cxx : Passes (cxx P w) (cxOf (cxx P w) P w K mg base N qual scope f cd A outer s H E) E := by
  intro pins σ H1 s1 ev s' I hq
  obtain ⟨e, cls, H', rfl, os, bare, un, hok, ⟨B, a0, fl, cov⟩, hE⟩ := hq
  have I' := I.call' (ch := []) os un hok bare (fun b z => nomatch z)
  have hfr : (A.deeper (envOfC qual scope s.heap.objs.size f cd)).frames = some (envOfC qual scope s.heap.objs.size f cd :: outer) := I.ok.frames
  refine wpAny_leaves_onW (L := s.heap.objs.size) hfr rfl fl fun h' fl' up => ?_
  exact end_fly (E := E) I' rfl rfl rfl fl' (fun b o e1 e2 e3 => cov b o e1 e2 (by
    rcases e3 with z | ⟨o0, z⟩
    · exact .inl z
    · exact .inr (I.base.there b o0 z (fun q => nomatch q)))) up hE
theorem passes_no {X : Cx} : Passes (cxx P w) X (fun _ _ _ => False) := fun _ _ _ _ _ _ _ ⟨_, _, _, _, _, _, _, _, _, z⟩ => z.elim
theorem cxx_no {outer : List Env} {H : Hp} {s : Shared} {e : Value} {s' : Shared} (h : cxx P w outer H s (fun _ _ _ => False) e s') : False := let ⟨_, _, _, _, _, _, _, _, _, z⟩ := h; z
end
theorem topRead_any {mg mb : Str -> Option Value} {h : Heap} (g : h.Ns mainGlobals mg) (b : h.Ns builtinsNs mb) (bb : ∀ x : Str, x ≠ "__name__" -> mb x = bootBuiltins x) (nl : h.NoLimit) (p : Program) : ∃ loose, PySem.W.TopRead p loose mg mb h := by
  obtain ⟨o, es, ep, ho, hd, hk, hf⟩ := id g
  refine ⟨es.toList.filterMap fun e => match e.key with | .str y _ => some y | _ => none, g, b, nl, bb, fun x _ hx _ _ _ => ?_⟩
  rw [<- hf]
  unfold nsFind findBy
  rw [<- Array.find?_toList]
  cases q : es.toList.find? (fun e => e.key.isStr x) with
  | none => rfl
  | some en =>
    exfalso
    have hm := List.mem_of_find?_eq_some q
    have hp := List.find?_some q
    obtain ⟨y, t, hy⟩ := hk en (by simpa using hm)
    rw [hy] at hp
    have hxy : y = x := by simpa [Value.isStr] using hp
    exact hx (List.mem_filterMap.mpr ⟨en, hm, by rw [hy, hxy]⟩)
end L2
set_option maxRecDepth 100000
set_option maxHeartbeats 4000000
namespace L2
open PySem PySem.Spec PyProof.Rows
structure ErrC (K : PySem.W.Frag) (x : Str) (C : Addr) : Prop where
  ns : PySem.W.nsIn K mainGlobals x = some (some (.ref C))
  ex : PySem.W.excIn K C [.type "ValueError", .type "Exception", .type "BaseException", .type "object"] "ValueError.__new__" = true
theorem ErrC.mg {K : PySem.W.Frag} {x : Str} {C : Addr} {h : Heap} {mg : Str -> Option Value} (e : ErrC K x C) (X : K.In h) (G : h.Ns mainGlobals mg) : mg x = some (.ref C) := PySem.W.mg_of X G e.ns
section
variable {X : Cx} {pins : List (Addr × Obj)} {σ : St} {H : Hp} {s : Shared}
theorem Inv.ownCls {x : Str} {C : Addr} (I : Inv X pins σ H s) (e : ErrC X.K x C) : OwnCls x C [.type "ValueError", .type "Exception", .type "BaseException", .type "object"] "ValueError.__new__" X.mg X.base := by
  obtain ⟨mb, b1, b2⟩ := I.mod.blt
  obtain ⟨loose, T⟩ := topRead_any I.mod.glob b1 b2 I.mod.nolimit X.prog
  exact PySem.W.own_of_in I.mod.kin T e.ns e.ex
theorem made_fly {P : Program} {w : World} {K : PySem.W.Frag} {mg : Str -> Option Value} {base : Heap} {N : List Str} {qual : Str} {scope : Scope} {f : Addr} {cd : Value} {A : Around} {outer : List Env} {s : Shared} {H : Hp} {E : XK}
    {pins : List (Addr × Obj)} {σ : St} {H1 : Hp} {s1 : Shared} {h' : Heap} {e : Addr} {cls : Value} {vs : List Value} (I : Inv (cxOf (cxx P w) P w K mg base N qual scope f cd A outer s H E) pins σ H1 s1)
    (hx : Heap.MadeExcOf s1.heap h' e cls vs) (hE : E cls none H1) : (cxOf (cxx P w) P w K mg base N qual scope f cd A outer s H E).xe (.ref e) { s1 with heap := h' } := by
  have hfr : (A.deeper (envOfC qual scope s.heap.objs.size f cd)).frames = some (envOfC qual scope s.heap.objs.size f cd :: outer) := I.ok.frames
  have fs := I.stack
  have hin : ∀ env ∈ (envOfC qual scope s.heap.objs.size f cd :: outer), ∀ b, env.frame = some b -> b ∈ frs (envOfC qual scope s.heap.objs.size f cd :: outer) := fun env he b hb => List.mem_filterMap.mpr ⟨env, he, hb⟩
  refine wpAny_leaves_madeW (L := s.heap.objs.size) (base := PySem.W.hideAll s1.heap (frs (envOfC qual scope s.heap.objs.size f cd :: outer))) hfr rfl (fun b o q => PySem.W.of_hideAll _ q) (PySem.W.funFrames_hide fs hin) hx fun h2 t fl tup nt up => ?_
  refine end_fly (E := E) (h' := h2) I rfl rfl rfl fl (fun b o q n _ => PySem.W.hideAll_get _ q n) (fun b o q nf => ?_) hE
  exact up b o (hx.keeps b o q) nf
end
noncomputable def tRaise (C : Addr) (E : XK) (ta : TA) : TS := fun _ σ H => ta σ H fun vs H1 => vs.length <= sizeLine /\ E (.ref C) none H1
theorem ps_raise {P : Program} {w : World} {K : PySem.W.Frag} {mg : Str -> Option Value} {base : Heap} {N : List Str} {qual : Str} {scope : Scope} {f : Addr} {cd : Value} {A : Around} {outer : List Env} {s : Shared} {H : Hp} {E : XK}
    {x : Str} {C : Addr} {e₀ : Expr} {rest : List Expr} {ta : TA} {np cpos pos : Pos} (hh : A.handled = none) (hc : ErrC K x C) (hg : Gl (cxOf (cxx P w) P w K mg base N qual scope f cd A outer s H E) x)
    (ha : PA (cxOf (cxx P w) P w K mg base N qual scope f cd A outer s H E) (e₀ :: rest) ta) (hd : autoParam ((x == ("__debug__" : Str)) = false) L2.au1._auto_1)
    (he : autoParam (starEach (e₀ :: rest) (envOfC qual scope s.heap.objs.size f cd) = (false, eval e₀ (envOfC qual scope s.heap.objs.size f cd)) :: starEach rest (envOfC qual scope s.heap.objs.size f cd)) L2.au3._auto_1)
    (hp : autoParam ((backTo cpos (starEach rest (envOfC qual scope s.heap.objs.size f cd))).any (·.1) = false) L2.au3._auto_1) :
    PS (cxOf (cxx P w) P w K mg base N qual scope f cd A outer s H E) (.Raise (some (.Call (.Name x np) (e₀ :: rest) [] cpos)) none pos) (tRaise C E ta) := by
  intro pins s1 σ H1 D I h
  obtain ⟨bm, NN, nm, q, bs, hdct, sn, sub, ab, col, dd, k0, k1, k2, k3, k5, mN, hC, hN, hni, T⟩ := (I.ownCls hc).obj
  have F := PySem.F.excBase_ValueError
  refine wpAny_Raise_call_subT (C := C) (nm := nm) (q := q) (N := NN) (bs := bs) (bm := bm) (hdct := hdct) (sn := sn) (sub := sub) (ab := ab) (col := col) (dd := dd) (k0 := k0) (k1 := k1) (k2 := k2) (k3 := k3) (k5 := k5) F (mN := mN)
    (T.hasType F.hasBase) hh (by show (backTo cpos (starEach (e₀ :: rest) (envOfC qual scope s.heap.objs.size f cd))).any (·.1) = false; rw [he]; exact hp) hni (ld_glob I hg (hc.mg I.mod.kin I.mod.glob) ⟨rfl, ?_⟩ hd)
  have hw := ha cpos pins s1 σ H1 _ I h
  have hw : wpAny (model P w) (A.deeper (envOfC qual scope s.heap.objs.size f cd)) (spliced (backTo cpos (starEach (e₀ :: rest) (envOfC qual scope s.heap.objs.size f cd)))) _ _ s1 := hw
  show wpAny _ _ (evalArgs (.ref C) true (backTo cpos (starEach (e₀ :: rest) (envOfC qual scope s.heap.objs.size f cd))) []) _ _ s1
  rw [he] at hw ⊢
  refine Calls.evalArgs_plain (thn hw fun us s2 ⟨vs, H2, I2, r, z, hE⟩ => ?_)
  refine ⟨rfl, by rw [<- r.length]; exact z, I2.bk _ _ hC, hN.keeps I2.bk, T.keeps I2.bk, fun h' e hx => made_fly I2 hx hE⟩
noncomputable abbrev Cx.within (X : Cx) (e : Addr) (oe : Obj) : Cx := { X with A := X.A.mark (some (.ref e)), calm := false, pn := X.pn ++ [(e, oe)], xe := fun _ _ => False }
section
variable {X : Cx} {pins : List (Addr × Obj)} {σ : St} {H : Hp} {s : Shared} {e : Addr} {oe : Obj}
theorem Cx.Ok.within (ok : X.Ok) : (X.within e oe).Ok :=
  ⟨ok.mod, ok.kind, ok.glob, ok.blt, ok.above, ok.inj, ok.has, ok.cab, (fun z => by cases z), ok.frames, ok.stk, ok.exf, ok.bs, ok.bsz, ok.noex, ok.exfs, ok.funs, ok.frf⟩
theorem Cx.Ok.without (ok : (X.within e oe).Ok) (hd : X.calm = true -> X.A.handled = none) : X.Ok :=
  ⟨ok.mod, ok.kind, ok.glob, ok.blt, ok.above, ok.inj, ok.has, ok.cab, hd, ok.frames, ok.stk, ok.exf, ok.bs, ok.bsz, ok.noex, ok.exfs, ok.funs, ok.frf⟩
theorem Inv.within (I : Inv X pins σ H s) (h1 : s.heap.get? e = some oe) (h2 : H e = none) (h3 : e ≠ X.env.locals) (h4 : e ∉ X.fs) (h5 : ∀ v, oe.data ≠ .cell v) : Inv (X.within e oe) pins σ H s :=
  ⟨I.ok.within, I.os, I.bare, I.base, I.loc, I.cell, I.free, I.freeC, fun p hp => by
    rcases List.mem_append.mp hp with z | z
    · rcases List.mem_append.mp z with z | z
      · exact I.pin p (List.mem_append_left _ z)
      · obtain rfl := List.mem_singleton.mp z
        exact ⟨h1, h2, h3, h4, h5⟩
    · exact I.pin p (List.mem_append_right _ z), I.hok, I.len⟩
theorem Inv.without (I : Inv (X.within e oe) pins σ H s) (hd : X.calm = true -> X.A.handled = none) : Inv X pins σ H s :=
  ⟨I.ok.without hd, I.os, I.bare, I.base, I.loc, I.cell, I.free, I.freeC, fun p hp => by
    rcases List.mem_append.mp hp with z | z
    · exact I.pin p (List.mem_append_left _ (List.mem_append_left _ z))
    · exact I.pin p (List.mem_append_right _ z), I.hok, I.len⟩
theorem SP.without {D : Ends} {f : Flow} (h : SP (X.within e oe) pins D f s) (hd : X.calm = true -> X.A.handled = none) : SP X pins D f s := by
  cases f with
  | next => obtain ⟨σ', H', I, q⟩ := h; exact ⟨σ', H', I.without hd, q⟩
  | brk => obtain ⟨σ', H', I, q⟩ := h; exact ⟨σ', H', I.without hd, q⟩
  | cont => obtain ⟨σ', H', I, q⟩ := h; exact ⟨σ', H', I.without hd, q⟩
  | ret u => obtain ⟨v, σ', H', I, r, q⟩ := h; exact ⟨v, σ', H', I.without hd, r, q⟩
theorem Inv.reframe {h' : Heap} {t' : Nat} {m' : Str -> Option Value} {σ' : St} (I : Inv X pins σ H s) (hn' : h'.Ns X.env.locals m') (hs : Heap.SameBut X.env.locals s.heap h') (hl : σ'.length = σ.length)
    (hv : ∀ m, s.heap.Ns X.env.locals m -> (∀ (i : Nat) (x : Str) (v : V), X.N[i]? = some x -> σ[i]? = some (some v) -> Vis X.env.scope x -> ∃ u, RelV v u /\ Look X.env s.heap m x u) ->
      ∀ (i : Nat) (x : Str) (v : V), X.N[i]? = some x -> σ'[i]? = some (some v) -> Vis X.env.scope x -> ∃ u, RelV v u /\ Look X.env s.heap m' x u) : Inv X pins σ' H { s with heap := h', toks := t' } := by
  obtain ⟨m, hn, hr⟩ := id I.loc
  obtain ⟨oL, _, _, hoL, _⟩ := id hn
  have tracked : HOk X.prog X.w H h' := fun b ob q => by
    refine (I.hok b ob q).stay (fun c v hc r => (hs.2 c ?_).trans r) (fun _ z => z) fun _ _ z => z
    rintro rfl
    rcases hc with rfl | hc
    · rw [I.free] at q; cases q
    · rw [I.free] at hc; cases hc
  have below : ∀ b o, X.s₀.heap.get? b = some o -> b ≠ X.env.locals := fun b o q => Nat.ne_of_lt (Nat.lt_of_lt_of_le (Heap.lt_size q) I.ok.above)
  refine ⟨I.ok, I.os, I.bare, ⟨fun b o q n hb hx => (hs.2 b (below b o q)).trans (I.base.keep b o q n hb hx), fun b o q n hb hx => ?_, I.base.free, fun b o q hx => ?_, I.base.tups, I.base.frzs, I.base.tbls⟩, ⟨m', hn', fun i x v e1 e2 e3 => ?_⟩, fun y c q => ?_, I.free, I.freeC, fun p hp => ?_, tracked, hl.trans I.len⟩
  · obtain ⟨sl, e1⟩ := I.base.slot b o q n hb hx
    exact ⟨sl, (hs.2 b (below b o q)).trans e1⟩
  · obtain ⟨o', e1⟩ := I.base.there b o q hx
    exact ⟨o', (hs.2 b (below b o q)).trans e1⟩
  · obtain ⟨u, r, l⟩ := hv m hn hr i x v e1 e2 e3
    refine ⟨u, r, ?_⟩
    rcases l with l | ⟨k, c, e, z⟩
    · exact .inl l
    · exact .inr ⟨k, c, e, z.sameBut hs (I.cne x c e)⟩
  · obtain ⟨w', z⟩ := I.cell y c q
    exact ⟨w', z.sameBut hs (I.cne y c q)⟩
  · obtain ⟨q, n, ne, nf, d⟩ := I.pin p hp
    exact ⟨(hs.2 p.1 ne).trans q, n, ne, nf, d⟩
theorem name_out {M : Model} {A : Around} {E : Value -> Shared -> Prop} {i : Nat} {n : Str} {pos : Pos} {Q : Unit -> Shared -> Prop} (I : Inv X pins σ H s) (hN : X.N.Nodup) (hi : X.N[i]? = some n) (hx : X.env.scope.names.lookup n = some .local)
    (h : ∀ s', Inv X pins (σ.set i none) H s' -> Q () s') : wpAny M A (do bindName X.env n .none; unbindBehindTheSuite X.env n pos) Q E s := by
  have hcls : (X.env.scope.kind == .class || (X.env.scope.kind == .module && X.env.locals != X.env.globals)) = false := by rw [I.ok.kind]; rfl
  have hl : X.env.kindOf n = some .local := hx
  refine wpAny_bind (wpAny_bindName (store_ok I hN hi (.inl hx) (v := .non) (u := .none) rfl (fun s1 I1 => ?_) (.inr hx)))
  unfold unbindBehindTheSuite
  refine wpAny_onRaise ?_
  unfold unbindName
  refine wpAny_bind (wpAny_point (wpAny_bind ?_))
  unfold deleteName
  simp only [hl, hcls]
  rw [if_neg (by decide)]
  obtain ⟨m, hn, hl'⟩ := id I1.loc
  have hiσ : i < σ.length := by rw [I.len]; exact (List.getElem?_eq_some_iff.mp hi).1
  have hmn : (m n).isSome = true := by
    obtain ⟨u, r, l⟩ := hl' i n .non hi (by rw [List.getElem?_set_self hiσ]) (.inl hx)
    rcases l with ⟨_, z⟩ | ⟨k, _⟩
    · rw [z]; rfl
    · rcases k with k | k
      · rw [hl] at k; cases k
      · rw [hl] at k; cases k
  refine wpAny_bind (wpAny_nsDel_keeps hn fun h2 v hn2 hs2 => ?_)
  rw [hmn]
  simp only [if_true, Bool.not_true, Bool.false_eq_true, if_false]
  refine wpAny_pure (wpAny_point (h _ ?_))
  have I2 : Inv X pins (σ.set i none) H { s1 with heap := h2, toks := s1.toks } := I1.reframe hn2 hs2 (by simp) (fun m0 hn0 hv0 j y v e1 e2 e3 => by
    have em : m0 = m := by
      funext z
      obtain ⟨o1, es1, ep1, a1, b1, _, c1⟩ := hn0
      obtain ⟨o2, es2, ep2, a2, b2, _, c2⟩ := hn
      rw [a1] at a2; cases a2
      rw [b1] at b2; cases b2
      rw [<- c1, <- c2]
    subst em
    have hj : j ≠ i := by
      rintro rfl
      rw [List.getElem?_set_self hiσ] at e2; cases e2
    rw [List.getElem?_set_ne (Ne.symm hj)] at e2
    obtain ⟨u, r, l⟩ := hv0 j y v e1 (by rw [List.getElem?_set_ne (Ne.symm hj)]; exact e2) e3
    refine ⟨u, r, ?_⟩
    have hy : y ≠ n := fun z => hj (nodup_ix hN e1 (z ▸ hi))
    rcases l with ⟨k, z⟩ | l
    · exact .inl ⟨k, by show (if y = n then _ else m0 y) = some u; rw [if_neg hy]; exact z⟩
    · exact .inr l)
  exact I2
end
end L2
set_option maxRecDepth 100000
set_option maxHeartbeats 4000000
namespace L2
open PySem PySem.Spec PyProof.Rows
structure ErrI (K : PySem.W.Frag) (C : Addr) : Prop where
  ga : PySem.W.findIn K (.ref C) "__getattribute__" = some (some (.builtin "BaseException.__getattribute__"))
  gt : PySem.W.findIn K (.ref C) "__getattr__" = some none
  cl : PySem.W.findIn K (.ref C) "__class__" = some (some (.builtin "object.__class__"))
  sp : PySem.W.specialIn K (.builtin "object.__class__") "__get__" = some (some (.builtin "getset_descriptor.__get__"))
  tk : PySem.W.takesIn K (.builtin "object.__class__") = some true
  mo : PySem.W.mroIn K C (.type "object") = some true
  mb : PySem.W.mroIn K C (.type "BaseException") = some true
  it : (PySem.W.clsIn K C).isSome = true
section
open PySem.W Builtin Builtin.ObjectAttr Builtin.Getset_descriptor
variable {prog : Program} {w : World} {A : Around} {E : Value -> Shared -> Prop} {s : Shared} {K : Frag} {e C : Addr}
theorem exc_class {Q : Option Value -> Shared -> Prop} (c : ErrI K C) (X : K.In s.heap) (LT : Looks (model prog w) s.heap (typeOf (.ref e)) (.ref C)) (h : Q (some (.ref C)) { s with toks := s.toks + 1 }) : wpAny (model prog w) A (getAttr? (.ref e) "__class__") Q E s := by
  obtain ⟨hh, g, d, t, os⟩ := s
  have L1 := looks_findIn (M := model prog w) X c.ga
  have L2' := looks_findIn (M := model prog w) X c.gt
  have L3 := looks_findIn (M := model prog w) X c.cl
  have L4 := looks_specialIn (M := model prog w) X c.sp
  have L5 := looks_takesIn (M := model prog w) X c.tk
  have L6 := looks_mroIn (M := model prog w) X c.mo
  have L7 := looks_mroIn (M := model prog w) X c.mb
  have hb := PySem.F.attr_ValueError.ga.bind (.ref e)
  unfold getAttr? getAttrBy? getAttrBy
  refine wpAny_bind (wpAny_mkText (wpAny_bind (wpAny_attempt (wpAny_holding ?_))))
  repeat (first | with_reducible refine wpAny_attempt ?_ | with_reducible refine wpAny_call ?_ | lk)
  refine codeAny_call_builtin PySem.F.attr_ValueError.ga.plain F.entry_bexc_ga ?_
  have hk : builtinKind "BaseException.__getattribute__" = some .slot := by decide +kernel
  have hsp : splitId "BaseException.__getattribute__" = some ("BaseException", "__getattribute__") := by decide +kernel
  have har := F.args_bexc_ga (.ref e) (.str "__class__" t)
  simp only [checkBuiltinCall, hk, hsp]
  unfold isInstance
  repeat (first | with_reducible refine wpAny_attempt ?_ | with_reducible refine wpAny_call ?_ | lk)
  have z : codeAny (model prog w) A.in1 (.call (.builtin "getset_descriptor.__get__") ⟨[.builtin "object.__class__", .ref e, .ref C], []⟩) (fun r s' => r = .ok (.ret (.ref C)) /\ s' = ⟨hh, g, d, t + 1, os⟩) ⟨hh, g, d, t + 1, os⟩ := by
    refine codeAny_call_builtin KF.slot_gs.plain KF.entry_gs ?_
    refine KF.slot_gs.check _ _ _ _ _ _ _ _ KF.type_class (KF.args_gs _ _ _) ?_
    unfold Builtin.«getset_descriptor.__get__»
    unfold descrGet
    rw [dga_obj]
    refine wpAny_bind (wpAny_pure ?_)
    unfold descrGetter descrCheckInstance
    unfold descrNameAndClass isInstance
    simp only [KF.owner_class]
    repeat lk
    refine ⟨Code.quiet_builtin _ (by decide +kernel), ?_⟩
    refine codeAny_builtin KF.entry_class ?_
    unfold Builtin.«object.__class__»
    unfold shownTypeOf
    repeat lk
    exact ⟨rfl, rfl⟩
  refine codeAny_mono z fun r s' q => ?_
  obtain ⟨rfl, rfl⟩ := q
  repeat lk
  exact h
end
end L2
set_option maxRecDepth 100000
set_option maxHeartbeats 4000000
namespace L2
open PySem PySem.Spec PyProof.Rows
section
open PySem.W
variable {K : Frag} {e C : Addr}
theorem errI_isType (c : ErrI K C) {M : Model} {h : Heap} (X : K.In h) : Looks M h (isType (.ref C)) true := by
  have z := c.it
  unfold clsIn at z
  split at z
  · rename_i a b cd sl ho
    intro A' Q' E' s' k q
    unfold isType
    unfold loadHead
    refine wpAny_bind (wpAny_loadPart (k _ _ (X _ _ ho)) ?_)
    exact wpAny_pure q
  · cases z
theorem kitx_exc (c : ErrI K C) : KitX K (.ref e) (.ref C) (fun h => ∃ o, h.get? e = some o /\ o.cls = .ref C) where
  ty := fun M h _ p => by
    obtain ⟨o, h1, h2⟩ := p
    exact h2 ▸ (Looks.ld h1).andThen .now
  it := fun _ _ X _ => errI_isType c X
  ne := fun h tp dd its n sl X htp => by
    refine Bool.eq_false_iff.mpr fun q => ?_
    have ee : C = tp := Value.ref.inj (beq_iff_eq.mp q)
    subst ee
    have z := c.it
    unfold clsIn at z
    split at z
    · rename_i a b cd sl' ho
      rw [X _ _ ho] at htp
      cases htp
    · cases z
  ca := fun {prog w A E Q s} X p k => by
    obtain ⟨o, h1, h2⟩ := p
    exact exc_class c X (h2 ▸ (Looks.ld h1).andThen .now) k
end
inductive IsTy (K : PySem.W.Frag) (pn : List (Addr × Obj)) (H : Hp) : V -> Value -> Prop where
  | of {x : V} {t : Value} (h : TyOf K H x t) : IsTy K pn H x t
  | frd {a : Addr} {o : Obj} {kvs : List (Key × V)} (e : H a = some (.frz o (.dK kvs))) : IsTy K pn H (.ref a) (.type "dict")
  | exc {a C : Addr} {oe : Obj} (hm : (a, oe) ∈ pn) (hc : oe.cls = .ref C) (c : ErrI K C) : IsTy K pn H (.ref a) (.ref C)
inductive ClV : V -> Value -> Prop where
  | ref (a : Addr) : ClV (.ref a) (.ref a)
  | ty (n : String) : ClV (.ty n) (.type n)
noncomputable def rIsi (K : PySem.W.Frag) (pn : List (Addr × Obj)) : List V -> Hp -> VK -> Prop := fun xs H Q => ∃ x c t u b, xs = [x, c] /\ IsTy K pn H x t /\ ClV c u /\ PySem.W.kitOne K t u = some b /\ Q (.bl b) H
theorem call_isi {X : Cx} : CallR X (.builtin "isinstance") (rIsi X.K X.pn) := by
  intro pins s σ H xs us Q I r h
  obtain ⟨x, c, t, u, b, rfl, ht, hc, hk, q⟩ := h
  obtain ⟨u1, u2, rfl, rx, rc⟩ := vals2 r
  have e2 : u2 = u := by cases hc with
    | ref a => exact rc
    | ty n => exact rc
  subst e2
  cases ht with
  | of ht => exact isinst_ok I rx ht hk fun tk => ⟨.bl b, H, I.tok tk, rfl, q⟩
  | @frd a o kvs e =>
    obtain rfl : u1 = Value.ref a := rx
    obtain ⟨_, _, _, vs, _, p⟩ := (show ObjOk X.prog X.w H s.heap a (.frz o (.dK kvs)) from I.hok a _ e)
    obtain ⟨o', es, ep, h1, h2, _⟩ := p
    exact PySem.W.kia_one PySem.W.kitx_dict I.kIn ⟨o', h1, h2.1⟩ hk (fun z => by cases z) fun tk => ⟨.bl b, H, I.tok tk, rfl, q⟩
  | exc hm hcl ci =>
    obtain ⟨e1, _⟩ := I.pin _ (List.mem_append_left _ hm)
    obtain rfl : u1 = Value.ref _ := rx
    exact PySem.W.kia_one (kitx_exc ci) I.kIn ⟨_, e1, hcl⟩ hk (fun z => by cases z) fun tk => ⟨.bl b, H, I.tok tk, rfl, q⟩
end L2
set_option maxRecDepth 100000
set_option maxHeartbeats 4000000
namespace L2
open PySem PySem.Spec PyProof.Rows
section
variable {X : Cx} {pins : List (Addr × Obj)} {σ : St} {H : Hp} {s : Shared}
theorem Inv.flown {h' B : Heap} {old : Addr -> Prop} (I : Inv X pins σ H s) (hst : X.stack = X.env :: X.outer) (hf : X.env.frame = some X.env.locals) (st : B.StaysIn h') (up : s.heap.UpToSlots h')
    (cov : ∀ b o, s.heap.get? b = some o -> b ∉ frs X.stack -> (H b ≠ none \/ old b) -> B.get? b = some o) (o1 : ∀ b o, X.s₀.heap.get? b = some o -> b ∉ X.ex -> old b) (o3 : ∀ p ∈ X.pn ++ pins, old p.1) :
    Inv X pins σ H { s with heap := h' } := by
  have trkd : ∀ b u v, H b = some u -> s.heap.get? b = some v -> h'.get? b = some v := fun b u v q r => st b v (cov b v r (I.trkNo q) (.inl (by rw [q]; simp)))
  have oldd : ∀ b o v, X.s₀.heap.get? b = some o -> b ∉ X.fs -> b ∉ X.ex -> s.heap.get? b = some v -> h'.get? b = some v := fun b o v q n x r => st b v (cov b v r (I.oldNo hst hf q n) (.inr (o1 b o q x)))
  have frms : ∀ b o, b ∈ X.fs -> s.heap.get? b = some o -> ∃ sl, h'.get? b = some { o with slots := sl } := fun b o hb q => by
    obtain ⟨_, o2, ho2, nf⟩ := I.funs.mem hb
    rw [q] at ho2; cases ho2
    exact up b o q nf
  have cellK : ∀ c v, s.heap.IsCell c v -> h'.IsCell c v := fun c v ⟨o, ho, hd⟩ => by
    obtain ⟨sl, e⟩ := up c o ho (fun vs q => by rw [hd] at q; cases q)
    exact ⟨_, e, hd⟩
  refine ⟨I.ok, I.os, I.bare, ⟨fun b o q n hb hx => oldd b o o q hb hx (I.base.keep b o q n hb hx), fun b o q n hb hx => ?_, I.base.free, fun b o q hx => ?_, I.base.tups, I.base.frzs, I.base.tbls⟩, ?_, fun y c q => ?_, I.free, I.freeC, fun p hp => ?_, fun b u q => ?_, I.len⟩
  · obtain ⟨sl, e1⟩ := I.base.slot b o q n hb hx
    obtain ⟨sl', e2⟩ := frms b _ hb e1
    exact ⟨sl', e2⟩
  · obtain ⟨o1', e1⟩ := I.base.there b o q hx
    by_cases hb : b ∈ X.fs
    · obtain ⟨sl, e2⟩ := frms b o1' hb e1
      exact ⟨_, e2⟩
    · exact ⟨o1', oldd b o o1' q hb hx e1⟩
  · obtain ⟨m, hn, hl⟩ := I.loc
    refine ⟨m, up.ns hn, fun i x v e1 e2 e3 => ?_⟩
    obtain ⟨u, r, l⟩ := hl i x v e1 e2 e3
    refine ⟨u, r, ?_⟩
    rcases l with l | ⟨k, c, e, z⟩
    · exact .inl l
    · exact .inr ⟨k, c, e, cellK c _ z⟩
  · obtain ⟨v, z⟩ := I.cell y c q
    exact ⟨v, cellK c v z⟩
  · obtain ⟨q, n, ne, nf, d⟩ := I.pin p hp
    have hns : p.1 ∉ frs X.stack := fun m => by
      rcases List.mem_cons.mp (I.stkSub p.1 m) with z | z
      · exact ne z
      · exact nf z
    exact ⟨st _ _ (cov _ _ q hns (.inr (o3 p hp))), n, ne, nf, d⟩
  · refine (I.hok b u q).stay (fun c v hc r => ?_) (fun _ z => z) fun _ _ z => z
    rcases hc with z | z
    · exact trkd c u v (by rw [z]; exact q) r
    · exact trkd c _ v z r
end
noncomputable def tTry (K : PySem.W.Frag) (CS : Addr) (i : Nat) (sp : Sp) (dvs : List V) (t : TA) (ts : Addr -> Obj -> TS) : TS := fun D σ H => t σ H fun vs H1 => sp (vs ++ dvs) H1 (fun _ H2 => D.nx σ H2)
  (fun cls _ H2 => ∃ C, cls = .ref C /\ PySem.W.exmOne K (.ref C) (.ref CS) = some true /\ ∀ (e : Addr) (oe : Obj), oe.cls = .ref C -> H2 e = none ->
    ts e oe { nx := fun σ' H' => D.nx (σ'.set i none) H', rt := D.rt, bk := fun σ' H' => D.bk (σ'.set i none) H', ct := fun σ' H' => D.ct (σ'.set i none) H' } (σ.set i (some (.ref e))) H2)
theorem ps_try {X : Cx} {k : Nat} {f CS : Addr} {fd : FuncData} {ps : List Str} {sp : Sp} {dvs : List V} {ds : List Value} {x xc n : Str} {p pos pos' pc hpos tpos : Pos} {e : Expr} {es : List Expr} {t : TA} {i : Nat} {b₀ : Stmt} {suite : List Stmt} {ts : Addr -> Obj -> TS}
    (hst : X.stack = X.env :: X.outer) (hf : X.env.frame = some X.env.locals) (hc : X.calm = true) (hN : X.N.Nodup)
    (F : FnOk X.prog X.w X.K X.mg X.base (cxx X.prog X.w) k f fd ps sp) (hr : Room k X.A) (hg : Gl X x) (hm : X.mg x = some (.ref f)) (hk : PySem.W.keepIn X.K (.ref f) = true) (hb : Binds X.K fd ps ds) (hd : Vals dvs ds)
    (ha : PA X.nox (e :: es) t) (hgc : Gl X xc) (hmc : X.mg xc = some (.ref CS)) (hi : X.N[i]? = some n) (hx : X.env.scope.names.lookup n = some .local)
    (hsuite : ∀ (e : Addr) (oe : Obj), PSs (X.within e oe) (b₀ :: suite) (ts e oe))
    (hdb : autoParam ((x == ("__debug__" : Str)) = false) L2.au1._auto_1) (hdc : autoParam ((xc == ("__debug__" : Str)) = false) L2.au1._auto_1)
    (he : autoParam (starEach (e :: es) X.env = (false, eval e X.env) :: starEach es X.env) L2.au3._auto_1) (hpl : autoParam ((backTo pos (starEach es X.env)).any (·.1) = false) L2.au3._auto_1)
    (hsw : autoParam (swapsWith (.Call (.Name x p) (e :: es) [] pos) none pos'.line X.env = pure false) L2.au3._auto_1) :
    PS X (.Try [.Expr (.Call (.Name x p) (e :: es) [] pos) pos'] [.ExceptHandler (some (.Name xc pc)) (some n) (b₀ :: suite) hpos] [] [] tpos) (tTry X.K CS i sp dvs t ts) := by
  intro pins s σ H D I h
  have hhd : X.calm = true -> X.A.handled = none := I.ok.hd
  refine wpAny_Try_except (wpAny_execs_cons (wpAny_Expr_any ?_ I.quiet hsw))
  refine wpAny_Call_Name_kw (ld_glob I hg hm ?_ hdb)
  refine PySem.W.callWith_K (h₀ := X.base) I.ok.mod.kin hk ?_ he hpl
  refine wpAny_mono (ha pos pins s σ H _ (I.wish _) h) (fun us s1 ⟨vs, H1, I1, r, q⟩ => ⟨I1.kIn, ?_⟩) fun _ _ z => z.elim
  have I1 : Inv X pins σ H1 s1 := I1.unwish
  have r2 : Vals (vs ++ dvs) (us ++ ds) := r.append hd
  have hl : (us ++ ds).length = ps.length := by rw [<- r2.length]; exact F.len _ _ _ _ q
  refine wpAny_call (codeAny_mono (F.run X.A X.stack s1 H1 ⟨us, []⟩ (us ++ ds) (vs ++ dvs) _ _ hr I1.env0 (hb s1 us I1.kIn hl) r2 q) fun r s' hq => ?_)
  cases r with
  | ok fl =>
    cases fl with
    | ret u =>
      obtain ⟨v, H2, I2, rv, qn⟩ := I1.after hq
      exact wpAny_execs_nil (wpAny_execs_nil ⟨σ, H2, I2, qn⟩)
    | next => exact False.elim hq
    | brk => exact False.elim hq
    | cont => exact False.elim hq
  | error ev =>
    obtain ⟨e1, cls, H2, rfl, os, bare, un, hok, ⟨B, a0, fl, cov⟩, C, rfl, hex, hsu⟩ := hq
    have I2 : Inv X pins σ H2 s' := I1.call' (ch := []) os un hok bare (fun b z => nomatch z)
    have fl' : Heap.FlyingW B (X.env :: X.outer) e1 (.ref C) a0 s'.heap := by rw [<- hst]; exact fl
    have hfr : X.A.frames = some (X.env :: X.outer) := by rw [<- hst]; exact I.ok.frames
    have o1 : ∀ b o, X.s₀.heap.get? b = some o -> b ∉ X.ex -> ∃ o, s1.heap.get? b = some o := fun b o q x => I1.base.there b o q x
    have o3 : ∀ p ∈ X.pn ++ pins, ∃ o, s1.heap.get? p.1 = some o := fun p hp => ⟨_, (I1.pin p hp).1⟩
    have flown : ∀ h' : Heap, B.StaysIn h' -> s'.heap.UpToSlots h' -> Inv X pins σ H2 { s' with heap := h' } := fun h' st up => I2.flown hst hf st up cov o1 o3
    have he2 : H2 e1 = none := by
      cases q : H2 e1 with
      | none => rfl
      | some u =>
        obtain ⟨o, ho⟩ := (I2.hok e1 u q).there
        have := cov e1 o ho (I2.trkNo q) (.inl (by rw [q]; simp))
        rw [fl.2.1] at this; cases this
    have apart : ∀ (h' : Heap), Heap.FlyingW B (X.env :: X.outer) e1 (.ref C) a0 h' -> ∃ oe, h'.get? e1 = some oe /\ oe.cls = .ref C /\ (∃ vs, oe.data = .fields vs) /\ e1 ≠ X.env.locals /\ e1 ∉ X.fs := fun h' z => by
      obtain ⟨oe, vs, q1, q2, q3, _⟩ := z.first
      have nfr : e1 ∉ frs (X.env :: X.outer) := fun m => by
        obtain ⟨_, o, ho, nf⟩ := z.2.2.1.mem m
        rw [q1] at ho; cases ho
        exact nf vs q3
      refine ⟨oe, q1, q2, ⟨vs, q3⟩, fun q => nfr ?_, fun m => nfr ?_⟩
      · rw [q]
        unfold frs
        rw [List.filterMap_cons, hf]
        exact List.mem_cons_self
      · unfold frs
        rw [List.filterMap_cons, hf]
        exact List.mem_cons_of_mem _ m
    refine wpAny_looks_onW hfr hf fl' fun h4 hd4 up4 => ?_
    refine wpAny_landsW hd4 fun h5 fl5 up5 => ?_
    have up5' : s'.heap.UpToSlots h5 := up4.trans up5
    have I5 := flown h5 fl5.1 up5'
    obtain ⟨oe5, g1, g2, ⟨vs5, g3⟩, g4, g5⟩ := apart h5 fl5
    have I5w : Inv (X.within e1 oe5) pins σ H2 { s' with heap := h5 } := I5.within g1 he2 g4 g5 (fun v q => by rw [g3] at q; cases q)
    refine wpAny_handleBy_cons (codeAny_handlers_test (ld_glob (X := X.within e1 oe5) I5w hgc hmc ?_ hdc)) (by intro q; cases q)
    have LT : PySem.W.Looks (model X.prog X.w) h5 (typeOf (.ref e1)) (.ref C) := g2 ▸ (PySem.W.Looks.ld g1).andThen .now
    refine (PySem.W.exm_one I5.kIn LT hex).here ?_
    refine codeAny_handlers_suite_as ?_
    refine lands_againW fl5 fun h6 fl6 up6 => ?_
    have I6 := flown h6 fl6.1 (up5'.trans up6)
    obtain ⟨oe6, k1, k2, ⟨vs6, k3⟩, k4, k5⟩ := apart h6 fl6
    refine store_ok2 I6 hN hi (.inl hx) (v := .ref e1) (u := .ref e1) rfl (fun s7 I7 sb => ?_) (.inr hx)
    obtain ⟨a7, sb7, ha7⟩ := sb
    have ne7 : e1 ≠ a7 := by
      rcases ha7 with z | z
      · rw [z]; exact k4
      · intro q
        obtain ⟨v, o, ho, hdd⟩ := I6.cell n a7 z
        rw [<- q] at ho
        have ho : h6.get? e1 = some o := ho
        rw [k1] at ho; cases ho
        rw [k3] at hdd; cases hdd
    have e7 : s7.heap.get? e1 = some oe6 := (sb7.2 e1 ne7).trans k1
    have I7w : Inv (X.within e1 oe6) pins (σ.set i (some (.ref e1))) H2 s7 := I7.within e7 he2 k4 k5 (fun v q => by rw [k3] at q; cases q)
    refine wpAny_mono (hsuite e1 oe6 pins s7 _ H2 _ I7w (hsu e1 oe6 k2 he2)) (fun fl8 s8 q8 => ?_) fun _ _ z => z.elim
    have q8 := SP.without q8 hhd
    cases fl8 with
    | next =>
      obtain ⟨σ8, H8, I8, q⟩ := q8
      exact name_out I8 hN hi hx fun s9 I9 => ⟨_, H8, I9, q⟩
    | brk =>
      obtain ⟨σ8, H8, I8, q⟩ := q8
      exact name_out I8 hN hi hx fun s9 I9 => ⟨_, H8, I9, q⟩
    | cont =>
      obtain ⟨σ8, H8, I8, q⟩ := q8
      exact name_out I8 hN hi hx fun s9 I9 => ⟨_, H8, I9, q⟩
    | ret u =>
      obtain ⟨v8, σ8, H8, I8, r8, q⟩ := q8
      exact name_out I8 hN hi hx fun s9 I9 => ⟨v8, _, H8, I9, r8, q⟩
end L2
set_option maxRecDepth 100000
set_option maxHeartbeats 4000000
namespace L2
open PySem PySem.Spec PyProof.Rows
noncomputable def closL (cells : List (Str × Addr)) : List (Str × NameKind) -> List (Str × Addr) -> List (Str × Addr)
  | [], acc => acc
  | (n, k) :: r, acc => closL cells r (if (k == .free) = true then (n, (cells.lookup n).getD 0) :: acc else acc)
theorem closureFor_of {scope : Scope} {env : Env} (h : ∀ y ∈ scope.names, y.2 = .free -> ∃ c, env.cells.lookup y.1 = some c) : closureFor scope env = pure (closL env.cells scope.names []) := by
  have go : ∀ (l : List (Str × NameKind)) (acc : List (Str × Addr)), (∀ y ∈ l, y.2 = .free -> ∃ c, env.cells.lookup y.1 = some c) ->
      (forIn l acc fun (x : Str × NameKind) (r : List (Str × Addr)) => (if (x.2 == .free) = true then (do let a <- cellOf env x.1; pure (ForInStep.yield ((x.1, a) :: r))) else pure (ForInStep.yield r) : Sem (ForInStep (List (Str × Addr))))) = pure (closL env.cells l acc) := by
    intro l
    induction l with
    | nil => intro acc _; rfl
    | cons x r ih =>
      intro acc hx
      obtain ⟨n, k⟩ := x
      rw [List.forIn_cons]
      have hr := fun acc => ih acc fun y hy => hx y (List.mem_cons_of_mem _ hy)
      by_cases hk : (k == NameKind.free) = true
      · obtain ⟨c, hc⟩ := hx (n, k) List.mem_cons_self (by simpa using hk)
        have hc' : env.cells.lookup n = some c := hc
        have e1 : cellOf env n = pure c := by unfold cellOf; rw [hc']
        simp only [hk, if_true, e1, pure_bind]
        unfold closL
        rw [if_pos hk, hc']
        exact hr _
      · simp only [hk, Bool.false_eq_true, if_false, pure_bind]
        unfold closL
        rw [if_neg hk]
        exact hr _
  unfold closureFor
  have e := go scope.names [] h
  simp only [bind_pure_comp, map_pure] at e ⊢
  first | exact e | (simp only [e, bind_pure]; done) | (rw [show (forIn scope.names ([] : List (Str × Addr)) _) = _ from e]; rfl)
theorem closL_lookup {cells : List (Str × Addr)} {x : Str} {c : Addr} : ∀ {names : List (Str × NameKind)} {acc : List (Str × Addr)}, (closL cells names acc).lookup x = some c -> acc.lookup x = some c \/ ((x, NameKind.free) ∈ names /\ c = (cells.lookup x).getD 0)
  | [], acc, h => .inl h
  | (n, k) :: r, acc, h => by
    unfold closL at h
    rcases closL_lookup h with z | ⟨z, e⟩
    · by_cases hk : (k == NameKind.free) = true
      · rw [if_pos hk] at z
        by_cases hx : (x == n) = true
        · rw [List.lookup_cons, hx] at z
          have e1 : x = n := by simpa using hx
          have e2 : k = NameKind.free := by simpa using hk
          subst e1 e2
          exact .inr ⟨List.mem_cons_self, (Option.some.inj z).symm⟩
        · have hx' : (x == n) = false := by simpa using hx
          rw [List.lookup_cons, hx'] at z
          exact .inl z
      · rw [if_neg hk] at z
        exact .inl z
    · exact .inr ⟨List.mem_cons_of_mem _ z, e⟩
theorem closL_has {cells : List (Str × Addr)} {x : Str} : ∀ {names : List (Str × NameKind)} {acc : List (Str × Addr)}, ((x, NameKind.free) ∈ names \/ ∃ c, acc.lookup x = some c) -> ∃ c, (closL cells names acc).lookup x = some c
  | [], acc, h => by
    rcases h with h | h
    · cases h
    · exact h
  | (n, k) :: r, acc, h => by
    unfold closL
    refine closL_has ?_
    rcases h with h | ⟨c, h⟩
    · rcases List.mem_cons.mp h with z | z
      · cases z
        refine .inr ⟨(cells.lookup x).getD 0, ?_⟩
        rw [if_pos (by decide), List.lookup_cons]
        simp only [beq_self_eq_true]
      · exact .inl z
    · by_cases hk : (k == NameKind.free) = true
      · rw [if_pos hk]
        by_cases hx : (x == n) = true
        · exact .inr ⟨_, by rw [List.lookup_cons, hx]⟩
        · have hx' : (x == n) = false := by simpa using hx
          exact .inr ⟨c, by rw [List.lookup_cons, hx']; exact h⟩
      · rw [if_neg hk]
        exact .inr ⟨c, h⟩
theorem lookup_relabel_of {env : Env} {x : Str} {k : NameKind} : ∀ {names : List (Str × NameKind)}, (names.map fun (n, k) => if (k == NameKind.free && env.scope.kind == .function && env.kindOf n == some .cell) then (n, NameKind.cell) else (n, k)).lookup x = some k ->
    ∃ k', names.lookup x = some k' /\ (k = k' \/ (k' = .free /\ k = .cell))
  | [], h => by cases h
  | (n, j) :: r, h => by
    rw [List.map_cons] at h
    by_cases hx : (x == n) = true
    · refine ⟨j, by rw [List.lookup_cons, hx], ?_⟩
      dsimp only at h
      by_cases hc : (j == NameKind.free && env.scope.kind == .function && env.kindOf n == some .cell) = true
      · rw [if_pos hc, List.lookup_cons, hx] at h
        simp only [Bool.and_eq_true] at hc
        exact .inr ⟨by simpa using hc.1.1, (Option.some.inj h).symm⟩
      · rw [if_neg hc, List.lookup_cons, hx] at h
        exact .inl (Option.some.inj h).symm
    · have hx' : (x == n) = false := by simpa using hx
      have e : (r.map fun (n, k) => if (k == NameKind.free && env.scope.kind == .function && env.kindOf n == some .cell) then (n, NameKind.cell) else (n, k)).lookup x = some k := by
        dsimp only at h
        by_cases hc : (j == NameKind.free && env.scope.kind == .function && env.kindOf n == some .cell) = true
        · rw [if_pos hc, List.lookup_cons, hx'] at h; exact h
        · rw [if_neg hc, List.lookup_cons, hx'] at h; exact h
      obtain ⟨k', e1, e2⟩ := lookup_relabel_of e
      exact ⟨k', by rw [List.lookup_cons, hx']; exact e1, e2⟩
structure CompScope (X : Cx) (N' : List Str) (fr : List (Option Nat)) (scope : Scope) : Prop where
  kind : scope.kind = .function
  nocell : ∀ y ∈ scope.names, y.2 ≠ .cell
  loc : ∀ y ∈ scope.names, y.2 = .local -> scope.names.lookup y.1 = some .local
  free : ∀ y ∈ scope.names, y.2 = .free -> ∃ c, X.env.cells.lookup y.1 = some c
  len : fr.length = N'.length
  fre : ∀ (j i : Nat) (x : Str), fr[j]? = some (some i) -> N'[j]? = some x -> X.N[i]? = some x /\ scope.names.lookup x = some .free /\ (X.env.kindOf x = some .cell \/ X.env.kindOf x = some .free)
noncomputable def compSt (fr : List (Option Nat)) (σ : St) : St := fr.map fun o => o.bind fun i => (σ[i]?).join
noncomputable def compCx (X : Cx) (scope : Scope) (N' : List Str) (s₃ : Shared) (H₃ : Hp) (fp : List Addr) (pins : List (Addr × Obj)) : Cx :=
  { X with N := N', s₀ := s₃, H₀ := H₃, env := compEnvC scope (closL X.env.cells scope.names []) s₃.heap.objs.size X.env, outer := X.stack, stack := X.stack, ex := fp, fn := fun _ => false, pn := X.pn ++ pins, xe := fun _ _ => False }
section
variable {X : Cx} {pins : List (Addr × Obj)} {σ : St} {H : Hp} {s : Shared} {N' : List Str} {fr : List (Option Nat)} {scope : Scope} {fp : List Addr}
theorem clos_cells (S : CompScope X N' fr scope) {x : Str} {c : Addr} (h : (closL X.env.cells scope.names []).lookup x = some c) : X.env.cells.lookup x = some c := by
  rcases closL_lookup h with z | ⟨z, e⟩
  · cases z
  · obtain ⟨c', hc⟩ := S.free _ z rfl
    have hc : X.env.cells.lookup x = some c' := hc
    rw [hc] at e
    rw [hc, e]; rfl
theorem comp_ok (I : Inv X pins σ H s) (S : CompScope X N' fr scope) (hf : ∀ b ∈ fp, FpOk X pins H b) (hlt : ∀ b ∈ fp, b < s.heap.objs.size) : (compCx X scope N' s H fp pins).Ok := by
  refine ⟨I.ok.mod, S.kind, I.ok.glob, I.ok.blt, Nat.le_refl _, fun x y c h1 h2 => I.ok.inj x y c (clos_cells S h1) (clos_cells S h2), fun x hx => ?_, (fun x c z => by cases z), I.ok.hd, I.ok.frames, .inl rfl, fun b hb => ⟨Nat.ne_of_lt (hlt b hb), fun x c h => (hf b hb).2.2.2.2.1 x c (clos_cells S h)⟩,
    I.bs, Nat.le_trans I.ok.bsz I.sz, fun b o e hb => ?_, fun b hb hm => ?_, I.stack, I.stkFree⟩
  · have hx : (relabel scope X.env).names.lookup x = some .cell \/ (relabel scope X.env).names.lookup x = some .free := hx
    have key : scope.names.lookup x = some .free := by
      rcases hx with h | h
      · obtain ⟨k', e1, e2⟩ := lookup_relabel_of h
        rcases e2 with z | ⟨z, _⟩
        · exact absurd z.symm (S.nocell _ (PySem.mem_of_lookup e1))
        · rw [e1, z]
      · obtain ⟨k', e1, e2⟩ := lookup_relabel_of h
        rcases e2 with z | ⟨_, z⟩
        · rw [e1, <- z]
        · cases z
    exact closL_has (.inl (PySem.mem_of_lookup key))
  · rcases (hf b hb).2.2.2.1 with z | z
    · exact I.ok.noex b o e z
    · exact absurd (Nat.lt_of_lt_of_le (Heap.lt_size e) (Nat.le_trans I.ok.bsz z)) (Nat.lt_irrefl _)
  · rcases List.mem_cons.mp (I.stkSub b hm) with z | z
    · exact (hf b hb).2.1 z
    · exact (hf b hb).2.2.1 z
theorem comp_in {h' : Heap} {m : Str -> Option Value} {tk : Nat} (I : Inv X pins σ H s) (S : CompScope X N' fr scope) (hf : ∀ b ∈ fp, FpOk X pins H b) (hlt : ∀ b ∈ fp, b < s.heap.objs.size) (hn : h'.Ns s.heap.objs.size m)
    (hk : ∀ b o, s.heap.get? b = some o -> h'.get? b = some o) : Inv (compCx X scope N' s H fp pins) [] (compSt fr σ) H { s with heap := h', toks := tk } := by
  refine ⟨comp_ok I S hf hlt, rfl, I.bare, Un.kept hk, ⟨m, hn, fun j x v e1 e2 e3 => ?_⟩, fun x c h => ?_, I.hok.fresh (Nat.le_refl _), fun x c h => I.freeC x c (clos_cells S h), fun p hp => ?_, I.hok.kept hk, by unfold compSt; rw [List.length_map]; exact S.len⟩
  · have e1 : N'[j]? = some x := e1
    unfold compSt at e2
    rw [List.getElem?_map] at e2
    cases hj : fr[j]? with
    | none => rw [hj] at e2; cases e2
    | some o =>
      rw [hj] at e2
      cases o with
      | none => cases e2
      | some i =>
        have e2 : (σ[i]?).join = some v := Option.some.inj e2
        have e2' : σ[i]? = some (some v) := by
          cases hq : σ[i]? with
          | none => rw [hq] at e2; cases e2
          | some w => rw [hq] at e2; rw [show w = some v from e2]
        obtain ⟨n1, n2, n3⟩ := S.fre j i x hj e1
        obtain ⟨m0, hn0, hl⟩ := I.loc
        have hvis : Vis X.env.scope x := by
          rcases n3 with z | z
          · exact .inr (.inl z)
          · exact .inr (.inr z)
        obtain ⟨u, r, l⟩ := hl i x v n1 e2' hvis
        refine ⟨u, r, .inr ⟨?_, ?_⟩⟩
        · have hh : ∀ {names : List (Str × NameKind)}, names.lookup x = some .free -> (names.map fun (n, k) => if (k == NameKind.free && X.env.scope.kind == .function && X.env.kindOf n == some .cell) then (n, NameKind.cell) else (n, k)).lookup x = some .cell \/
              (names.map fun (n, k) => if (k == NameKind.free && X.env.scope.kind == .function && X.env.kindOf n == some .cell) then (n, NameKind.cell) else (n, k)).lookup x = some .free := by
            intro names
            induction names with
            | nil => intro z; cases z
            | cons y r ih =>
              obtain ⟨n, k⟩ := y
              intro z
              rw [List.map_cons]
              dsimp only
              by_cases hx : (x == n) = true
              · rw [List.lookup_cons, hx] at z
                by_cases hc : (k == NameKind.free && X.env.scope.kind == .function && X.env.kindOf n == some .cell) = true
                · rw [if_pos hc]; exact .inl (by rw [List.lookup_cons, hx])
                · rw [if_neg hc]; exact .inr (by rw [List.lookup_cons, hx]; exact z)
              · have hx' : (x == n) = false := by simpa using hx
                rw [List.lookup_cons, hx'] at z
                have := ih z
                by_cases hc : (k == NameKind.free && X.env.scope.kind == .function && X.env.kindOf n == some .cell) = true
                · rw [if_pos hc, List.lookup_cons, hx']; exact this
                · rw [if_neg hc, List.lookup_cons, hx']; exact this
          exact hh n2
        · rcases l with ⟨k, _⟩ | ⟨k, c, e, z⟩
          · rcases n3 with q | q
            · rw [q] at k; cases k
            · rw [q] at k; cases k
          · obtain ⟨c', hc'⟩ := closL_has (cells := X.env.cells) (x := x) (names := scope.names) (acc := []) (.inl (PySem.mem_of_lookup n2))
            have e' := clos_cells S hc'
            rw [e] at e'; cases e'
            obtain ⟨o, ho, hd⟩ := z
            exact ⟨c, hc', o, hk _ _ ho, hd⟩
  · obtain ⟨v, o, ho, hd⟩ := I.cell x c (clos_cells S h)
    exact ⟨v, o, hk _ _ ho, hd⟩
  · have hp : p ∈ (X.pn ++ pins) ++ [] := hp
    rw [List.append_nil] at hp
    obtain ⟨q, n, ne, nf, d⟩ := I.pin p hp
    refine ⟨hk _ _ q, n, Nat.ne_of_lt (Heap.lt_size q), fun hm => ?_, d⟩
    rcases List.mem_cons.mp (I.stkSub p.1 hm) with z | z
    · exact ne z
    · exact nf z
end
end L2
set_option maxRecDepth 100000
set_option maxHeartbeats 4000000
namespace L2
open PySem PySem.Spec PyProof.Rows
section
variable {X : Cx} {pins : List (Addr × Obj)} {σ τ : St} {H H₃ H5 : Hp} {s₃ s5 : Shared} {N' : List Str} {scope : Scope} {fp : List Addr}
theorem comp_out {h' : Heap} (I : Inv X pins σ H₃ s₃) (J : Inv (compCx X scope N' s₃ H₃ fp pins) [] τ H5 s5) (hf : ∀ b ∈ fp, FpOk X pins H₃ b) (hs : Heap.SameBut s₃.heap.objs.size s5.heap h') : Inv X pins σ H5 { s5 with heap := h' } := by
  have hb : ∀ b o, s₃.heap.get? b = some o -> b ≠ s₃.heap.objs.size := fun b o q => Nat.ne_of_lt (Heap.lt_size q)
  have u : Un (frs X.stack) fp H₃ H5 s₃.heap s5.heap := J.base
  refine I.call' (s' := { s5 with heap := h' }) (ch := fp) J.os ⟨fun b o q n h1 h2 => (hs.2 b (hb b o q)).trans (u.keep b o q n h1 h2), fun b o q n h1 h2 => ?_, u.free, fun b o q h2 => ?_, u.tups, u.frzs, u.tbls⟩ (fun b ob q => ?_) J.bare (fun b m => ⟨(hf b m).2.2.2.1, (hf b m).2.1, (hf b m).2.2.2.2.1, (hf b m).2.2.2.2.2⟩)
  · obtain ⟨sl, e⟩ := u.slot b o q n h1 h2
    exact ⟨sl, (hs.2 b (hb b o q)).trans e⟩
  · obtain ⟨o', e⟩ := u.there b o q h2
    exact ⟨o', (hs.2 b (hb b o q)).trans e⟩
  · have fr : H5 s₃.heap.objs.size = none := J.free
    refine (J.hok b ob q).stay (fun c v hc r => (hs.2 c ?_).trans r) (fun _ z => z) fun _ _ z => z
    rintro rfl
    rcases hc with rfl | hc
    · rw [fr] at q; cases q
    · rw [fr] at hc; cases hc
end
noncomputable def PTs (X : Cx) (ifs : List Expr) (t : TT) : Prop :=
  ∀ (pins : List (Addr × Obj)) (s : Shared) (σ : St) (H : Hp) (Q : Bool -> Hp -> Prop), Inv X pins σ H s -> t σ H Q ->
    wpAny (model X.prog X.w) X.A (forIn ifs true fun c r => if r = true then do let ok <- isTrue c X.env (eval c X.env); pure (ForInStep.yield ok) else pure (ForInStep.yield r)) (TP X pins σ Q) X.xe s
noncomputable def tYes : TT := fun _ H Q => Q true H
theorem pts_nil {X : Cx} : PTs X [] tYes := fun _ _ _ H _ I h => wpAny_tests_nil ⟨H, I, h⟩
theorem pts_one {X : Cx} {c : Expr} {t : TT} (h : PT X c t) : PTs X [c] t := fun pins s σ H Q I q => wpAny_tests_one (h pins s σ H Q I q)
noncomputable def tComp (fr : List (Option Nat)) (wi : TI) (g : TG) (tc : TT) (te : TE) : TE := fun σ H Q => wi σ H fun J H1 => ∀ D, H1 D = none ->
  ∃ W : Nat -> Nat -> List V -> St -> Hp -> Prop, (∃ m, W 0 m [] (compSt fr σ) (upd H1 D (.lst []))) /\ ∀ i m ys τ H2, W i m ys τ H2 -> H2 D = some (.lst ys) /\
    ((J.stop i H2 /\ Q (.ref D) H2) \/ (J.go i H2 /\ ∀ x H3, J.yld i H2 x H3 -> g x τ H3 fun τ' H4 => tc τ' H4 fun b H5 => if b = true then te τ' H5 fun y H6 => H6 D = some (.lst ys) /\ ys.length < sizeLine /\ ∃ m', m' < m /\ W (i + 1) m' (ys ++ [y]) τ' (upd H6 D (.lst (ys ++ [y])))
      else ∃ m', m' < m /\ W (i + 1) m' ys τ' H5))
theorem comp_gen {X : Cx} {N' : List Str} {fr : List (Option Nat)} {scope : Scope} {tg iter elt : Expr} {ifs : List Expr} {wi : TI} {g : TG} {tc : TT} {te : TE} {pos cp : Pos} {use : Option (Value -> Sem Unit)} {Qf : Value -> Shared -> Prop} (hc : X.calm = true) (S : CompScope X N' fr scope) (hi : PI X tg iter wi)
    (hg : ∀ s₃ H₃ fp pins, PG (compCx X scope N' s₃ H₃ fp pins) tg g) (ht : ∀ s₃ H₃ fp pins, PTs (compCx X scope N' s₃ H₃ fp pins) ifs tc) (he : ∀ s₃ H₃ fp pins, PE (compCx X scope N' s₃ H₃ fp pins) elt te)
    (hs : ∀ x, foldedSetIterable iter X.env x = pure x) {pins : List (Addr × Obj)} {s : Shared} {σ : St} {H : Hp} {Q : VK} (I : Inv X pins σ H s) (h : tComp fr wi g tc te σ H Q)
    (hfin : ∀ (s₃ : Shared) (H₃ : Hp) (fp : List Addr) (D : Addr) (s6 : Shared) (τ : St) (H5 : Hp) (fl : Flow), Inv X pins σ H₃ s₃ -> (∀ b ∈ fp, FpOk X pins H₃ b) -> Inv (compCx X scope N' s₃ H₃ fp pins) [] τ H5 s6 -> Q (.ref D) H5 ->
      compPost (model X.prog X.w) X.A X.xe use Qf (.ref D) s₃.heap.objs.size (.ok fl) s6) :
    wpAny (model X.prog X.w) X.A (comprehension (.ListComp elt [⟨tg, iter, ifs, 0⟩] scope pos) scope X.env cp (newList []) false (eval iter X.env) use) Qf X.xe s := by
  refine wpAny_comprehension_free (use := use) rfl hs (closureFor_of S.free) S.kind S.loc ?_
  refine thn (hi pins s σ H _ I h) fun v s1 h1 => thn h1 fun itv s2 h2 => ?_
  obtain ⟨it, fp, tn, J, H2, rfl, I2, T, st2, f2, hW⟩ := h2
  refine wpAny_newObj_type ?_ (by size_fits)
  have hD : H2 s2.heap.objs.size = none := I2.hok.fresh (Nat.le_refl _)
  have I3 : Inv X pins σ (upd H2 s2.heap.objs.size (.lst [])) { s2 with heap := s2.heap.push { cls := .type "list", data := .seq ([] : List Value).toArray }, toks := s2.toks } :=
    I2.laid (fun b u e => Heap.get?_push_of_some _ e) (Nat.le_refl _) ⟨Nat.zero_le _, [], 0, .nil, Heap.get?_push_size _ rfl⟩
  generalize eD : s2.heap.objs.size = D at I3 hD ⊢
  generalize eH : upd H2 D (.lst []) = H3 at I3
  have f3 : ∀ b ∈ fp, FpOk X pins H3 b := fun b hb => by
    obtain ⟨g0, g1⟩ := f2 b hb
    refine ⟨?_, g1⟩
    obtain ⟨o, ho, _⟩ := T.obj 0 _ st2 b hb
    rw [<- eH, upd_ne (by rw [<- eD]; exact Nat.ne_of_lt (Heap.lt_size ho))]
    exact g0
  have lt3 : ∀ b ∈ fp, b < (s2.heap.push { cls := .type "list", data := .seq ([] : List Value).toArray }).objs.size := fun b hb => by
    obtain ⟨o, ho, _⟩ := T.obj 0 _ st2 b hb
    rw [Heap.size_push]
    exact Nat.lt_succ_of_lt (Heap.lt_size ho)
  have st3 : tn 0 (s2.heap.push { cls := .type "list", data := .seq ([] : List Value).toArray }) := T.keep _ _ _ st2 fun b _ o e => Heap.get?_push_of_some _ e
  obtain ⟨W, ⟨m0, w0⟩, turn⟩ := hW D hD
  rw [eH] at w0
  generalize es3 : ({ s2 with heap := s2.heap.push { cls := .type "list", data := .seq ([] : List Value).toArray }, toks := s2.toks } : Shared) = s3 at I3
  have lt3 : ∀ b ∈ fp, b < s3.heap.objs.size := by rw [<- es3]; exact lt3
  have st3 : tn 0 s3.heap := by rw [<- es3]; exact st3
  refine wpAny_newFunctionEnv S.nocell (by intro y hy; cases hy) (fun h4 hn4 hsb4 => ?_) S.kind
  have k4 : ∀ b o, s3.heap.get? b = some o -> h4.get? b = some o := fun b o e => (hsb4.2 b (Nat.ne_of_lt (Heap.lt_size e))).trans (Heap.get?_push_of_some _ e)
  have I4 : Inv (compCx X scope N' s3 H3 fp pins) [] (compSt fr σ) H3 { s3 with heap := h4, toks := s3.toks + ([] : List (Str × Value)).length } := comp_in I3 S f3 lt3 hn4 k4
  have st4 : tn 0 h4 := T.keep _ _ _ st3 fun b _ o e => k4 b o e
  have stat : ∀ {H' : Hp} {p' : List (Addr × Obj)}, p' = [] -> (∀ b ∈ fp, H' b = none) -> ∀ b ∈ fp, FpOk (compCx X scope N' s3 H3 fp pins) p' H' b := fun {H' p'} hp hn b hb => by
    subst hp
    obtain ⟨g0, g1, g2, g3, g4, g5⟩ := f3 b hb
    refine ⟨hn b hb, Nat.ne_of_lt (lt3 b hb), fun hm => ?_, .inl hb, fun x c h => g4 x c (clos_cells S h), fun p hp => ?_⟩
    · rcases List.mem_cons.mp (I3.stkSub b hm) with z | z
      · exact g1 z
      · exact g2 z
    · have hp : p ∈ (X.pn ++ pins) ++ [] := hp
      rw [List.append_nil] at hp
      exact g5 p hp
  have loop : ∀ s' : Shared, s' = { s3 with heap := h4, toks := s3.toks + ([] : List (Str × Value)).length } -> codeAny (model X.prog X.w) X.A (.compLoop (.ListComp elt [⟨tg, iter, ifs, 0⟩] scope pos) 0 (.ref it) (.ref D) (compEnvC scope (closL X.env.cells scope.names []) s3.heap.objs.size X.env))
      (compPost (model X.prog X.w) X.A X.xe use Qf (.ref D) s3.heap.objs.size) s' := by
    rintro s' rfl
    refine codeAny_loop rfl (fun n s' => ∃ i ys τ H', Inv (compCx X scope N' s3 H3 fp pins) [] τ H' s' /\ tn i s'.heap /\ (∀ b ∈ fp, H' b = none) /\ W i n ys τ H') ?_ m0 ⟨0, [], _, H3, I4, st4, fun b hb => (f3 b hb).1, w0⟩
    rintro n s5 ⟨i, ys, τ, H5, I5, st5, fr5, w5⟩
    show wpAny _ X.A ((compTurn (.ListComp elt [⟨tg, iter, ifs, 0⟩] scope pos) 0 (.ref it) (.ref D) (compEnvC scope (closL X.env.cells scope.names []) s3.heap.objs.size X.env)).onRaise (fun x => do noteFrame x (compEnvC scope (closL X.env.cells scope.names []) s3.heap.objs.size X.env); theTreesLotGoes x)) _ _ s5
    refine wpAny_noted ?_
    rw [compTurn_list]
    obtain ⟨hDy, hor⟩ := turn i n ys τ H5 w5
    rcases hor with ⟨stop, q⟩ | ⟨go, step⟩
    · refine wpAny_bind (wpAny_standAt (wpAny_bind (thn (T.done (compCx X scope N' s3 H3 fp pins) rfl rfl rfl hc i [] s5 τ H5 _ I5 (stat rfl fr5) st5 stop) fun r s6 ⟨hr, I6⟩ => ?_)))
      subst hr
      exact wpAny_pure (hfin s3 H3 fp D s6 τ H5 _ I3 f3 I6 q)
    · refine wpAny_bind (wpAny_standAt (wpAny_bind (thn (T.item (compCx X scope N' s3 H3 fp pins) rfl rfl rfl hc i [] s5 τ H5 _ I5 (stat rfl fr5) st5 go) fun r s6 ⟨u, hr, h6⟩ => ?_)))
      subst hr
      refine wpAny_bind (thn h6 fun _ s7 ⟨x, H7, I7, r7, y7, st7, fr7⟩ => ?_)
      have I7' := I7.pinned (stat rfl fr7) (T.obj _ _ st7)
      refine wpAny_bind (wpAny_mono (hg s3 H3 fp pins _ s7 τ H7 x u _ I7' r7 (step x H7 y7)) (fun _ s8 ⟨τ8, H8, I8, q8⟩ => ?_) fun _ _ z => False.elim z)
      refine wpAny_bind (wpAny_mono (ht s3 H3 fp pins _ s8 τ8 H8 _ I8 q8) (fun b s9 ⟨H9, I9, q9⟩ => ?_) fun _ _ z => False.elim z)
      have again : ∀ {s' : Shared} {H' : Hp}, Inv (compCx X scope N' s3 H3 fp pins) ([] ++ pinsAt fp s7.heap) τ8 H' s' -> tn (i + 1) s'.heap /\ ∀ b ∈ fp, H' b = none := fun {s' H'} I' => by
        refine ⟨T.keep _ _ _ st7 fun b hb o e => (I'.pin (b, o) (List.mem_append_right _ (List.mem_append_right _ (mem_pinsAt hb e)))).1, fun b hb => ?_⟩
        obtain ⟨o, e, d⟩ := T.obj _ _ st7 b hb
        exact (I'.pin (b, o) (List.mem_append_right _ (List.mem_append_right _ (mem_pinsAt hb e)))).2.1
      cases b with
      | false =>
        rw [if_neg Bool.false_ne_true] at q9
        obtain ⟨m', hm, w9⟩ := q9
        obtain ⟨a1, a2⟩ := again I9
        refine wpAny_pure ⟨rfl, m', hm, i + 1, ys, τ8, H9, I9.unpinned, a1, a2, w9⟩
      | true =>
        rw [if_pos rfl] at q9
        refine wpAny_bind (wpAny_bind (wpAny_mono (he s3 H3 fp pins _ s9 τ8 H9 _ I9 q9) (fun yv s10 ⟨y, H10, I10, r10, hD10, hz, m', hm, w10⟩ => ?_) fun _ _ z => False.elim z))
        refine wpAny_bind (wpAny_mono (mt_append (X := compCx X scope N' s3 H3 fp pins) _ s10 τ8 H10 (.ref D) [y] (.ref D) [yv] (fun _ H11 => H11 = upd H10 D (.lst (ys ++ [y]))) I10 rfl (.cons r10 .nil) ⟨D, ys, y, rfl, rfl, hD10, hz, rfl⟩) (fun _ s11 ⟨_, H11, I11, _, q11⟩ => ?_) fun _ _ z => False.elim z)
        subst q11
        obtain ⟨a1, a2⟩ := again I11
        exact wpAny_pure (wpAny_pure ⟨rfl, m', hm, i + 1, ys ++ [y], τ8, _, I11.unpinned, a1, a2, w10⟩)
  exact codeAny_compStart_list (loop _ rfl) (T.self _ 0 _ _ _ st4 (loop _ rfl))
theorem pe_comp {X : Cx} {N' : List Str} {fr : List (Option Nat)} {scope : Scope} {tg iter elt : Expr} {ifs : List Expr} {wi : TI} {g : TG} {tc : TT} {te : TE} {pos : Pos} (hc : X.calm = true) (S : CompScope X N' fr scope) (hi : PI X tg iter wi)
    (hg : ∀ s₃ H₃ fp pins, PG (compCx X scope N' s₃ H₃ fp pins) tg g) (ht : ∀ s₃ H₃ fp pins, PTs (compCx X scope N' s₃ H₃ fp pins) ifs tc) (he : ∀ s₃ H₃ fp pins, PE (compCx X scope N' s₃ H₃ fp pins) elt te)
    (hs : autoParam (∀ x, foldedSetIterable iter X.env x = pure x) L2.au2._auto_1) : PE X (.ListComp elt [⟨tg, iter, ifs, 0⟩] scope pos) (tComp fr wi g tc te) := by
  intro pins s σ H Q I h
  rw [eval_ListComp]
  refine comp_gen (use := none) hc S hi hg ht he hs I h fun s3 H3 fp D s6 τ H5 fl I3 f3 I6 q => ?_
  obtain ⟨m6, hn6, _⟩ := I6.loc
  exact ⟨m6, hn6, fun h7 hs7 => ⟨.ref D, H5, comp_out I3 I6 f3 hs7, rfl, q⟩⟩
theorem ps_comp {X : Cx} {N' : List Str} {fr : List (Option Nat)} {scope : Scope} {tg iter elt : Expr} {ifs : List Expr} {wi : TI} {g : TG} {tc : TT} {te : TE} {pos pos' cpos : Pos} {i : Nat} {x : Str} (hc : X.calm = true) (S : CompScope X N' fr scope) (hi : PI X tg iter wi)
    (hg : ∀ s₃ H₃ fp pins, PG (compCx X scope N' s₃ H₃ fp pins) tg g) (ht : ∀ s₃ H₃ fp pins, PTs (compCx X scope N' s₃ H₃ fp pins) ifs tc) (he : ∀ s₃ H₃ fp pins, PE (compCx X scope N' s₃ H₃ fp pins) elt te)
    (hN : X.N.Nodup) (hix : X.N[i]? = some x) (hx : Loc X.env.scope x) (hsw : swapsWith (.ListComp elt [⟨tg, iter, ifs, 0⟩] scope cpos) (some (.Name x pos')) pos.line X.env = pure true)
    (hs : autoParam (∀ x, foldedSetIterable iter X.env x = pure x) L2.au2._auto_1) (hf : autoParam (X.fn x = true \/ X.env.scope.names.lookup x = some .local) L2.au0._auto_1) : PS X (.Assign [.Name x pos'] (.ListComp elt [⟨tg, iter, ifs, 0⟩] scope cpos) pos) (tAsg (tComp fr wi g tc te) (gName i)) := by
  intro pins s σ H Z I h
  rw [exec_Assign_Name_used _ _ _ _ hsw]
  refine wpAny_bind (wpAny_standAt (wpAny_bind ?_))
  show wpAny _ _ (comprehension (.ListComp elt [⟨tg, iter, ifs, 0⟩] scope cpos) scope X.env (firstIterPos [⟨tg, iter, ifs, 0⟩] cpos) (newList []) false (eval iter X.env) (some (assign (.Name x pos') X.env)) >>= fun _ => pure ()) _ _ s
  refine wpAny_bind (comp_gen (use := some (assign (.Name x pos') X.env)) hc S hi hg ht he hs I h fun s3 H3 fp D s6 τ H5 fl I3 f3 I6 q => ?_)
  obtain ⟨m6, hn6, _⟩ := id I6.loc
  have I7 : Inv X pins σ H5 s6 := comp_out (h' := s6.heap) I3 I6 f3 ⟨rfl, fun _ _ => rfl⟩
  have ltC : X.env.locals < s3.heap.objs.size := I3.lt
  have cC : ∀ y c, X.env.cells.lookup y = some c -> c ≠ s3.heap.objs.size := fun y c e z => by
    obtain ⟨v, o, ho, _⟩ := I3.cell y c e
    exact absurd (Heap.lt_size ho) (by rw [z]; exact Nat.lt_irrefl _)
  show wpAny (model X.prog X.w) X.A (assign (.Name x pos') X.env (.ref D)) _ X.xe s6
  refine wpAny_assign_Name (store_ok2 I7 hN hix hx (v := .ref D) (u := .ref D) rfl (fun s8 I8 sb => ?_) hf)
  obtain ⟨a8, sb8, ha8⟩ := sb
  have neC : s3.heap.objs.size ≠ a8 := by
    rcases ha8 with z | z
    · rw [z]; exact Nat.ne_of_gt ltC
    · exact fun w => cC x a8 z w.symm
  have hn8 : s8.heap.Ns s3.heap.objs.size m6 := by
    obtain ⟨o, es, ep, ho, r⟩ := hn6
    exact ⟨o, es, ep, (sb8.2 _ neC).trans ho, r⟩
  refine ⟨m6, hn8, fun h9 hs9 => ?_⟩
  have frC : H5 s3.heap.objs.size = none := I6.free
  refine wpAny_pure (wpAny_pure ⟨_, H5, ?_, q⟩)
  have := I8.turned (h' := h9) (t' := s8.toks) (it := s3.heap.objs.size) (fun b o hb e => (hs9.2 b hb).trans e) frC (Nat.ne_of_gt ltC) (.inr (Nat.le_trans I3.ok.above (Nat.le_of_lt ltC))) cC (fun p hp z => ?_)
  · exact this
  · have := Heap.lt_size (I3.pin p hp).1
    rw [z] at this
    exact Nat.lt_irrefl _ this
end L2
set_option maxRecDepth 100000
set_option maxHeartbeats 4000000
namespace L2
open PySem PySem.Spec PyProof.Rows
section
variable {X : Cx}
end
noncomputable def signAt (x : Str) (i : Nat) (v : V) : Prop := ∃ c, x.cps[i]? = some c /\ v = .str ⟨#[c]⟩
noncomputable def Its (x : Str) : It := ⟨fun i _ => i < x.cps.size, fun i H v H' => H' = H /\ signAt x i v, fun i _ => x.cps.size <= i⟩
theorem turn_ascii {P : Program} {w : World} {K : PySem.W.Frag} {tg : Expr} (x : Str) (t : Tok) (it : Addr) : Turn P w K tg (Its x) [it] it (fun i h => h.IsStrIter it "str_ascii_iterator" x t i) where
  mem := by simp
  obj := fun i h st b hb => by
    have e : b = it := by simpa using hb
    subst e
    obtain ⟨o, e, c, d⟩ := st
    exact ⟨o, e, fun v z => by rw [d] at z; cases z⟩
  keep := fun i h h' st k => let ⟨o, ho, r⟩ := st; ⟨o, k it (by simp) o ho, r⟩
  item := by
    intro X hP hw hK hc i pins s σ H E I hf st hg
    subst hP hw hK
    have hg : i < x.cps.size := hg
    obtain ⟨f0, f1, f2, f3, f4, f5⟩ := hf it (by simp)
    refine wpAny_pyNext_ascii_item st (c := x.cps[i]) (by simp [hg]) fun h' st' sb => ?_
    have I1 : Inv X pins σ H { s with heap := h', toks := s.toks + 1 } := I.turned (fun b o hb e => (sb.2 b hb).trans e) f0 f1 f3 f4 f5
    obtain ⟨o, e, c, d⟩ := id st'
    exact ⟨_, rfl, go_of (s := { s with heap := h', toks := s.toks + 1 }) e c d (by decide) ⟨.str ⟨#[x.cps[i]]⟩, H, I1, ⟨_, rfl⟩, ⟨rfl, _, by simp [hg], rfl⟩, st', fun b hb => (hf b hb).1⟩⟩
  done := by
    intro X hP hw hK hc i pins s σ H E I hf st hg
    subst hP hw hK
    have hg : x.cps.size <= i := hg
    obtain ⟨f0, f1, f2, f3, f4, f5⟩ := hf it (by simp)
    exact wpAny_pyNext_ascii_end (I.ok.hd hc) st (by simp [hg]) fun h' eb => ⟨rfl, I.turned (t' := s.toks) (fun b o hb e => eb b o hb e) f0 f1 f3 f4 f5⟩
  self := fun _ _ _ _ _ st h => wpAny_pyIter_striter_ascii st h
theorem turn_wide {P : Program} {w : World} {K : PySem.W.Frag} {tg : Expr} (x : Str) (t : Tok) (it : Addr) : Turn P w K tg (Its x) [it] it (fun i h => h.IsStrIter it "str_iterator" x t i) where
  mem := by simp
  obj := fun i h st b hb => by
    have e : b = it := by simpa using hb
    subst e
    obtain ⟨o, e, c, d⟩ := st
    exact ⟨o, e, fun v z => by rw [d] at z; cases z⟩
  keep := fun i h h' st k => let ⟨o, ho, r⟩ := st; ⟨o, k it (by simp) o ho, r⟩
  item := by
    intro X hP hw hK hc i pins s σ H E I hf st hg
    subst hP hw hK
    have hg : i < x.cps.size := hg
    obtain ⟨f0, f1, f2, f3, f4, f5⟩ := hf it (by simp)
    refine wpAny_pyNext_wide_item st (c := x.cps[i]) (by simp [hg]) fun h' st' sb => ?_
    have I1 : Inv X pins σ H { s with heap := h', toks := s.toks + 1 } := I.turned (fun b o hb e => (sb.2 b hb).trans e) f0 f1 f3 f4 f5
    obtain ⟨o, e, c, d⟩ := id st'
    exact ⟨_, rfl, go_of (s := { s with heap := h', toks := s.toks + 1 }) e c d (by decide) ⟨.str ⟨#[x.cps[i]]⟩, H, I1, ⟨_, rfl⟩, ⟨rfl, _, by simp [hg], rfl⟩, st', fun b hb => (hf b hb).1⟩⟩
  done := by
    intro X hP hw hK hc i pins s σ H E I hf st hg
    subst hP hw hK
    have hg : x.cps.size <= i := hg
    obtain ⟨f0, f1, f2, f3, f4, f5⟩ := hf it (by simp)
    exact wpAny_pyNext_wide_end (I.ok.hd hc) st (by simp [hg]) fun h' eb => ⟨rfl, I.turned (t' := s.toks) (fun b o hb e => eb b o hb e) f0 f1 f3 f4 f5⟩
  self := fun _ _ _ _ _ st h => wpAny_pyIter_striter_wide st h
noncomputable def iStr (te : TE) : TI := fun σ H R => te σ H fun v H1 => ∃ x, v = .str x /\ R (Its x) H1
theorem pi_str {X : Cx} {tg e : Expr} {te : TE} (he : PE X e te) : PI X tg e (iStr te) := by
  intro pins s σ H R I h
  refine thn (he pins s σ H _ I h) fun v s1 ⟨y, H1, I1, r1, q1⟩ => ?_
  obtain ⟨x, rfl, q⟩ := q1
  obtain ⟨t, rfl⟩ := r1
  cases ha : x.cps.all (· < 128)
  · refine wpAny_pyIter_wide ha ?_
    refine ⟨s1.heap.objs.size, [s1.heap.objs.size], _, _, H1, rfl, I1.kept (t' := s1.toks) fun b o e => Heap.get?_push_of_some _ e, turn_wide x t _, ⟨_, Heap.get?_push_size _ rfl, rfl, rfl⟩, fun b hb => ?_, q⟩
    have e : b = s1.heap.objs.size := by simpa using hb
    subst e
    exact I1.fpOk (Nat.le_refl _) (I1.hok.fresh (Nat.le_refl _))
  · refine wpAny_pyIter_ascii ha ?_
    refine ⟨s1.heap.objs.size, [s1.heap.objs.size], _, _, H1, rfl, I1.kept (t' := s1.toks) fun b o e => Heap.get?_push_of_some _ e, turn_ascii x t _, ⟨_, Heap.get?_push_size _ rfl, rfl, rfl⟩, fun b hb => ?_, q⟩
    have e : b = s1.heap.objs.size := by simpa using hb
    subst e
    exact I1.fpOk (Nat.le_refl _) (I1.hok.fresh (Nat.le_refl _))
end L2
set_option maxRecDepth 100000
set_option maxHeartbeats 4000000
namespace L2
open PySem PySem.Spec PyProof.Rows
section
variable {X : Cx}
noncomputable def rSlS : V -> Option Int -> Option Int -> Hp -> VK -> Prop := fun x lo hi H Q => ∃ z, x = .str z /\ z.length <= sizeLine /\ Q (.str (Txt.slice z lo hi)) H
theorem sl_str : SlR X rSlS := by
  intro pins s σ H x v vl vu lo hi sl Q I rx hs pl pu h
  obtain ⟨z, rfl, hz, q⟩ := h
  obtain ⟨t, rfl⟩ := rx
  refine ⟨"str", _, F.slot_str_getitem.lookup, typeIs_str _ _ _, ?_⟩
  have fin : ∀ (l u : Option (Int × Tok)), vl = partValue l -> vu = partValue u -> l.map (·.1) = lo -> u.map (·.1) = hi -> wpAny (model X.prog X.w) X.A (getItem (.str z t) (.ref sl)) (EP X pins σ Q) X.xe s := by
    intro l u e1 e2 e3 e4
    subst e1 e2 e3 e4
    refine wpAny_getItem_str_slice (st := none) hs rfl (post_val_or_str ⟨Nat.le_trans (Txt.slice_le z _ _) hz, fun t' k => ?_⟩)
    exact ⟨.str _, H, I.tok k, ⟨t', rfl⟩, q⟩
  cases pl with
  | none =>
    cases pu with
    | none => exact fin none none rfl rfl rfl rfl
    | int j tj => exact fin none (some (j, tj)) rfl rfl rfl rfl
  | int i ti =>
    cases pu with
    | none => exact fin (some (i, ti)) none rfl rfl rfl rfl
    | int j tj => exact fin (some (i, ti)) (some (j, tj)) rfl rfl rfl rfl
end
end L2
set_option maxRecDepth 100000
set_option maxHeartbeats 4000000
namespace L2
open PySem PySem.Spec PyProof.Rows
section
variable {prog : Program} {w : World} {A : Around} {E : Value -> Shared -> Prop} {s : Shared} {K : Type} [DecidableEq K] {knd : KeyKind prog w K} {d : Addr} {kvs : List (K × Value)} {ep : Nat}
end
section
variable {X : Cx}
end
end L2
set_option maxRecDepth 100000
set_option maxHeartbeats 4000000
namespace L2
open PySem PySem.Spec PyProof.Rows
structure DefIn (K : PySem.W.Frag) (mg : Str -> Option Value) (x : Str) (st : Stmt) (ps : List Str) : Prop where
  ex : ∃ f fd, Fun K x x st f fd /\ mg x = some (.ref f) /\ Binds K fd ps []
theorem defIn_mk {K : PySem.W.Frag} {mg : Str -> Option Value} {x : Str} {st : Stmt} {ps : List Str} {h : Heap} {f : Addr} {oc : Value} {od an : Option Addr} {osl : Array (Option Value)} {kV doc pm cdv ct : Value} (X : K.In h) (G : h.Ns mainGlobals mg)
    (hb : ∀ (kV doc pm : Value) (an : Option Addr) (cdv ct : Value) (us : List Value), us.length = ps.length -> bindArgs (PySem.W.fnOf x x (defArgs st) (defBody st) (defScope st) .none kV doc pm an cdv ct) ⟨us, []⟩ = pure (ps.zip us))
    (a : PySem.W.nsIn K mainGlobals x = some (some (.ref f))) (l : K.lookup f = some ⟨oc, od, .func (PySem.W.fnOf x x (defArgs st) (defBody st) (defScope st) .none kV doc pm an cdv ct), osl⟩)
    (c : PySem.W.codeIn K cdv x = true) (k : PySem.W.keepIn K (.ref f) = true) : DefIn K mg x st ps :=
  ⟨f, _, fun_mk l c k, PySem.W.mg_of X G a, (fun_mk (st := st) l c k).binds hb⟩
structure Own (P : Program) (w : World) (K : PySem.W.Frag) (mg : Str -> Option Value) (base : Heap) (x : Str) (k : Nat) (ps : List Str) (sp : Sp) : Prop where
  ex : ∃ f fd, FnOk P w K mg base (cxx P w) k f fd ps sp /\ mg x = some (.ref f) /\ PySem.W.keepIn K (.ref f) = true /\ Binds K fd ps []
section
variable {P : Program} {w : World} {K : PySem.W.Frag} {mg : Str -> Option Value} {base : Heap} {x : Str} {st : Stmt} {N ps : List Str} {k : Nat} {sp : Sp}
theorem DefIn.own (D : DefIn K mg x st ps) (S : FnScope N ps (defScope st)) (len : ∀ vs H Q E, sp vs H Q E -> vs.length = ps.length)
    (hbody : ∀ (f : Addr) (cdv : Value) (A : Around) (outer : List Env) (s : Shared) (H : Hp) (vs : List V) (Q : VK) (E : XK), Room k (A.deeper (envOfC x (defScope st) s.heap.objs.size f cdv)) -> sp vs H Q E ->
      ∃ t, PSs (cxOf (cxx P w) P w K mg base N x (defScope st) f cdv A outer s H E) (defBody st) t /\ t { nx := fun _ H' => Q .non H', rt := Q } (start N vs) H) : Own P w K mg base x (k + 1) ps sp := by
  obtain ⟨f, fd, F, hm, hb⟩ := D.ex
  obtain ⟨oc, od, kV, doc, pm, an, cdv, ct, osl, rfl, lk, hcd⟩ := F.ex
  exact ⟨f, _, fn_of lk hcd S len fun A outer s H vs Q E hr hsp => hbody f cdv A outer s H vs Q E hr hsp, hm, F.kp, hb⟩
theorem Own.mono {j : Nat} (O : Own P w K mg base x j ps sp) (h : j <= k) : Own P w K mg base x k ps sp := by
  obtain ⟨f, fd, F, a, b, c⟩ := O.ex
  exact ⟨f, fd, F.mono h, a, b, c⟩
end
section
variable {X : Cx} {x : Str} {k : Nat} {ps : List Str} {sp : Sp} {E : XK} {e : Expr} {es : List Expr} {t : TA} {p pos : Pos}
theorem pe_own (O : Own X.prog X.w X.K X.mg X.base x k ps sp) (hr : Room k X.A) (hg : Gl X x) (hx : Passes (cxx X.prog X.w) X E) (ha : PA X (e :: es) t) (hdb : autoParam ((x == ("__debug__" : Str)) = false) L2.au1._auto_1)
    (he : autoParam (starEach (e :: es) X.env = (false, eval e X.env) :: starEach es X.env) L2.au3._auto_1) (hpl : autoParam ((backTo pos (starEach es X.env)).any (·.1) = false) L2.au3._auto_1) : PE X (.Call (.Name x p) (e :: es) [] pos) (tCall sp [] E t) := by
  obtain ⟨f, fd, F, hm, hk, hb⟩ := O.ex
  exact pe_call F hr hg hm hk hb .nil hx ha hdb he hpl
theorem ps_tryO {CS : Addr} {xc n : Str} {pos' pc hpos tpos : Pos} {i : Nat} {b₀ : Stmt} {suite : List Stmt} {ts : Addr -> Obj -> TS} (O : Own X.prog X.w X.K X.mg X.base x k ps sp) (hst : X.stack = X.env :: X.outer) (hf : X.env.frame = some X.env.locals) (hc : X.calm = true) (hN : X.N.Nodup) (hr : Room k X.A) (hg : Gl X x)
    (ha : PA X.nox (e :: es) t) (hgc : Gl X xc) (hmc : X.mg xc = some (.ref CS)) (hi : X.N[i]? = some n) (hx : X.env.scope.names.lookup n = some .local) (hsuite : ∀ (e : Addr) (oe : Obj), PSs (X.within e oe) (b₀ :: suite) (ts e oe))
    (hdb : autoParam ((x == ("__debug__" : Str)) = false) L2.au1._auto_1) (hdc : autoParam ((xc == ("__debug__" : Str)) = false) L2.au1._auto_1)
    (he : autoParam (starEach (e :: es) X.env = (false, eval e X.env) :: starEach es X.env) L2.au3._auto_1) (hpl : autoParam ((backTo pos (starEach es X.env)).any (·.1) = false) L2.au3._auto_1)
    (hsw : autoParam (swapsWith (.Call (.Name x p) (e :: es) [] pos) none pos'.line X.env = pure false) L2.au3._auto_1) :
    PS X (.Try [.Expr (.Call (.Name x p) (e :: es) [] pos) pos'] [.ExceptHandler (some (.Name xc pc)) (some n) (b₀ :: suite) hpos] [] [] tpos) (tTry X.K CS i sp [] t ts) := by
  obtain ⟨f, fd, F, hm, hk, hb⟩ := O.ex
  exact ps_try hst hf hc hN F hr hg hm hk hb .nil ha hgc hmc hi hx hsuite hdb hdc he hpl hsw
end
noncomputable def kinds : List String := ["NoneType", "bool", "int", "str", "list", "tuple", "dict"]
section
variable {K : PySem.W.Frag}
theorem kit_int : ∀ {T : String}, T ∈ kinds -> PySem.W.kitOne K (.type T) (.type "int") = some (T == "int" || T == "bool") := by
  intro T h
  simp only [kinds, List.mem_cons, List.not_mem_nil, or_false] at h
  rcases h with rfl | rfl | rfl | rfl | rfl | rfl | rfl <;> kernel_rfl
theorem kit_bool : ∀ {T : String}, T ∈ kinds -> PySem.W.kitOne K (.type T) (.type "bool") = some (T == "bool") := by
  intro T h
  simp only [kinds, List.mem_cons, List.not_mem_nil, or_false] at h
  rcases h with rfl | rfl | rfl | rfl | rfl | rfl | rfl <;> kernel_rfl
theorem kit_self : ∀ {T U : String}, T ∈ kinds -> U ∈ (["str", "list", "tuple", "dict"] : List String) -> PySem.W.kitOne K (.type T) (.type U) = some (T == U) := by
  intro T U h g
  simp only [kinds, List.mem_cons, List.not_mem_nil, or_false] at h g
  rcases g with rfl | rfl | rfl | rfl <;> rcases h with rfl | rfl | rfl | rfl | rfl | rfl | rfl <;> kernel_rfl
end
noncomputable def tIsi (K : PySem.W.Frag) (pn : List (Addr × Obj)) (u : V) (te : TE) : TE := fun σ H Q => te σ H fun v H1 => rIsi K pn [v, u] H1 Q
theorem pe_isi {X : Cx} {u : V} {te : TE} {e c : Expr} {p pos : Pos} (hg : Gl X "isinstance") (hm : X.mg "isinstance" = none) (he : PE X e te) (hc : PE X c (tC u)) (hs : autoParam (starEach [e, c] X.env = (false, eval e X.env) :: starEach [c] X.env) L2.au3._auto_1) (hs2 : autoParam (starEach [c] X.env = (false, eval c X.env) :: starEach [] X.env) L2.au3._auto_1)
    (hpl : autoParam ((backTo pos (starEach [c] X.env)).any (·.1) = false) L2.au3._auto_1) : PE X (.Call (.Name "isinstance" p) [e, c] [] pos) (tIsi X.K X.pn u te) := by
  have key := pe_callB (X := X) (x := "isinstance") (p := p) (pos := pos) call_isi hg hm Boot.«isinstance» (pa_cons he (pa_cons hc pa_nil hs2) hs) (by decide) (by decide) hs hpl
  intro pins s σ H Q I h
  exact key pins s σ H Q I h
end L2
set_option maxRecDepth 100000
set_option maxHeartbeats 4000000
namespace L2
open PySem PySem.Spec PyProof.Rows
inductive D where
  | non | bl (b : Bool) | int (i : Int) | str (x : Str) | tup (xs : List D) | lst (xs : List D) | dic (ks : List Key) (xs : List D) | frl (xs : List D)
inductive R (α : Type) where
  | ok (a : α) | err (c : Str) | bad
noncomputable def R.bind {α β : Type} (r : R α) (f : α -> R β) : R β := match r with
  | .ok a => f a
  | .err c => .err c
  | .bad => .bad
theorem R.ok_bind {α β : Type} (a : α) (f : α -> R β) : (R.ok a).bind f = f a := rfl
theorem R.err_bind {α β : Type} (c : Str) (f : α -> R β) : (R.err c : R α).bind f = .err c := rfl
mutual
noncomputable def D.imm : D -> Bool
  | .tup xs => D.imms xs
  | .lst _ => false
  | .dic _ _ => false
  | _ => true
noncomputable def D.imms : List D -> Bool
  | [] => true
  | d :: ds => D.imm d && D.imms ds
end
noncomputable def SqF (K : PySem.W.Frag) (H : Hp) (a : Addr) (vs : List V) : Prop := (∃ o, H a = some (.frz o (.lst vs))) \/
  ∃ (o : Obj) (its : Array Value) (n : Nat), K.lookup a = some o /\ o.cls = .type "list" /\ o.dict = none /\ o.data = .seq its n /\ its.size <= sizeLine /\ Vals vs its.toList
theorem SqF.sq {K : PySem.W.Frag} {H : Hp} {a : Addr} {vs : List V} (h : SqF K H a vs) : SqL K H a vs := by
  rcases h with ⟨o, h⟩ | h
  · exact .inl (.inr ⟨o, h⟩)
  · exact .inr h
mutual
noncomputable def Rep (K : PySem.W.Frag) (H : Hp) : D -> V -> List Addr -> Prop
  | .non, v, L => v = .non /\ L = []
  | .bl b, v, L => v = .bl b /\ L = []
  | .int i, v, L => v = .int i /\ L = []
  | .str x, v, L => v = .str x /\ L = []
  | .tup ds, v, L => ∃ a vs, v = .ref a /\ SqT K H a vs /\ Reps K H ds vs L
  | .lst ds, v, L => ∃ a vs L', v = .ref a /\ H a = some (.lst vs) /\ L = a :: L' /\ Reps K H ds vs L'
  | .dic ks ds, v, L => ∃ a kvs L', v = .ref a /\ H a = some (.dK kvs) /\ L = a :: L' /\ kvs.map (·.1) = ks /\ ks.Nodup /\ Reps K H ds (kvs.map (·.2)) L'
  | .frl ds, v, L => ∃ a vs, v = .ref a /\ SqF K H a vs /\ L = [] /\ D.imms ds = true /\ Reps K H ds vs []
noncomputable def Reps (K : PySem.W.Frag) (H : Hp) : List D -> List V -> List Addr -> Prop
  | [], vs, L => vs = [] /\ L = []
  | d :: ds, vs, L => ∃ v vs' L1 L2, vs = v :: vs' /\ L = L1 ++ L2 /\ Rep K H d v L1 /\ Reps K H ds vs' L2
end
structure TF (H H' : Hp) : Prop where
  tup : ∀ a xs, H a = some (.tup xs) -> H' a = some (.tup xs)
  frz : ∀ a o u, H a = some (.frz o u) -> H' a = some (.frz o u)
theorem Same.tf {H H' : Hp} (h : Same H H') : TF H H' := ⟨fun a xs e => h a _ e, fun a o u e => h a _ e⟩
theorem Same.non {H H1 : Hp} (s : Same H H1) {a : Addr} (h : H1 a = none) : H a = none := by
  cases e : H a with
  | none => rfl
  | some o => rw [s a o e] at h; cases h
theorem Same.new {H : Hp} {p : Addr} {o : HO} (h : H p = none) : Same H (upd H p o) := fun b u e => by
  rw [upd_ne (ne_of_none e h)]; exact e
theorem SqF.tf {K : PySem.W.Frag} {H H' : Hp} {a : Addr} {vs : List V} (h : SqF K H a vs) (s : TF H H') : SqF K H' a vs := by
  rcases h with ⟨o, h⟩ | h
  · exact .inl ⟨o, s.frz _ _ _ h⟩
  · exact .inr h
theorem SqT.tf {K : PySem.W.Frag} {H H' : Hp} {a : Addr} {vs : List V} (h : SqT K H a vs) (s : TF H H') : SqT K H' a vs := by
  rcases h with h | h
  · rcases h with h | ⟨o, h⟩
    · exact .inl (.inl (s.tup _ _ h))
    · exact .inl (.inr ⟨o, s.frz _ _ _ h⟩)
  · exact .inr h
section
variable {K : PySem.W.Frag} {H H' : Hp}
mutual
theorem Rep.keep (s : TF H H') : ∀ (d : D) (v : V) (L : List Addr), Rep K H d v L -> (∀ a ∈ L, H' a = H a) -> Rep K H' d v L
  | .non, _, _, h, _ => h
  | .bl _, _, _, h, _ => h
  | .int _, _, _, h, _ => h
  | .str _, _, _, h, _ => h
  | .tup ds, _, L, hq3, k => by
    obtain ⟨a, vs, e, h, r⟩ := hq3
    exact ⟨a, vs, e, h.tf s, Reps.keep s ds vs L r k⟩
  | .lst ds, _, L, hq3, k => by
      obtain ⟨a, vs, L', e, h1, h2, h3⟩ := hq3
      subst h2
      exact ⟨a, vs, L', e, by rw [k a List.mem_cons_self]; exact h1, rfl, Reps.keep s ds vs L' h3 fun b hb => k b (List.mem_cons_of_mem _ hb)⟩
  | .frl ds, _, L, hq3, k => by
    obtain ⟨a, vs, e, h1, h2, h3, h4⟩ := hq3
    exact ⟨a, vs, e, h1.tf s, h2, h3, Reps.keep s ds vs [] h4 (fun _ hb => nomatch hb)⟩
  | .dic ks ds, _, L, hq3, k => by
      obtain ⟨a, kvs, L', e, h1, h2, h3, h4, h5⟩ := hq3
      subst h2
      exact ⟨a, kvs, L', e, by rw [k a List.mem_cons_self]; exact h1, rfl, h3, h4, Reps.keep s ds _ L' h5 fun b hb => k b (List.mem_cons_of_mem _ hb)⟩
theorem Reps.keep (s : TF H H') : ∀ (ds : List D) (vs : List V) (L : List Addr), Reps K H ds vs L -> (∀ a ∈ L, H' a = H a) -> Reps K H' ds vs L
  | [], _, _, h, _ => h
  | d :: ds, _, _, hq3, k => by
    obtain ⟨v, vs', L1, L2, e1, e2, h1, h2⟩ := hq3
    subst e2
    exact ⟨v, vs', L1, L2, e1, rfl, Rep.keep s d v L1 h1 fun a ha => k a (List.mem_append_left _ ha), Reps.keep s ds vs' L2 h2 fun a ha => k a (List.mem_append_right _ ha)⟩
end
mutual
theorem Rep.dom : ∀ (d : D) (v : V) (L : List Addr), Rep K H d v L -> ∀ a ∈ L, (∃ vs, H a = some (.lst vs)) \/ ∃ kvs, H a = some (.dK kvs)
  | .non, _, _, h, a, ha => by rw [h.2] at ha; cases ha
  | .bl _, _, _, h, a, ha => by rw [h.2] at ha; cases ha
  | .int _, _, _, h, a, ha => by rw [h.2] at ha; cases ha
  | .str _, _, _, h, a, ha => by rw [h.2] at ha; cases ha
  | .tup ds, _, L, hq3, b, hb => by
    obtain ⟨a, vs, e, h, r⟩ := hq3
    exact Reps.dom ds vs L r b hb
  | .lst ds, _, L, hq3, b, hb => by
      obtain ⟨a, vs, L', e, h1, h2, h3⟩ := hq3
      subst h2
      rcases List.mem_cons.mp hb with z | z
      · subst z; exact .inl ⟨vs, h1⟩
      · exact Reps.dom ds vs L' h3 b z
  | .frl ds, _, L, hq3, b, hb => by
    obtain ⟨a, vs, e, h1, h2, h3, h4⟩ := hq3
    rw [h2] at hb; cases hb
  | .dic ks ds, _, L, hq3, b, hb => by
      obtain ⟨a, kvs, L', e, h1, h2, h3, h4, h5⟩ := hq3
      subst h2
      rcases List.mem_cons.mp hb with z | z
      · subst z; exact .inr ⟨kvs, h1⟩
      · exact Reps.dom ds _ L' h5 b z
theorem Reps.dom : ∀ (ds : List D) (vs : List V) (L : List Addr), Reps K H ds vs L -> ∀ a ∈ L, (∃ vs, H a = some (.lst vs)) \/ ∃ kvs, H a = some (.dK kvs)
  | [], _, _, h, a, ha => by rw [h.2] at ha; cases ha
  | d :: ds, _, _, hq3, a, ha => by
    obtain ⟨v, vs', L1, L2, e1, e2, h1, h2⟩ := hq3
    subst e2
    rcases List.mem_append.mp ha with z | z
    · exact Rep.dom d v L1 h1 a z
    · exact Reps.dom ds vs' L2 h2 a z
end
mutual
theorem Rep.imm : ∀ (d : D) (v : V) (L : List Addr), Rep K H d v L -> d.imm = true -> L = []
  | .non, _, _, h, _ => h.2
  | .bl _, _, _, h, _ => h.2
  | .int _, _, _, h, _ => h.2
  | .str _, _, _, h, _ => h.2
  | .tup ds, _, L, hq3, h => by
    obtain ⟨_, vs, _, _, r⟩ := hq3
    exact Reps.imm ds vs L r h
  | .lst _, _, _, _, h => nomatch h
  | .dic _ _, _, _, _, h => nomatch h
  | .frl _, _, _, hq3, _ => by
    obtain ⟨_, _, _, _, h, _⟩ := hq3
    exact h
theorem Reps.imm : ∀ (ds : List D) (vs : List V) (L : List Addr), Reps K H ds vs L -> D.imms ds = true -> L = []
  | [], _, _, h, _ => h.2
  | d :: ds, _, _, hq3, h => by
    obtain ⟨v, vs', L1, L2, _, e2, h1, h2⟩ := hq3
    have h : (d.imm && D.imms ds) = true := h
    rw [Bool.and_eq_true] at h
    rw [e2, Rep.imm d v L1 h1 h.1, Reps.imm ds vs' L2 h2 h.2]; rfl
end
theorem Rep.there {d : D} {v : V} {L : List Addr} (h : Rep K H d v L) {a : Addr} (ha : a ∈ L) : H a ≠ none := by
  rcases Rep.dom d v L h a ha with ⟨_, e⟩ | ⟨_, e⟩ <;> rw [e] <;> simp
theorem Reps.there {d : List D} {v : List V} {L : List Addr} (h : Reps K H d v L) {a : Addr} (ha : a ∈ L) : H a ≠ none := by
  rcases Reps.dom d v L h a ha with ⟨_, e⟩ | ⟨_, e⟩ <;> rw [e] <;> simp
theorem Same.at {a : Addr} (s : Same H H') (h : H a ≠ none) : H' a = H a := by
  cases e : H a with
  | none => exact absurd e h
  | some o => exact s a o e
theorem Rep.same {d : D} {v : V} {L : List Addr} (h : Rep K H d v L) (s : Same H H') : Rep K H' d v L := Rep.keep s.tf d v L h fun _ ha => s.at (h.there ha)
theorem Reps.same {d : List D} {v : List V} {L : List Addr} (h : Reps K H d v L) (s : Same H H') : Reps K H' d v L := Reps.keep s.tf d v L h fun _ ha => s.at (h.there ha)
theorem Reps.length : ∀ {ds : List D} {vs : List V} {L : List Addr}, Reps K H ds vs L -> vs.length = ds.length
  | [], _, _, hq3 => by
    obtain ⟨e, _⟩ := hq3
    rw [e]; rfl
  | d :: ds, _, _, hq3 => by
    obtain ⟨v, vs', L1, L2, e1, e2, h1, h2⟩ := hq3
    rw [e1, List.length_cons, List.length_cons, Reps.length h2]
theorem Reps.nil : Reps K H [] [] [] := ⟨rfl, rfl⟩
theorem Reps.cons {d : D} {v : V} {L1 : List Addr} {ds : List D} {vs : List V} {L2 : List Addr} (h : Rep K H d v L1) (t : Reps K H ds vs L2) : Reps K H (d :: ds) (v :: vs) (L1 ++ L2) := ⟨v, vs, L1, L2, rfl, rfl, h, t⟩
theorem Reps.get : ∀ {ds : List D} {vs : List V} {L : List Addr} {i : Nat} {d : D}, Reps K H ds vs L -> ds[i]? = some d -> ∃ v L1, vs[i]? = some v /\ Rep K H d v L1 /\ List.Sublist L1 L
  | [], _, _, _, _, _, e => by simp at e
  | d :: ds, _, _, 0, _, hq5, e => by
    obtain ⟨v, vs', L1, L2, e1, e2, h1, h2⟩ := hq5
    subst e1 e2
    simp at e
    subst e
    exact ⟨v, L1, rfl, h1, List.sublist_append_left _ _⟩
  | d :: ds, _, _, i + 1, d', hq5, e => by
    obtain ⟨v, vs', L1, L2, e1, e2, h1, h2⟩ := hq5
    subst e1 e2
    obtain ⟨v', L', a, b, c⟩ := Reps.get (i := i) (d := d') h2 (by simpa using e)
    exact ⟨v', L', by simpa using a, b, c.trans (List.sublist_append_right _ _)⟩
theorem Reps.append : ∀ {ds ds' : List D} {vs vs' : List V} {L L' : List Addr}, Reps K H ds vs L -> Reps K H ds' vs' L' -> Reps K H (ds ++ ds') (vs ++ vs') (L ++ L')
  | [], _, _, _, _, _, hq6, h => by
    obtain ⟨e1, e2⟩ := hq6
    subst e1 e2; exact h
  | d :: ds, _, _, _, _, _, hq6, h => by
    obtain ⟨v, vs', L1, L2, e1, e2, h1, h2⟩ := hq6
    subst e1 e2
    have := Reps.cons h1 (Reps.append h2 h)
    rw [<- List.append_assoc] at this
    exact this
theorem Reps.take : ∀ {ds : List D} {vs : List V} {L : List Addr} (n : Nat), Reps K H ds vs L -> ∃ L', Reps K H (ds.take n) (vs.take n) L' /\ List.Sublist L' L
  | _, _, _, 0, _ => ⟨[], by simpa using Reps.nil, List.nil_sublist _⟩
  | [], _, _, n + 1, hq4 => by
    obtain ⟨e1, e2⟩ := hq4
    subst e1 e2; exact ⟨[], by simpa using Reps.nil, List.nil_sublist _⟩
  | d :: ds, _, _, n + 1, hq4 => by
    obtain ⟨v, vs', L1, L2, e1, e2, h1, h2⟩ := hq4
    subst e1 e2
    obtain ⟨L', a, b⟩ := Reps.take n h2
    exact ⟨L1 ++ L', by simpa using Reps.cons h1 a, List.Sublist.append (List.Sublist.refl _) b⟩
theorem Reps.drop : ∀ {ds : List D} {vs : List V} {L : List Addr} (n : Nat), Reps K H ds vs L -> ∃ L', Reps K H (ds.drop n) (vs.drop n) L' /\ List.Sublist L' L
  | _, _, L, 0, h => ⟨L, by simpa using h, List.Sublist.refl _⟩
  | [], _, _, n + 1, hq4 => by
    obtain ⟨e1, e2⟩ := hq4
    subst e1 e2; exact ⟨[], by simpa using Reps.nil, List.nil_sublist _⟩
  | d :: ds, _, _, n + 1, hq4 => by
    obtain ⟨v, vs', L1, L2, e1, e2, h1, h2⟩ := hq4
    subst e1 e2
    obtain ⟨L', a, b⟩ := Reps.drop n h2
    exact ⟨L', by simpa using a, b.trans (List.sublist_append_right _ _)⟩
end
end L2
set_option maxRecDepth 100000
set_option maxHeartbeats 4000000
namespace L2
open PySem PySem.Spec PyProof.Rows
noncomputable abbrev Tn := List (Option D)
inductive Cl where
  | own | shr | brw | dead
  deriving DecidableEq
inductive Rc where
  | fresh | shr | bor
  deriving DecidableEq
structure EOk (K : PySem.W.Frag) (Γ : List Cl) (O : Addr -> Prop) (H : Hp) (σ : St) (τ : Tn) : Prop where
  dom : ∀ a, O a -> H a ≠ none
  slot : ∀ (i : Nat) (c : Cl), Γ[i]? = some c -> c ≠ .dead -> ∃ v d L, σ[i]? = some (some v) /\ τ[i]? = some (some d) /\ Rep K H d v L /\ (c = .shr -> ∀ a ∈ L, ¬ O a)
noncomputable def RcOk (c : Rc) (O : Addr -> Prop) (H : Hp) (L : List Addr) : Prop := match c with
  | .fresh => L.Nodup /\ ∀ a ∈ L, H a = none
  | .shr => ∀ a ∈ L, ¬ O a
  | .bor => True
noncomputable def post (K : PySem.W.Frag) (E : XK) (O : Addr -> Prop) (c : Rc) (H : Hp) (Q : VK) : R D -> Prop
  | .ok d => ∀ v H' L, Same H H' -> Rep K H' d v L -> RcOk c O H L -> Q v H'
  | .err n => ∀ C H', ErrC K n C -> Same H H' -> E (.ref C) none H'
  | .bad => False
noncomputable def postL (K : PySem.W.Frag) (E : XK) (O : Addr -> Prop) (c : Rc) (H : Hp) (Q : List V -> Hp -> Prop) : R (List D) -> Prop
  | .ok ds => ∀ vs H' L, Same H H' -> Reps K H' ds vs L -> RcOk c O H L -> Q vs H'
  | .err n => ∀ C H', ErrC K n C -> Same H H' -> E (.ref C) none H'
  | .bad => False
noncomputable def postB (K : PySem.W.Frag) (E : XK) (H : Hp) (Q : Bool -> Hp -> Prop) : R Bool -> Prop
  | .ok b => ∀ H', Same H H' -> Q b H'
  | .err n => ∀ C H', ErrC K n C -> Same H H' -> E (.ref C) none H'
  | .bad => False
section
variable {K : PySem.W.Frag} {Γ : List Cl} {O : Addr -> Prop} {H H1 : Hp} {σ : St} {τ : Tn} {E : XK} {c : Rc} {Q : VK}
theorem EOk.same (e : EOk K Γ O H σ τ) (s : Same H H1) : EOk K Γ O H1 σ τ :=
  ⟨fun a h => by rw [s.at (e.dom a h)]; exact e.dom a h, fun i c h1 h2 => by
    obtain ⟨v, d, L, a1, a2, a3, a4⟩ := e.slot i c h1 h2
    exact ⟨v, d, L, a1, a2, a3.same s, a4⟩⟩
theorem RcOk.same {L : List Addr} (h : RcOk c O H1 L) (s : Same H H1) : RcOk c O H L := by
  cases c with
  | fresh => exact ⟨h.1, fun a ha => s.non (h.2 a ha)⟩
  | shr => exact h
  | bor => exact h
theorem RcOk.shr {L : List Addr} (dom : ∀ a, O a -> H a ≠ none) (hc : c ≠ .bor) (h : RcOk c O H L) : ∀ a ∈ L, ¬ O a := by
  cases c with
  | fresh => exact fun a ha ho => dom a ho (h.2 a ha)
  | shr => exact h
  | bor => exact absurd rfl hc
theorem RcOk.nil : RcOk c O H [] := by
  cases c with
  | fresh => exact ⟨List.nodup_nil, fun a ha => by cases ha⟩
  | shr => exact fun a ha => by cases ha
  | bor => trivial
theorem post.same {r : R D} (h : post K E O c H Q r) (s : Same H H1) : post K E O c H1 Q r := by
  cases r with
  | ok d => exact fun v H' L s' r' c' => h v H' L (s.trans s') r' (c'.same s)
  | err n => exact fun C H' e s' => h C H' e (s.trans s')
  | bad => exact h
theorem postB.same {Q : Bool -> Hp -> Prop} {r : R Bool} (h : postB K E H Q r) (s : Same H H1) : postB K E H1 Q r := by
  cases r with
  | ok d => exact fun H' s' => h H' (s.trans s')
  | err n => exact fun C H' e s' => h C H' e (s.trans s')
  | bad => exact h
end
noncomputable def ME (X : Cx) (E : XK) (Γ : List Cl) (e : Expr) (t : Tn -> R D) (c : Rc) : Prop :=
  ∃ te, PE X e te /\ ∀ O σ H τ Q, EOk X.K Γ O H σ τ -> post X.K E O c H Q (t τ) -> te σ H Q
noncomputable def MA (X : Cx) (E : XK) (Γ : List Cl) (es : List Expr) (t : Tn -> R (List D)) (c : Rc) : Prop :=
  (∀ τ ds, t τ = .ok ds -> ds.length = es.length) /\ ∃ ta, PA X es ta /\ ∀ O σ H τ Q, EOk X.K Γ O H σ τ -> postL X.K E O c H Q (t τ) -> ta σ H Q
noncomputable def MT (X : Cx) (E : XK) (Γ : List Cl) (e : Expr) (t : Tn -> R Bool) : Prop :=
  ∃ te, PT X e te /\ ∀ O σ H τ Q, EOk X.K Γ O H σ τ -> postB X.K E H Q (t τ) -> te σ H Q
noncomputable def MW (X : Cx) (E : XK) (Γ : List Cl) (e : Expr) (t : Tn -> R Bool) : Prop :=
  ∃ te, PW X e te /\ ∀ O σ H τ Q, EOk X.K Γ O H σ τ -> postB X.K E H Q (t τ) -> te σ H Q
theorem MW.mt {X : Cx} {E : XK} {Γ : List Cl} {e : Expr} {t : Tn -> R Bool} (h : MW X E Γ e t) : MT X E Γ e t := by
  obtain ⟨te, p, q⟩ := h
  exact ⟨te, p.pt, q⟩
noncomputable def Rc.of : Cl -> Rc
  | .shr => .shr
  | _ => .bor
noncomputable def Rc.both : Rc -> Rc -> Rc
  | .fresh, .fresh => .fresh
  | .bor, _ => .bor
  | _, .bor => .bor
  | _, _ => .shr
noncomputable def eVar (i : Nat) : Tn -> R D := fun τ => match τ[i]? with
  | some (some d) => .ok d
  | _ => .bad
noncomputable def eC (d : D) : Tn -> R D := fun _ => .ok d
noncomputable def eImm (t : Tn -> R D) : Tn -> R D := fun τ => (t τ).bind fun d => if d.imm = true then .ok d else .bad
noncomputable def eBin (g : D -> D -> R D) (a b : Tn -> R D) : Tn -> R D := fun τ => (a τ).bind fun x => (b τ).bind fun y => g x y
noncomputable def eUn (g : D -> R D) (a : Tn -> R D) : Tn -> R D := fun τ => (a τ).bind g
noncomputable def aNil : Tn -> R (List D) := fun _ => .ok []
noncomputable def aCons (a : Tn -> R D) (b : Tn -> R (List D)) : Tn -> R (List D) := fun τ => (a τ).bind fun x => (b τ).bind fun xs => .ok (x :: xs)
noncomputable def eL (g : List D -> R D) (a : Tn -> R (List D)) : Tn -> R D := fun τ => (a τ).bind g
noncomputable def asB : D -> R Bool
  | .bl b => .ok b
  | _ => .bad
noncomputable def eTest (a : Tn -> R D) : Tn -> R Bool := fun τ => (a τ).bind asB
noncomputable def bAnd (a b : Tn -> R Bool) : Tn -> R Bool := fun τ => (a τ).bind fun x => if x = true then b τ else .ok false
noncomputable def bOr (a b : Tn -> R Bool) : Tn -> R Bool := fun τ => (a τ).bind fun x => if x = true then .ok true else b τ
noncomputable def bNot (a : Tn -> R Bool) : Tn -> R Bool := fun τ => (a τ).bind fun x => .ok (!x)
noncomputable def eAnd (a b : Tn -> R D) : Tn -> R D := fun τ => (a τ).bind fun x => (asB x).bind fun k => if k = true then b τ else .ok (.bl false)
noncomputable def eChain (g g' : D -> D -> R D) (a b c : Tn -> R D) : Tn -> R D := fun τ => (a τ).bind fun x => (b τ).bind fun y => (g x y).bind fun z => (asB z).bind fun k => if k = true then (c τ).bind fun w => g' y w else .ok (.bl false)
section
variable {X : Cx} {E : XK} {Γ : List Cl} {e a b : Expr} {t ta tb tc : Tn -> R D} {c ca cb : Rc} {pos : Pos}
theorem me_name {i : Nat} {x : Str} {k : Cl} (hN : X.N[i]? = some x) (hk : Γ[i]? = some k) (hd : k ≠ .dead) (hv : Vis X.env.scope x) (hb : autoParam ((x == ("__debug__" : Str)) = false) L2.au1._auto_1) (hcd : autoParam ((x == ("__classdict__" : Str)) = false) L2.au1._auto_1) :
    ME X E Γ (.Name x pos) (eVar i) (Rc.of k) := by
  refine ⟨tVar i, pe_var hN hv hb hcd, fun O σ H τ Q ok h => ?_⟩
  obtain ⟨v, d, L, e1, e2, e3, e4⟩ := ok.slot i k hk hd
  unfold eVar at h
  rw [e2] at h
  refine ⟨v, e1, h v H L (Same.refl H) e3 ?_⟩
  cases k with
  | shr => exact e4 rfl
  | own => trivial
  | brw => trivial
  | dead => trivial
theorem me_c {d : D} {v : V} (hp : PE X e (tC v)) (hr : ∀ H, Rep X.K H d v []) : ME X E Γ e (eC d) .fresh :=
  ⟨tC v, hp, fun O σ H τ Q ok h => h v H [] (Same.refl H) (hr H) RcOk.nil⟩
theorem me_int {i : Int} {j} : ME X E Γ (.Constant (.int i) j pos) (eC (.int i)) .fresh := me_c pe_int fun _ => ⟨rfl, rfl⟩
theorem me_bl {i : Bool} {j} : ME X E Γ (.Constant (.bool i) j pos) (eC (.bl i)) .fresh := me_c pe_bl fun _ => ⟨rfl, rfl⟩
theorem me_non {j} : ME X E Γ (.Constant .none j pos) (eC .non) .fresh := me_c pe_non fun _ => ⟨rfl, rfl⟩
theorem me_str {x : Str} {j} : ME X E Γ (.Constant (.str x) j pos) (eC (.str x)) .fresh := me_c pe_str fun _ => ⟨rfl, rfl⟩
theorem me_imm (h : ME X E Γ e t c) : ME X E Γ e (eImm t) .fresh := by
  obtain ⟨te, p, q⟩ := h
  refine ⟨te, p, fun O σ H τ Q ok h => q O σ H τ Q ok ?_⟩
  unfold eImm at h
  cases ht : t τ with
  | ok d =>
    rw [ht] at h
    refine fun v H' L s r k => ?_
    rw [R.ok_bind] at h
    by_cases hi : d.imm = true
    · rw [if_pos hi] at h
      have := Rep.imm d v L r hi
      subst this
      exact h v H' [] s r RcOk.nil
    · rw [if_neg hi] at h; exact h.elim
  | err n => rw [ht] at h; exact h
  | bad => rw [ht] at h; exact h
theorem post.bind {K : PySem.W.Frag} {O : Addr -> Prop} {H : Hp} {Q Q' : VK} {r : R D} {f : D -> R D} (h : post K E O c H Q (r.bind f)) (hf : ∀ d, r = .ok d -> post K E O c H Q (f d) -> ∀ v H' L, Same H H' -> Rep K H' d v L -> RcOk ca O H L -> Q' v H') : post K E O ca H Q' r := by
  cases r with
  | ok d => exact hf d rfl h
  | err n => exact h
  | bad => exact h
theorem ma_nil : MA X E Γ [] aNil .fresh := ⟨fun τ ds h => by cases h; rfl, tNil, pa_nil, fun O σ H τ Q ok h => h [] H [] (Same.refl H) Reps.nil RcOk.nil⟩
theorem RcOk.append {K : PySem.W.Frag} {O : Addr -> Prop} {H H1 : Hp} {d : D} {v : V} {L1 L2 : List Addr} (dom : ∀ a, O a -> H a ≠ none) (s : Same H H1) (r : Rep K H1 d v L1) (h1 : RcOk ca O H L1) (h2 : RcOk cb O H1 L2) : RcOk (Rc.both ca cb) O H (L1 ++ L2) := by
  have dom1 : ∀ a, O a -> H1 a ≠ none := fun a h => by rw [s.at (dom a h)]; exact dom a h
  by_cases hf : ca = .fresh /\ cb = .fresh
  · obtain ⟨rfl, rfl⟩ := hf
    refine ⟨List.nodup_append.mpr ⟨h1.1, h2.1, fun a ha b hb z => ?_⟩, fun a ha => ?_⟩
    · subst z
      exact r.there ha (h2.2 a hb)
    · rcases List.mem_append.mp ha with z | z
      · exact h1.2 a z
      · exact s.non (h2.2 a z)
  · have key : ca ≠ .bor -> cb ≠ .bor -> ∀ a ∈ L1 ++ L2, ¬ O a := fun n1 n2 a ha => by
      rcases List.mem_append.mp ha with z | z
      · exact h1.shr dom n1 a z
      · exact h2.shr dom1 n2 a z
    cases ca <;> cases cb <;> first | exact absurd ⟨rfl, rfl⟩ hf | trivial | exact key (by simp) (by simp)
theorem ma_cons {es : List Expr} {u : Tn -> R (List D)} (h : ME X E Γ e t ca) (r : MA X E Γ es u cb) (hs : autoParam (starEach (e :: es) X.env = (false, eval e X.env) :: starEach es X.env) L2.au3._auto_1) : MA X E Γ (e :: es) (aCons t u) (Rc.both ca cb) := by
  obtain ⟨te, p1, q1⟩ := h
  obtain ⟨hl, ta, p2, q2⟩ := r
  refine ⟨fun τ ds h => ?_, tCons te ta, pa_cons p1 p2 hs, fun O σ H τ Q ok h => ?_⟩
  · unfold aCons at h
    cases h1 : t τ with
    | ok d =>
      rw [h1, R.ok_bind] at h
      cases h2 : u τ with
      | ok xs =>
        rw [h2, R.ok_bind] at h
        cases h
        rw [List.length_cons, List.length_cons, hl τ xs h2]
      | err n => rw [h2] at h; cases h
      | bad => rw [h2] at h; cases h
    | err n => rw [h1] at h; cases h
    | bad => rw [h1] at h; cases h
  · unfold aCons at h
    refine q1 O σ H τ _ ok ?_
    cases h1 : t τ with
    | ok d =>
      rw [h1, R.ok_bind] at h
      refine fun v H1 L1 s1 r1 k1 => q2 O σ H1 τ _ (ok.same s1) ?_
      cases h2 : u τ with
      | ok xs =>
        rw [h2, R.ok_bind] at h
        exact fun vs H2 L2 s2 r2 k2 => h (v :: vs) H2 (L1 ++ L2) (s1.trans s2) (Reps.cons (r1.same s2) r2) (RcOk.append ok.dom s1 r1 k1 k2)
      | err n => rw [h2] at h; exact fun C H' e s' => h C H' e (s1.trans s')
      | bad => rw [h2] at h; exact h
    | err n => rw [h1] at h; exact h
    | bad => rw [h1] at h; exact h
theorem me_tup {es : List Expr} {u : Tn -> R (List D)} {x1} (h : MA X E Γ es u c) (hz : autoParam (es.length <= 1000) L2.au1._auto_1) : ME X E Γ (.Tuple es x1 pos) (eL (fun ds => .ok (.tup ds)) u) c := by
  obtain ⟨hl, ta, p, q⟩ := h
  refine ⟨tTup ta, pe_tup p, fun O σ H τ Q ok h => q O σ H τ _ ok ?_⟩
  unfold eL at h
  have hs : sizeLine = 16777216 := sizeLine_eq
  cases hu : u τ with
  | ok ds =>
    rw [hu, R.ok_bind] at h
    refine fun vs H1 L s r k => ⟨by rw [r.length, hl τ ds hu]; lia, fun p hp => ?_⟩
    refine h _ _ L (s.trans (Same.new hp)) ⟨p, vs, rfl, SqT.of upd_same, r.same (Same.new hp)⟩ k
  | err n => rw [hu] at h; exact h
  | bad => rw [hu] at h; exact h
theorem me_lst {es : List Expr} {u : Tn -> R (List D)} (h : MA X E Γ es u c) (hz : autoParam (es.length <= 1000) L2.au1._auto_1) : ME X E Γ (.List es pos) (eL (fun ds => .ok (.lst ds)) u) c := by
  obtain ⟨hl, ta, p, q⟩ := h
  refine ⟨tLst ta, pe_lst p, fun O σ H τ Q ok h => q O σ H τ _ ok ?_⟩
  unfold eL at h
  have hs : sizeLine = 16777216 := sizeLine_eq
  cases hu : u τ with
  | ok ds =>
    rw [hu, R.ok_bind] at h
    refine fun vs H1 L s r k => ⟨by rw [r.length, hl τ ds hu]; lia, fun p hp => ?_⟩
    refine h _ _ (p :: L) (s.trans (Same.new hp)) ⟨p, vs, L, rfl, upd_same, rfl, r.same (Same.new hp)⟩ ?_
    have np : H p = none := s.non hp
    cases c with
    | fresh =>
      refine ⟨List.nodup_cons.mpr ⟨fun z => r.there z hp, k.1⟩, fun a ha => ?_⟩
      rcases List.mem_cons.mp ha with z | z
      · rw [z]; exact np
      · exact k.2 a z
    | shr =>
      intro a ha
      rcases List.mem_cons.mp ha with z | z
      · rw [z]; exact fun o => ok.dom p o np
      · exact k a z
    | bor => trivial
  | err n => rw [hu] at h; exact h
  | bad => rw [hu] at h; exact h
theorem mt_val (h : ME X E Γ e t c) (he : autoParam (∀ whole, isTrue e X.env whole = (do let v <- whole; standAt e.pos; holding [v] (truthy v))) L2.au2._auto_1) : MT X E Γ e (eTest t) := by
  obtain ⟨te, p, q⟩ := h
  refine ⟨tB te, pt_val p he, fun O σ H τ Q ok h => q O σ H τ _ ok ?_⟩
  unfold eTest at h
  cases ht : t τ with
  | ok d =>
    rw [ht, R.ok_bind] at h
    refine fun v H' L s r _ => ?_
    cases d with
    | bl k => exact ⟨k, r.1, h H' s⟩
    | _ => exact h.elim
  | err n => rw [ht] at h; exact h
  | bad => rw [ht] at h; exact h
variable {u v : Tn -> R Bool} {rest : List Expr}
theorem mt_not (h : MT X E Γ a u) : MT X E Γ (.UnaryOp .Not a pos) (bNot u) := by
  obtain ⟨te, p, q⟩ := h
  refine ⟨tNot te, pt_not p, fun O σ H τ Q ok h => q O σ H τ _ ok ?_⟩
  unfold bNot at h
  cases ht : u τ with
  | ok d => rw [ht, R.ok_bind] at h; exact h
  | err n => rw [ht] at h; exact h
  | bad => rw [ht] at h; exact h
theorem mw_and1 (h : MT X E Γ a u) : MW X E Γ (.BoolOp .And [a] pos) u := by
  obtain ⟨te, p, q⟩ := h
  exact ⟨te, pw_and1 p, q⟩
theorem mw_or1 (h : MT X E Γ a u) : MW X E Γ (.BoolOp .Or [a] pos) u := by
  obtain ⟨te, p, q⟩ := h
  exact ⟨te, pw_or1 p, q⟩
theorem mw_and (h : MT X E Γ a u) (r : MW X E Γ (.BoolOp .And (b :: rest) pos) v) : MW X E Γ (.BoolOp .And (a :: b :: rest) pos) (bAnd u v) := by
  obtain ⟨te, p, q⟩ := h
  obtain ⟨te', p', q'⟩ := r
  refine ⟨tAnd te te', pw_and p p', fun O σ H τ Q ok h => q O σ H τ _ ok ?_⟩
  unfold bAnd at h
  cases ht : u τ with
  | ok d =>
    rw [ht, R.ok_bind] at h
    refine fun H1 s1 => ?_
    cases d with
    | true => rw [if_pos rfl] at h ⊢; exact q' O σ H1 τ Q (ok.same s1) (h.same s1)
    | false => rw [if_neg Bool.false_ne_true] at h ⊢; exact h H1 s1
  | err n => rw [ht] at h; exact h
  | bad => rw [ht] at h; exact h
theorem mw_or (h : MT X E Γ a u) (r : MW X E Γ (.BoolOp .Or (b :: rest) pos) v) : MW X E Γ (.BoolOp .Or (a :: b :: rest) pos) (bOr u v) := by
  obtain ⟨te, p, q⟩ := h
  obtain ⟨te', p', q'⟩ := r
  refine ⟨tOr te te', pw_or p p', fun O σ H τ Q ok h => q O σ H τ _ ok ?_⟩
  unfold bOr at h
  cases ht : u τ with
  | ok d =>
    rw [ht, R.ok_bind] at h
    refine fun H1 s1 => ?_
    cases d with
    | true => rw [if_pos rfl] at h ⊢; exact h H1 s1
    | false => rw [if_neg Bool.false_ne_true] at h ⊢; exact q' O σ H1 τ Q (ok.same s1) (h.same s1)
  | err n => rw [ht] at h; exact h
  | bad => rw [ht] at h; exact h
theorem me_one {op} (h : ME X E Γ a t c) : ME X E Γ (.BoolOp op [a] pos) t c := by
  obtain ⟨te, p, q⟩ := h
  exact ⟨te, pe_one p, q⟩
theorem asB_post {K : PySem.W.Frag} {O : Addr -> Prop} {H : Hp} {Q : VK} {d : D} {f : Bool -> R D} (h : post K E O c H Q ((asB d).bind f)) {v : V} {H' : Hp} {L : List Addr} (r : Rep K H' d v L) : ∃ k, v = .bl k /\ d = .bl k /\ post K E O c H Q (f k) := by
  cases d with
  | bl k => exact ⟨k, r.1, rfl, h⟩
  | _ => exact h.elim
theorem me_and (ha : ME X E Γ a ta ca) (hb : ME X E Γ (.BoolOp .And (b :: rest) pos) tb c) : ME X E Γ (.BoolOp .And (a :: b :: rest) pos) (eAnd ta tb) c := by
  obtain ⟨te, p, q⟩ := ha
  obtain ⟨te', p', q'⟩ := hb
  refine ⟨tAndV te te', pe_and p p', fun O σ H τ Q ok h => q O σ H τ _ ok (post.bind h fun d _ h v H1 L s r _ => ?_)⟩
  obtain ⟨k, e1, e2, h⟩ := asB_post h r
  refine ⟨k, e1, ?_⟩
  cases k with
  | true => rw [if_pos rfl] at h ⊢; exact q' O σ H1 τ Q (ok.same s) (h.same s)
  | false => rw [if_neg Bool.false_ne_true] at h ⊢; exact h _ H1 [] s ⟨rfl, rfl⟩ RcOk.nil
noncomputable def OpB (K : PySem.W.Frag) (r : R2) (g : D -> D -> R D) : Prop :=
  ∀ H x y dx dy Lx Ly (Q : VK), Rep K H dx x Lx -> Rep K H dy y Ly -> (∃ d, g dx dy = .ok d /\ ∀ v H' L, Same H H' -> Rep K H' d v L -> L.Nodup -> (∀ a ∈ L, H a = none) -> Q v H') -> r x y H Q
noncomputable def NoErr (g : D -> D -> R D) : Prop := ∀ x y n, g x y ≠ .err n
theorem bin_go {r : R2} {g : D -> D -> R D} {te te' : TE} (hB : OpB X.K r g) (hn : NoErr g) (q : ∀ O σ H τ Q, EOk X.K Γ O H σ τ -> post X.K E O ca H Q (ta τ) -> te σ H Q) (q' : ∀ O σ H τ Q, EOk X.K Γ O H σ τ -> post X.K E O cb H Q (tb τ) -> te' σ H Q)
    {O : Addr -> Prop} {σ : St} {H : Hp} {τ : Tn} {Q : VK} (ok : EOk X.K Γ O H σ τ) (h : post X.K E O .fresh H Q (eBin g ta tb τ)) : tOp r te te' σ H Q := by
  unfold eBin at h
  refine q O σ H τ _ ok (post.bind h fun dx _ h x H1 Lx s1 rx _ => q' O σ H1 τ _ (ok.same s1) (post.bind (h.same s1) fun dy _ h y H2 Ly s2 ry _ => ?_))
  cases hg : g dx dy with
  | ok d =>
    rw [hg] at h
    exact hB H2 x y dx dy Lx Ly Q (rx.same s2) ry ⟨d, hg, fun v H' L s r n1 n2 => h v H' L (s2.trans s) r ⟨n1, fun a ha => s2.non (n2 a ha)⟩⟩
  | err n => exact absurd hg (hn _ _ _)
  | bad => rw [hg] at h; exact h.elim
theorem me_op {op : Operator} {r : R2} {g : D -> D -> R D} (ho : OpR X (binaryOp op) r) (hB : OpB X.K r g) (hn : NoErr g) (ha : ME X E Γ a ta ca) (hb : ME X E Γ b tb cb) : ME X E Γ (.BinOp a op b pos) (eBin g ta tb) .fresh := by
  obtain ⟨te, p, q⟩ := ha
  obtain ⟨te', p', q'⟩ := hb
  exact ⟨_, pe_op ho p p', fun O σ H τ Q ok h => bin_go hB hn q q' ok h⟩
theorem me_cmp {op : CmpOp} {r : R2} {g : D -> D -> R D} (ho : OpR X (compareOp op) r) (hB : OpB X.K r g) (hn : NoErr g) (ha : ME X E Γ a ta ca) (hb : ME X E Γ b tb cb) (hm : behindInMarks op b = false) : ME X E Γ (.Compare a [op] [b] pos) (eBin g ta tb) .fresh := by
  obtain ⟨te, p, q⟩ := ha
  obtain ⟨te', p', q'⟩ := hb
  exact ⟨_, pe_cmpR ho p p' hm, fun O σ H τ Q ok h => bin_go hB hn q q' ok h⟩
theorem test_post {K : PySem.W.Frag} {O : Addr -> Prop} {H : Hp} {Q : Bool -> Hp -> Prop} {r : R D} (h : postB K E H Q (r.bind asB)) : post K E O c H (fun x H' => ∃ k, x = .bl k /\ Q k H') r := by
  cases r with
  | ok d =>
    refine fun v H' L s r _ => ?_
    cases d with
    | bl k => exact ⟨k, r.1, h H' s⟩
    | _ => exact h.elim
  | err n => exact h
  | bad => exact h
theorem mt_cmp {op : CmpOp} {r : R2} {g : D -> D -> R D} (ho : OpR X (compareOp op) r) (hB : OpB X.K r g) (hn : NoErr g) (ha : ME X E Γ a ta ca) (hb : ME X E Γ b tb cb) (hm : behindInMarks op b = false) : MT X E Γ (.Compare a [op] [b] pos) (eTest (eBin g ta tb)) := by
  obtain ⟨te, p, q⟩ := ha
  obtain ⟨te', p', q'⟩ := hb
  exact ⟨_, pt_cmpR ho p p' hm, fun O σ H τ Q ok h => bin_go (O := O) hB hn q q' ok (test_post h)⟩
theorem chain_go {c' : Expr} {cc : Rc} {r r' : R2} {g g' : D -> D -> R D} {te te' te2 : TE} (hB : OpB X.K r g) (hn : NoErr g) (hB' : OpB X.K r' g') (hn' : NoErr g') (q : ∀ O σ H τ Q, EOk X.K Γ O H σ τ -> post X.K E O ca H Q (ta τ) -> te σ H Q) (q' : ∀ O σ H τ Q, EOk X.K Γ O H σ τ -> post X.K E O cb H Q (tb τ) -> te' σ H Q)
    (q2 : ∀ O σ H τ Q, EOk X.K Γ O H σ τ -> post X.K E O cc H Q (tc τ) -> te2 σ H Q) {O : Addr -> Prop} {σ : St} {H : Hp} {τ : Tn} {Q : VK} (ok : EOk X.K Γ O H σ τ) (h : post X.K E O .fresh H Q (eChain g g' ta tb tc τ)) : tChain r r' te te' te2 σ H Q := by
  unfold eChain at h
  refine q O σ H τ _ ok (post.bind h fun dx _ h x H1 Lx s1 rx _ => q' O σ H1 τ _ (ok.same s1) (post.bind (h.same s1) fun dy _ h y H2 Ly s2 ry _ => ?_))
  cases hg : g dx dy with
  | ok d =>
    rw [hg, R.ok_bind] at h
    refine hB H2 x y dx dy Lx Ly _ (rx.same s2) ry ⟨d, hg, fun z H3 L s3 r3 n1 n2 => ?_⟩
    obtain ⟨k, e1, e2, h⟩ := asB_post (h.same s2) r3
    refine ⟨k, e1, ?_⟩
    cases k with
    | true =>
      rw [if_pos rfl] at h ⊢
      have ok3 := ((ok.same s1).same s2).same s3
      refine q2 O σ H3 τ _ ok3 (post.bind (h.same s3) fun dw _ h w H4 Lw s4 rw4 _ => ?_)
      cases hg' : g' dy dw with
      | ok d' =>
        rw [hg'] at h
        exact hB' H4 y w dy dw Ly Lw Q ((ry.same s3).same s4) rw4 ⟨d', hg', fun v H' L s r n1 n2 => h v H' L (s4.trans s) r ⟨n1, fun a ha => s4.non (n2 a ha)⟩⟩
      | err n => exact absurd hg' (hn' _ _ _)
      | bad => rw [hg'] at h; exact h.elim
    | false => rw [if_neg Bool.false_ne_true] at h ⊢; exact h _ H3 [] s3 ⟨rfl, rfl⟩ RcOk.nil
  | err n => exact absurd hg (hn _ _ _)
  | bad => rw [hg] at h; exact h.elim
theorem mt_chain {op op' : CmpOp} {c' : Expr} {cc : Rc} {r r' : R2} {g g' : D -> D -> R D} (ho : OpR X (compareOp op) r) (hB : OpB X.K r g) (hn : NoErr g) (ho' : OpR X (compareOp op') r') (hB' : OpB X.K r' g') (hn' : NoErr g')
    (ha : ME X E Γ a ta ca) (hb : ME X E Γ b tb cb) (hc : ME X E Γ c' tc cc) (hm : autoParam (lastMarks [op, op'] [b, c'] = false) L2.au4._auto_1) : MT X E Γ (.Compare a [op, op'] [b, c'] pos) (eTest (eChain g g' ta tb tc)) := by
  obtain ⟨te, p, q⟩ := ha
  obtain ⟨te', p', q'⟩ := hb
  obtain ⟨te2, p2, q2⟩ := hc
  exact ⟨_, pt_chain ho ho' p p' p2 hm, fun O σ H τ Q ok h => chain_go (c' := c') (O := O) hB hn hB' hn' q q' q2 ok (test_post h)⟩
noncomputable def ClB (K : PySem.W.Frag) (r : List V -> Hp -> VK -> Prop) (g : List D -> R D) : Prop :=
  ∀ H xs ds L (Q : VK), Reps K H ds xs L -> (∃ d, g ds = .ok d /\ ∀ v H' L', Same H H' -> Rep K H' d v L' -> L'.Nodup -> (∀ a ∈ L', H a = none) -> Q v H') -> r xs H Q
noncomputable def NoErrL (g : List D -> R D) : Prop := ∀ ds n, g ds ≠ .err n
variable {uL : Tn -> R (List D)} {es : List Expr}
theorem cb_go {r : List V -> Hp -> VK -> Prop} {g : List D -> R D} {ta' : TA} (hB : ClB X.K r g) (hn : NoErrL g) (q : ∀ O σ H τ Q, EOk X.K Γ O H σ τ -> postL X.K E O ca H Q (uL τ) -> ta' σ H Q)
    {O : Addr -> Prop} {σ : St} {H : Hp} {τ : Tn} {Q : VK} (ok : EOk X.K Γ O H σ τ) (h : post X.K E O .fresh H Q (eL g uL τ)) : tCB r ta' σ H Q := by
  refine q O σ H τ _ ok ?_
  unfold eL at h
  cases hu : uL τ with
  | ok ds =>
    rw [hu, R.ok_bind] at h
    refine fun vs H1 L s1 r1 _ => ?_
    cases hg : g ds with
    | ok d =>
      rw [hg] at h
      exact hB H1 vs ds L Q r1 ⟨d, hg, fun v H' L s r n1 n2 => h v H' L (s1.trans s) r ⟨n1, fun a ha => s1.non (n2 a ha)⟩⟩
    | err n => exact absurd hg (hn _ _)
    | bad => rw [hg] at h; exact h.elim
  | err n => rw [hu] at h; exact h
  | bad => rw [hu] at h; exact h
variable {x : Str} {id T : String} {p : Pos}
theorem me_callB {r : List V -> Hp -> VK -> Prop} {g : List D -> R D} (hc : CallR X (.builtin id) r) (hB : ClB X.K r g) (hn : NoErrL g) (hg : Gl X x) (hm : X.mg x = none) (hv : bootBuiltins x = some (.builtin id)) (ha : MA X E Γ (e :: es) uL ca) (hx : autoParam (x ≠ "__name__") L2.au1._auto_1) (hdb : autoParam ((x == ("__debug__" : Str)) = false) L2.au1._auto_1)
    (he : autoParam (starEach (e :: es) X.env = (false, eval e X.env) :: starEach es X.env) L2.au3._auto_1) (hpl : autoParam ((backTo pos (starEach es X.env)).any (·.1) = false) L2.au3._auto_1) : ME X E Γ (.Call (.Name x p) (e :: es) [] pos) (eL g uL) .fresh := by
  obtain ⟨_, ta', p', q⟩ := ha
  exact ⟨_, pe_callB hc hg hm hv p' hx hdb he hpl, fun O σ H τ Q ok h => cb_go hB hn q ok h⟩
theorem me_callTy {r : List V -> Hp -> VK -> Prop} {g : List D -> R D} (hc : CallR X (.type T) r) (hB : ClB X.K r g) (hn : NoErrL g) (hg : Gl X x) (hm : X.mg x = none) (hv : bootBuiltins x = some (.type T)) (ha : MA X E Γ (e :: es) uL ca) (hx : autoParam (x ≠ "__name__") L2.au1._auto_1) (hdb : autoParam ((x == ("__debug__" : Str)) = false) L2.au1._auto_1)
    (he : autoParam (starEach (e :: es) X.env = (false, eval e X.env) :: starEach es X.env) L2.au3._auto_1) (hpl : autoParam ((backTo pos (starEach es X.env)).any (·.1) = false) L2.au3._auto_1) : ME X E Γ (.Call (.Name x p) (e :: es) [] pos) (eL g uL) .fresh := by
  obtain ⟨_, ta', p', q⟩ := ha
  exact ⟨_, pe_callTy hc hg hm hv p' hx hdb he hpl, fun O σ H τ Q ok h => cb_go hB hn q ok h⟩
end
end L2
set_option maxRecDepth 100000
set_option maxHeartbeats 4000000
namespace L2
open PySem PySem.Spec PyProof.Rows
noncomputable def wpE (K : PySem.W.Frag) (E : XK) (Γ : List Cl) (t : Tn -> R D) (c : Rc) : TE := fun σ H Q => ∃ O τ, EOk K Γ O H σ τ /\ post K E O c H Q (t τ)
noncomputable def wpT (K : PySem.W.Frag) (E : XK) (Γ : List Cl) (t : Tn -> R Bool) : TT := fun σ H Q => ∃ O τ, EOk K Γ O H σ τ /\ postB K E H Q (t τ)
theorem ME.pe {X : Cx} {E : XK} {Γ : List Cl} {e : Expr} {t : Tn -> R D} {c : Rc} (h : ME X E Γ e t c) : PE X e (wpE X.K E Γ t c) := by
  obtain ⟨te, p, q⟩ := h
  rintro pins s σ H Q I ⟨O, τ, ok, z⟩
  exact p pins s σ H Q I (q O σ H τ Q ok z)
structure SOk (K : PySem.W.Frag) (Γ : List Cl) (B H : Hp) (σ : St) (τ : Tn) (T : List Addr) : Prop where
  ext : Same B H
  lσ : σ.length = Γ.length
  lτ : τ.length = Γ.length
  ex : ∃ Ls : Nat -> List Addr,
    (∀ i c, Γ[i]? = some c -> c ≠ .dead -> ∃ v d, σ[i]? = some (some v) /\ τ[i]? = some (some d) /\ Rep K H d v (Ls i)) /\
    (∀ i, Γ[i]? = some .own -> (Ls i).Nodup /\ ∀ a ∈ Ls i, B a = none) /\
    (∀ i j c, i ≠ j -> Γ[i]? = some .own -> Γ[j]? = some c -> c ≠ .dead -> ∀ a ∈ Ls i, a ∉ Ls j) /\
    T.Nodup /\ (∀ a ∈ T, B a = none /\ H a ≠ none) /\ (∀ i c, Γ[i]? = some c -> c ≠ .dead -> ∀ a ∈ Ls i, a ∉ T)
inductive Fl where
  | nx (τ : Tn) | rt (d : D) | bk (τ : Tn) | ct (τ : Tn)
noncomputable def postV (K : PySem.W.Frag) (E : XK) (B : Hp) (Γ' : List Cl) (σ : St) (τ : Tn) (T : List Addr) (H : Hp) (Q : VK) : R D -> Prop
  | .ok d => ∀ v H' L, Same H H' -> Rep K H' d v L -> SOk K Γ' B H' σ τ (L ++ T) -> Q v H'
  | .err n => ∀ C H', ErrC K n C -> Same B H' -> E (.ref C) none H'
  | .bad => False
noncomputable def postVs (K : PySem.W.Frag) (E : XK) (B : Hp) (Γ' : List Cl) (σ : St) (τ : Tn) (T : List Addr) (H : Hp) (Q : List V -> Hp -> Prop) : R (List D) -> Prop
  | .ok ds => ∀ vs H' L, Same H H' -> Reps K H' ds vs L -> SOk K Γ' B H' σ τ (L ++ T) -> Q vs H'
  | .err n => ∀ C H', ErrC K n C -> Same B H' -> E (.ref C) none H'
  | .bad => False
noncomputable def postS (K : PySem.W.Frag) (E : XK) (B : Hp) (Γl Γ' : List Cl) (Z : Ends) : R Fl -> Prop
  | .ok (.nx τ') => ∀ σ' H', SOk K Γ' B H' σ' τ' [] -> Z.nx σ' H'
  | .ok (.rt d) => ∀ v H' L, Same B H' -> Rep K H' d v L -> L.Nodup -> (∀ a ∈ L, B a = none) -> Z.rt v H'
  | .ok (.bk τ') => ∀ σ' H', SOk K Γl B H' σ' τ' [] -> Z.bk σ' H'
  | .ok (.ct τ') => ∀ σ' H', SOk K Γl B H' σ' τ' [] -> Z.ct σ' H'
  | .err n => ∀ C H', ErrC K n C -> Same B H' -> E (.ref C) none H'
  | .bad => False
noncomputable def MV (X : Cx) (E : XK) (Γ : List Cl) (e : Expr) (t : Tn -> R D) (Γ' : List Cl) : Prop :=
  ∃ te, PE X e te /\ ∀ B σ H τ T Q, SOk X.K Γ B H σ τ T -> postV X.K E B Γ' σ τ T H Q (t τ) -> te σ H Q
noncomputable def MVs (X : Cx) (E : XK) (Γ : List Cl) (es : List Expr) (t : Tn -> R (List D)) (Γ' : List Cl) : Prop :=
  (∀ τ ds, t τ = .ok ds -> ds.length = es.length) /\ ∃ ta, PA X es ta /\ ∀ B σ H τ T Q, SOk X.K Γ B H σ τ T -> postVs X.K E B Γ' σ τ T H Q (t τ) -> ta σ H Q
noncomputable def MS (X : Cx) (E : XK) (Γl Γ : List Cl) (s : Stmt) (t : Tn -> R Fl) (Γ' : List Cl) : Prop :=
  ∃ ts, PS X s ts /\ ∀ B σ H τ Z, SOk X.K Γ B H σ τ [] -> postS X.K E B Γl Γ' Z (t τ) -> ts Z σ H
noncomputable def MSs (X : Cx) (E : XK) (Γl Γ : List Cl) (s : List Stmt) (t : Tn -> R Fl) (Γ' : List Cl) : Prop :=
  ∃ ts, PSs X s ts /\ ∀ B σ H τ Z, SOk X.K Γ B H σ τ [] -> postS X.K E B Γl Γ' Z (t τ) -> ts Z σ H
section
variable {K : PySem.W.Frag} {Γ Γ' : List Cl} {B H H1 : Hp} {σ : St} {τ : Tn} {T : List Addr}
theorem SOk.eok (h : SOk K Γ B H σ τ T) : ∃ O : Addr -> Prop, EOk K Γ O H σ τ /\ (∀ L : List Addr, (∀ a ∈ L, ¬ O a) -> ∃ Ls : Nat -> List Addr,
    (∀ i c, Γ[i]? = some c -> c ≠ .dead -> ∃ v d, σ[i]? = some (some v) /\ τ[i]? = some (some d) /\ Rep K H d v (Ls i)) /\
    (∀ i, Γ[i]? = some .own -> (Ls i).Nodup /\ ∀ a ∈ Ls i, B a = none) /\
    (∀ i j c, i ≠ j -> Γ[i]? = some .own -> Γ[j]? = some c -> c ≠ .dead -> ∀ a ∈ Ls i, a ∉ Ls j) /\
    T.Nodup /\ (∀ a ∈ T, B a = none /\ H a ≠ none) /\ (∀ i c, Γ[i]? = some c -> c ≠ .dead -> ∀ a ∈ Ls i, a ∉ T) /\ ∀ i, Γ[i]? = some .own -> ∀ a ∈ Ls i, a ∉ L) := by
  obtain ⟨Ls, h1, h2, h3, h4, h5, h6⟩ := h.ex
  refine ⟨fun a => ∃ i, Γ[i]? = some .own /\ a ∈ Ls i, ⟨fun a ⟨i, e, ha⟩ => ?_, fun i c e hc => ?_⟩, fun L hL => ⟨Ls, h1, h2, h3, h4, h5, h6, fun i e a ha hm => hL a hm ⟨i, e, ha⟩⟩⟩
  · obtain ⟨v, d, _, _, r⟩ := h1 i _ e (by simp)
    exact r.there ha
  · obtain ⟨v, d, e1, e2, r⟩ := h1 i c e hc
    refine ⟨v, d, Ls i, e1, e2, r, fun z a ha ⟨j, ej, hj⟩ => ?_⟩
    subst z
    have hij : j ≠ i := fun z => by subst z; rw [e] at ej; cases ej
    exact h3 j i _ hij ej e (by simp) a hj ha
theorem SOk.same (h : SOk K Γ B H σ τ T) (s : Same H H1) : SOk K Γ B H1 σ τ T := by
  obtain ⟨Ls, h1, h2, h3, h4, h5, h6⟩ := h.ex
  refine ⟨h.ext.trans s, h.lσ, h.lτ, Ls, fun i c e hc => ?_, h2, h3, h4, fun a ha => ⟨(h5 a ha).1, by rw [s.at (h5 a ha).2]; exact (h5 a ha).2⟩, h6⟩
  obtain ⟨v, d, e1, e2, r⟩ := h1 i c e hc
  exact ⟨v, d, e1, e2, r.same s⟩
theorem SOk.aside {L : List Addr} (h : SOk K Γ B H σ τ T) (s : Same H H1) (r : ∀ a ∈ L, H1 a ≠ none) (n1 : L.Nodup) (n2 : ∀ a ∈ L, H a = none) : SOk K Γ B H1 σ τ (L ++ T) := by
  obtain ⟨Ls, h1, h2, h3, h4, h5, h6⟩ := h.ex
  refine ⟨h.ext.trans s, h.lσ, h.lτ, Ls, fun i c e hc => ?_, h2, h3, List.nodup_append.mpr ⟨n1, h4, fun a ha b hb z => ?_⟩, fun a ha => ?_, fun i c e hc a ha hm => ?_⟩
  · obtain ⟨v, d, e1, e2, r⟩ := h1 i c e hc
    exact ⟨v, d, e1, e2, r.same s⟩
  · subst z; exact (h5 a hb).2 (n2 a ha)
  · rcases List.mem_append.mp ha with z | z
    · exact ⟨h.ext.non (n2 a z), r a z⟩
    · exact ⟨(h5 a z).1, by rw [s.at (h5 a z).2]; exact (h5 a z).2⟩
  · obtain ⟨v, d, e1, e2, r'⟩ := h1 i c e hc
    rcases List.mem_append.mp hm with z | z
    · exact r'.there ha (n2 a z)
    · exact h6 i c e hc a ha z
theorem SOk.perm {T' : List Addr} (h : SOk K Γ B H σ τ T) (p : T.Perm T') : SOk K Γ B H σ τ T' := by
  obtain ⟨Ls, h1, h2, h3, h4, h5, h6⟩ := h.ex
  exact ⟨h.ext, h.lσ, h.lτ, Ls, h1, h2, h3, p.nodup_iff.mp h4, fun a ha => h5 a (p.mem_iff.mpr ha), fun i c e hc a ha hm => h6 i c e hc a ha (p.mem_iff.mpr hm)⟩
noncomputable def wk1 : Cl -> Cl -> Bool
  | _, .dead => true
  | .own, .own => true
  | .own, .shr => true
  | .shr, .shr => true
  | _, _ => false
noncomputable def wk : List Cl -> List Cl -> Bool
  | [], [] => true
  | a :: r, b :: q => wk1 a b && wk r q
  | _, _ => false
theorem wk_len : ∀ {Γ Γ' : List Cl}, wk Γ Γ' = true -> Γ.length = Γ'.length
  | [], [], _ => rfl
  | a :: r, b :: q, h => by
    have h : (wk1 a b && wk r q) = true := h
    rw [Bool.and_eq_true] at h
    rw [List.length_cons, List.length_cons, wk_len h.2]
theorem wk_at : ∀ {Γ Γ' : List Cl} {i : Nat} {c : Cl}, wk Γ Γ' = true -> Γ'[i]? = some c -> ∃ k, Γ[i]? = some k /\ wk1 k c = true
  | [], [], _, _, _, e => by simp at e
  | a :: r, b :: q, 0, c, h, e => by
    have h : (wk1 a b && wk r q) = true := h
    rw [Bool.and_eq_true] at h
    simp at e; subst e
    exact ⟨a, rfl, h.1⟩
  | a :: r, b :: q, i + 1, c, h, e => by
    have h : (wk1 a b && wk r q) = true := h
    rw [Bool.and_eq_true] at h
    obtain ⟨k, h1, h2⟩ := wk_at (i := i) (c := c) h.2 (by simpa using e)
    exact ⟨k, by simpa using h1, h2⟩
theorem SOk.weak (h : SOk K Γ B H σ τ T) (w : wk Γ Γ' = true) : SOk K Γ' B H σ τ T := by
  obtain ⟨Ls, h1, h2, h3, h4, h5, h6⟩ := h.ex
  have live : ∀ (i : Nat) (c : Cl), Γ'[i]? = some c -> c ≠ Cl.dead -> ∃ k, Γ[i]? = some k /\ k ≠ Cl.dead /\ (c = Cl.own -> k = Cl.own) := fun i c e hc => by
    obtain ⟨k, e', w'⟩ := wk_at w e
    refine ⟨k, e', fun z => ?_, fun z => ?_⟩
    · subst z; cases c <;> first | exact absurd rfl hc | cases w'
    · subst z; cases k <;> first | rfl | cases w'
  refine ⟨h.ext, by rw [<- wk_len w]; exact h.lσ, by rw [<- wk_len w]; exact h.lτ, Ls, fun i c e hc => ?_, fun i e => ?_, fun i j c hij ei ej hc => ?_, h4, h5, fun i c e hc => ?_⟩
  · obtain ⟨k, e', n, _⟩ := live i c e hc
    exact h1 i k e' n
  · obtain ⟨k, e', n, o⟩ := live i _ e (by simp)
    rw [o rfl] at e'
    exact h2 i e'
  · obtain ⟨k, e', n, o⟩ := live i _ ei (by simp)
    obtain ⟨k2, e2, n2, _⟩ := live j c ej hc
    rw [o rfl] at e'
    exact h3 i j k2 hij e' e2 n2
  · obtain ⟨k, e', n, _⟩ := live i c e hc
    exact h6 i k e' n
theorem SOk.out {i : Nat} (h : SOk K Γ B H σ τ T) (e : Γ[i]? = some .own) : ∃ v d L, σ[i]? = some (some v) /\ τ[i]? = some (some d) /\ Rep K H d v L /\ SOk K (Γ.set i .dead) B H σ τ (L ++ T) := by
  obtain ⟨Ls, h1, h2, h3, h4, h5, h6⟩ := h.ex
  obtain ⟨v, d, e1, e2, r⟩ := h1 i _ e (by simp)
  have hi : i < Γ.length := (List.getElem?_eq_some_iff.mp e).1
  have at' : ∀ (j : Nat) (c : Cl), (Γ.set i .dead)[j]? = some c -> c ≠ .dead -> j ≠ i /\ Γ[j]? = some c := fun j c ej hc => by
    by_cases z : i = j
    · subst z; rw [List.getElem?_set_self hi] at ej; exact absurd (Option.some.inj ej).symm hc
    · rw [List.getElem?_set_ne z] at ej; exact ⟨Ne.symm z, ej⟩
  refine ⟨v, d, Ls i, e1, e2, r, ⟨h.ext, by rw [List.length_set]; exact h.lσ, by rw [List.length_set]; exact h.lτ, Ls, fun j c ej hc => h1 j c (at' j c ej hc).2 hc, fun j ej => h2 j (at' j _ ej (by simp)).2, fun j k c hjk ej ek hc => h3 j k c hjk (at' j _ ej (by simp)).2 (at' k c ek hc).2 hc,
    List.nodup_append.mpr ⟨(h2 i e).1, h4, fun a ha b hb z => ?_⟩, fun a ha => ?_, fun j c ej hc a ha hm => ?_⟩⟩
  · subst z; exact h6 i _ e (by simp) a ha hb
  · rcases List.mem_append.mp ha with z | z
    · exact ⟨(h2 i e).2 a z, r.there z⟩
    · exact h5 a z
  · obtain ⟨n, ej'⟩ := at' j c ej hc
    rcases List.mem_append.mp hm with z | z
    · exact h3 i j c (Ne.symm n) e ej' hc a z ha
    · exact h6 j c ej' hc a ha z
noncomputable def putL (Ls : Nat -> List Addr) (i : Nat) (L : List Addr) : Nat -> List Addr := fun j => if j = i then L else Ls j
theorem putL_self {Ls : Nat -> List Addr} {i : Nat} {L : List Addr} : putL Ls i L i = L := if_pos rfl
theorem putL_eq {Ls : Nat -> List Addr} {i j : Nat} {L : List Addr} (h : j = i) : putL Ls i L j = L := if_pos h
theorem putL_ne {Ls : Nat -> List Addr} {i j : Nat} {L : List Addr} (h : j ≠ i) : putL Ls i L j = Ls j := if_neg h
theorem SOk.into {i : Nat} {d : D} {v : V} {L : List Addr} (h : SOk K Γ B H σ τ (L ++ T)) (r : Rep K H d v L) (hi : i < Γ.length) : SOk K (Γ.set i .own) B H (σ.set i (some v)) (τ.set i (some d)) T := by
  obtain ⟨Ls, h1, h2, h3, h4, h5, h6⟩ := h.ex
  have hσ : i < σ.length := by rw [h.lσ]; exact hi
  have hτ : i < τ.length := by rw [h.lτ]; exact hi
  obtain ⟨n1, n2, n3⟩ := List.nodup_append.mp h4
  have at' : ∀ (j : Nat) (c : Cl), j ≠ i -> (Γ.set i .own)[j]? = some c -> Γ[j]? = some c := fun j c hj e => by rw [List.getElem?_set_ne (Ne.symm hj)] at e; exact e
  refine ⟨h.ext, by rw [List.length_set, List.length_set]; exact h.lσ, by rw [List.length_set, List.length_set]; exact h.lτ, putL Ls i L, fun j c e hc => ?_, fun j e => ?_, fun j k c hjk ej ek hc a ha hm => ?_, n2, fun a ha => h5 a (List.mem_append_right _ ha), fun j c e hc a ha hm => ?_⟩
  · by_cases z : j = i
    · subst z
      refine ⟨v, d, by rw [List.getElem?_set_self hσ], by rw [List.getElem?_set_self hτ], ?_⟩
      rw [putL_self]; exact r
    · obtain ⟨v', d', e1, e2, r'⟩ := h1 j c (at' j c z e) hc
      refine ⟨v', d', by rw [List.getElem?_set_ne (Ne.symm z)]; exact e1, by rw [List.getElem?_set_ne (Ne.symm z)]; exact e2, ?_⟩
      rw [putL_ne z]; exact r'
  · by_cases z : j = i
    · subst z; rw [putL_self]; exact ⟨n1, fun a ha => (h5 a (List.mem_append_left _ ha)).1⟩
    · rw [putL_ne z]; exact h2 j (at' j _ z e)
  · by_cases z : j = i
    · subst z
      rw [putL_self] at ha
      rw [putL_ne (Ne.symm hjk)] at hm
      exact h6 k c (at' k c (Ne.symm hjk) ek) hc a hm (List.mem_append_left _ ha)
    · rw [putL_ne z] at ha
      by_cases z2 : k = i
      · subst z2
        rw [putL_self] at hm
        exact h6 j _ (at' j _ z ej) (by simp) a ha (List.mem_append_left _ hm)
      · rw [putL_ne z2] at hm
        exact h3 j k c hjk (at' j _ z ej) (at' k c z2 ek) hc a ha hm
  · by_cases z : j = i
    · subst z; rw [putL_self] at ha; exact n3 a ha a hm rfl
    · rw [putL_ne z] at ha; exact h6 j c (at' j c z e) hc a ha (List.mem_append_right _ hm)
end
end L2
set_option maxRecDepth 100000
set_option maxHeartbeats 4000000
namespace L2
open PySem PySem.Spec PyProof.Rows
section
variable {K : PySem.W.Frag} {Γ Γ' : List Cl} {B H H1 : Hp} {σ : St} {τ : Tn} {T : List Addr}
theorem SOk.intoS {i : Nat} {d : D} {v : V} {L : List Addr} {Ls : Nat -> List Addr} (e0 : Same B H) (l1 : σ.length = Γ.length) (l2 : τ.length = Γ.length)
    (h1 : ∀ i c, Γ[i]? = some c -> c ≠ .dead -> ∃ v d, σ[i]? = some (some v) /\ τ[i]? = some (some d) /\ Rep K H d v (Ls i)) (h2 : ∀ i, Γ[i]? = some .own -> (Ls i).Nodup /\ ∀ a ∈ Ls i, B a = none)
    (h3 : ∀ i j c, i ≠ j -> Γ[i]? = some .own -> Γ[j]? = some c -> c ≠ .dead -> ∀ a ∈ Ls i, a ∉ Ls j) (h7 : ∀ i, Γ[i]? = some .own -> ∀ a ∈ Ls i, a ∉ L) (r : Rep K H d v L) (hi : i < Γ.length) :
    SOk K (Γ.set i .shr) B H (σ.set i (some v)) (τ.set i (some d)) [] := by
  have hσ : i < σ.length := by rw [l1]; exact hi
  have hτ : i < τ.length := by rw [l2]; exact hi
  have at' : ∀ (j : Nat) (c : Cl), j ≠ i -> (Γ.set i .shr)[j]? = some c -> Γ[j]? = some c := fun j c hj e => by rw [List.getElem?_set_ne (Ne.symm hj)] at e; exact e
  have nown : ∀ j : Nat, (Γ.set i .shr)[j]? = some .own -> j ≠ i := fun j e z => by subst z; rw [List.getElem?_set_self hi] at e; cases e
  refine ⟨e0, by rw [List.length_set, List.length_set]; exact l1, by rw [List.length_set, List.length_set]; exact l2, putL Ls i L, fun j c e hc => ?_, fun j e => ?_, fun j k c hjk ej ek hc a ha hm => ?_, List.nodup_nil, fun a ha => (nomatch ha), fun j c e hc a ha hm => (nomatch hm)⟩
  · by_cases z : j = i
    · subst z
      refine ⟨v, d, by rw [List.getElem?_set_self hσ], by rw [List.getElem?_set_self hτ], ?_⟩
      rw [putL_self]; exact r
    · obtain ⟨v', d', e1, e2, r'⟩ := h1 j c (at' j c z e) hc
      refine ⟨v', d', by rw [List.getElem?_set_ne (Ne.symm z)]; exact e1, by rw [List.getElem?_set_ne (Ne.symm z)]; exact e2, ?_⟩
      rw [putL_ne z]; exact r'
  · have z := nown j e
    rw [putL_ne z]; exact h2 j (at' j _ z e)
  · have z := nown j ej
    rw [putL_ne z] at ha
    by_cases z2 : k = i
    · rw [putL_eq z2] at hm; exact h7 j (at' j _ z ej) a ha hm
    · rw [putL_ne z2] at hm; exact h3 j k c hjk (at' j _ z ej) (at' k c z2 ek) hc a ha hm
end
section
variable {X : Cx} {E : XK} {Γ Γ1 Γ' Γl : List Cl} {e a b : Expr} {es : List Expr} {t : Tn -> R D} {u : Tn -> R (List D)} {c : Rc} {pos : Pos}
theorem mv_fresh (h : ME X E Γ e t .fresh) : MV X E Γ e t Γ := by
  obtain ⟨te, p, q⟩ := h
  refine ⟨te, p, fun B σ H τ T Q ok h => ?_⟩
  obtain ⟨O, eo, _⟩ := ok.eok
  refine q O σ H τ Q eo ?_
  cases ht : t τ with
  | ok d =>
    rw [ht] at h
    exact fun v H' L s r k => h v H' L s r (ok.aside s (fun a ha => r.there ha) k.1 k.2)
  | err n => rw [ht] at h; exact fun C H' e s => h C H' e (ok.ext.trans s)
  | bad => rw [ht] at h; exact h
theorem mv_name {i : Nat} {x : Str} (hN : X.N[i]? = some x) (hk : Γ[i]? = some .own) (hv : Vis X.env.scope x) (hb : autoParam ((x == ("__debug__" : Str)) = false) L2.au1._auto_1) (hcd : autoParam ((x == ("__classdict__" : Str)) = false) L2.au1._auto_1) : MV X E Γ (.Name x pos) (eVar i) (Γ.set i .dead) := by
  refine ⟨tVar i, pe_var hN hv hb hcd, fun B σ H τ T Q ok h => ?_⟩
  obtain ⟨v, d, L, e1, e2, r, ok'⟩ := ok.out hk
  unfold eVar at h
  rw [e2] at h
  exact ⟨v, e1, h v H L (Same.refl H) r ok'⟩
theorem mvs_nil : MVs X E Γ [] aNil Γ := ⟨fun τ ds h => by cases h; rfl, tNil, pa_nil, fun B σ H τ T Q ok h => h [] H [] (Same.refl H) Reps.nil ok⟩
theorem mvs_cons (h : MV X E Γ e t Γ1) (r : MVs X E Γ1 es u Γ') (hs : autoParam (starEach (e :: es) X.env = (false, eval e X.env) :: starEach es X.env) L2.au3._auto_1) : MVs X E Γ (e :: es) (aCons t u) Γ' := by
  obtain ⟨te, p1, q1⟩ := h
  obtain ⟨hl, ta, p2, q2⟩ := r
  refine ⟨fun τ ds h => ?_, tCons te ta, pa_cons p1 p2 hs, fun B σ H τ T Q ok h => ?_⟩
  · unfold aCons at h
    cases h1 : t τ with
    | ok d =>
      rw [h1, R.ok_bind] at h
      cases h2 : u τ with
      | ok xs =>
        rw [h2, R.ok_bind] at h
        cases h
        rw [List.length_cons, List.length_cons, hl τ xs h2]
      | err n => rw [h2] at h; cases h
      | bad => rw [h2] at h; cases h
    | err n => rw [h1] at h; cases h
    | bad => rw [h1] at h; cases h
  · unfold aCons at h
    refine q1 B σ H τ T _ ok ?_
    cases h1 : t τ with
    | ok d =>
      rw [h1, R.ok_bind] at h
      refine fun v H1 L1 s1 r1 k1 => q2 B σ H1 τ (L1 ++ T) _ k1 ?_
      cases h2 : u τ with
      | ok xs =>
        rw [h2, R.ok_bind] at h
        refine fun vs H2 L2 s2 r2 k2 => h (v :: vs) H2 (L1 ++ L2) (s1.trans s2) (Reps.cons (r1.same s2) r2) (k2.perm ?_)
        rw [<- List.append_assoc]
        exact List.Perm.append_right _ List.perm_append_comm
      | err n => rw [h2] at h; exact h
      | bad => rw [h2] at h; exact h
    | err n => rw [h1] at h; exact h
    | bad => rw [h1] at h; exact h
theorem mv_lst (h : MVs X E Γ es u Γ') (hz : autoParam (es.length <= 1000) L2.au1._auto_1) : MV X E Γ (.List es pos) (eL (fun ds => .ok (.lst ds)) u) Γ' := by
  obtain ⟨hl, ta, p, q⟩ := h
  refine ⟨tLst ta, pe_lst p, fun B σ H τ T Q ok h => q B σ H τ T _ ok ?_⟩
  unfold eL at h
  have hs : sizeLine = 16777216 := sizeLine_eq
  cases hu : u τ with
  | ok ds =>
    rw [hu, R.ok_bind] at h
    refine fun vs H1 L s r k => ⟨by rw [r.length, hl τ ds hu]; lia, fun p hp => ?_⟩
    refine h _ _ (p :: L) (s.trans (Same.new hp)) ⟨p, vs, L, rfl, upd_same, rfl, r.same (Same.new hp)⟩ ?_
    exact k.aside (L := [p]) (Same.new hp) (fun a ha => by rw [List.mem_singleton.mp ha, upd_same]; simp) (by simp) (fun a ha => by rw [List.mem_singleton.mp ha]; exact hp)
  | err n => rw [hu] at h; exact h
  | bad => rw [hu] at h; exact h
noncomputable def sSkip : Tn -> R Fl := fun τ => .ok (.nx τ)
noncomputable def sSeq (a b : Tn -> R Fl) : Tn -> R Fl := fun τ => (a τ).bind fun f => match f with
  | .nx τ' => b τ'
  | f => .ok f
noncomputable def sRet (t : Tn -> R D) : Tn -> R Fl := fun τ => (t τ).bind fun d => .ok (.rt d)
noncomputable def sSet (i : Nat) (t : Tn -> R D) : Tn -> R Fl := fun τ => (t τ).bind fun d => .ok (.nx (τ.set i (some d)))
noncomputable def sIf (k : Tn -> R Bool) (a b : Tn -> R Fl) : Tn -> R Fl := fun τ => (k τ).bind fun x => if x = true then a τ else b τ
theorem mss_nil : MSs X E Γl Γ [] sSkip Γ := ⟨tNext, pss_nil, fun B σ H τ Z ok h => h σ H ok⟩
theorem mss_one {s : Stmt} {t : Tn -> R Fl} (h : MS X E Γl Γ s t Γ') : MSs X E Γl Γ [s] t Γ' := by
  obtain ⟨ts, p, q⟩ := h
  exact ⟨ts, pss_one p, q⟩
theorem mss_cons {s : Stmt} {r : List Stmt} {t1 t2 : Tn -> R Fl} (h : MS X E Γl Γ s t1 Γ1) (k : MSs X E Γl Γ1 r t2 Γ') : MSs X E Γl Γ (s :: r) (sSeq t1 t2) Γ' := by
  obtain ⟨ts, p, q⟩ := h
  obtain ⟨ts', p', q'⟩ := k
  refine ⟨tSeq ts ts', pss_cons p p', fun B σ H τ Z ok h => q B σ H τ _ ok ?_⟩
  unfold sSeq at h
  cases ht : t1 τ with
  | ok f =>
    rw [ht, R.ok_bind] at h
    cases f with
    | nx τ' => exact fun σ' H' ok' => q' B σ' H' τ' Z ok' h
    | rt d => exact h
    | bk τ' => exact h
    | ct τ' => exact h
  | err n => rw [ht] at h; exact h
  | bad => rw [ht] at h; exact h
theorem mss_weak {s : List Stmt} {t : Tn -> R Fl} (h : MSs X E Γl Γ s t Γ1) (w : wk Γ1 Γ' = true) : MSs X E Γl Γ s t Γ' := by
  obtain ⟨ts, p, q⟩ := h
  refine ⟨ts, p, fun B σ H τ Z ok h => q B σ H τ Z ok ?_⟩
  cases ht : t τ with
  | ok f =>
    rw [ht] at h
    cases f with
    | nx τ' => exact fun σ' H' ok' => h σ' H' (ok'.weak w)
    | rt d => exact h
    | bk τ' => exact h
    | ct τ' => exact h
  | err n => rw [ht] at h; exact h
  | bad => rw [ht] at h; exact h
theorem ms_pre {s : Stmt} {t : Tn -> R Fl} (h : MS X E Γl Γ1 s t Γ') (w : wk Γ Γ1 = true) : MS X E Γl Γ s t Γ' := by
  obtain ⟨ts, p, q⟩ := h
  exact ⟨ts, p, fun B σ H τ Z ok h => q B σ H τ Z (ok.weak w) h⟩
theorem ms_ret (h : MV X E Γ e t Γ1) : MS X E Γl Γ (.Return (some e) pos) (sRet t) Γ' := by
  obtain ⟨te, p, q⟩ := h
  refine ⟨tRet te, ps_ret p, fun B σ H τ Z ok h => q B σ H τ [] _ ok ?_⟩
  unfold sRet at h
  cases ht : t τ with
  | ok d =>
    rw [ht, R.ok_bind] at h
    refine fun v H' L s r ok' => ?_
    obtain ⟨Ls, _, _, _, h4, h5, _⟩ := ok'.ex
    rw [List.append_nil] at h4 h5
    exact h v H' L ok'.ext r h4 fun a ha => (h5 a ha).1
  | err n => rw [ht] at h; exact h
  | bad => rw [ht] at h; exact h
theorem ms_if {k : Expr} {u : Tn -> R Bool} {sa sb : List Stmt} {t1 t2 : Tn -> R Fl} (hk : MT X E Γ k u) (ha : MSs X E Γl Γ sa t1 Γ') (hb : MSs X E Γl Γ sb t2 Γ') : MS X E Γl Γ (.If k sa sb pos) (sIf u t1 t2) Γ' := by
  obtain ⟨te, p, q⟩ := hk
  obtain ⟨ts1, p1, q1⟩ := ha
  obtain ⟨ts2, p2, q2⟩ := hb
  refine ⟨tIfS te ts1 ts2, ps_if p p1 p2, fun B σ H τ Z ok h => ?_⟩
  obtain ⟨O, eo, _⟩ := ok.eok
  refine q O σ H τ _ eo ?_
  unfold sIf at h
  cases ht : u τ with
  | ok x =>
    rw [ht, R.ok_bind] at h
    refine fun H1 s1 => ?_
    cases x with
    | true => rw [if_pos rfl] at h ⊢; exact q1 B σ H1 τ Z (ok.same s1) h
    | false => rw [if_neg Bool.false_ne_true] at h ⊢; exact q2 B σ H1 τ Z (ok.same s1) h
  | err n => rw [ht] at h; exact fun C H' e s => h C H' e (ok.ext.trans s)
  | bad => rw [ht] at h; exact h
theorem ms_set {i : Nat} {x : Str} {pos' : Pos} (hN : X.N.Nodup) (hi : X.N[i]? = some x) (hl : i < Γ1.length) (h : MV X E Γ e t Γ1) (hx : Loc X.env.scope x) (hs : autoParam (swapsWith e (some (.Name x pos')) pos.line X.env = pure false) L2.au3._auto_1) (hf : autoParam (X.fn x = true \/ X.env.scope.names.lookup x = some .local) L2.au0._auto_1) :
    MS X E Γl Γ (.Assign [.Name x pos'] e pos) (sSet i t) (Γ1.set i .own) := by
  obtain ⟨te, p, q⟩ := h
  refine ⟨_, ps_set hN hi hx p hs hf, fun B σ H τ Z ok h => q B σ H τ [] _ ok ?_⟩
  unfold sSet at h
  cases ht : t τ with
  | ok d =>
    rw [ht, R.ok_bind] at h
    exact fun v H' L s r ok' => h _ _ (ok'.into r hl)
  | err n => rw [ht] at h; exact h
  | bad => rw [ht] at h; exact h
theorem ms_setS {i : Nat} {x : Str} {pos' : Pos} (hN : X.N.Nodup) (hi : X.N[i]? = some x) (hl : i < Γ.length) (h : ME X E Γ e t c) (hc : c ≠ .bor) (hx : Loc X.env.scope x) (hs : autoParam (swapsWith e (some (.Name x pos')) pos.line X.env = pure false) L2.au3._auto_1) (hf : autoParam (X.fn x = true \/ X.env.scope.names.lookup x = some .local) L2.au0._auto_1) :
    MS X E Γl Γ (.Assign [.Name x pos'] e pos) (sSet i t) (Γ.set i .shr) := by
  obtain ⟨te, p, q⟩ := h
  refine ⟨_, ps_set hN hi hx p hs hf, fun B σ H τ Z ok h => ?_⟩
  obtain ⟨O, eo, hL⟩ := ok.eok
  refine q O σ H τ _ eo ?_
  unfold sSet at h
  cases ht : t τ with
  | ok d =>
    rw [ht, R.ok_bind] at h
    refine fun v H' L s r k => h _ _ ?_
    obtain ⟨Ls, h1, h2, h3, _, _, _, h7⟩ := hL L (k.shr eo.dom hc)
    exact SOk.intoS (ok.ext.trans s) ok.lσ ok.lτ (fun j c e hc => by obtain ⟨v', d', e1, e2, r'⟩ := h1 j c e hc; exact ⟨v', d', e1, e2, r'.same s⟩) h2 h3 h7 r hl
  | err n => rw [ht] at h; exact fun C H' e s => h C H' e (ok.ext.trans s)
  | bad => rw [ht] at h; exact h
end
end L2
set_option maxRecDepth 100000
set_option maxHeartbeats 4000000
namespace L2
open PySem PySem.Spec PyProof.Rows
section
variable {K : PySem.W.Frag} {Γ Γ' : List Cl} {B H H1 : Hp} {σ : St} {τ : Tn} {T : List Addr}
theorem SOk.slot {i : Nat} (h : SOk K Γ B H σ τ T) (e : Γ[i]? = some .own) : ∃ v d L, σ[i]? = some (some v) /\ τ[i]? = some (some d) /\ Rep K H d v L /\ L.Nodup /\ (∀ a ∈ L, B a = none /\ a ∉ T) /\
    ∀ (H2 : Hp) (d2 : D) (L2 Le T' : List Addr), T = Le ++ T' -> TF H H2 -> (∀ b, b ∉ L -> H b ≠ none -> H2 b = H b) -> Rep K H2 d2 v L2 -> (∀ a ∈ L2, a ∈ L \/ a ∈ Le) -> L2.Nodup -> SOk K Γ B H2 σ (τ.set i (some d2)) T' := by
  obtain ⟨Ls, h1, h2, h3, h4, h5, h6⟩ := h.ex
  obtain ⟨v, d, e1, e2, r⟩ := h1 i _ e (by simp)
  refine ⟨v, d, Ls i, e1, e2, r, (h2 i e).1, fun a ha => ⟨(h2 i e).2 a ha, h6 i _ e (by simp) a ha⟩, ?_⟩
  rintro H2 d2 L2 Le T' rfl tf kp r2 sub nd
  obtain ⟨n1, n2, n3⟩ := List.nodup_append.mp h4
  have hτ : i < τ.length := (List.getElem?_eq_some_iff.mp e2).1
  have notL : ∀ b, B b ≠ none -> b ∉ Ls i := fun b hb hm => hb ((h2 i e).2 b hm)
  refine ⟨fun b o q => ?_, h.lσ, by rw [List.length_set]; exact h.lτ, putL Ls i L2, fun j c ej hc => ?_, fun j ej => ?_, fun j k c hjk ej ek hc a ha hm => ?_, n2, fun a ha => ⟨(h5 a (List.mem_append_right _ ha)).1, ?_⟩, fun j c ej hc a ha hm => ?_⟩
  · have hq := h.ext b o q
    rw [kp b (notL b (by rw [q]; simp)) (by rw [hq]; simp)]; exact hq
  · by_cases z : j = i
    · subst z
      refine ⟨v, d2, e1, by rw [List.getElem?_set_self hτ], ?_⟩
      rw [putL_self]; exact r2
    · obtain ⟨v', d', q1, q2, r'⟩ := h1 j c ej hc
      refine ⟨v', d', q1, by rw [List.getElem?_set_ne (Ne.symm z)]; exact q2, ?_⟩
      rw [putL_ne z]
      exact Rep.keep tf d' v' _ r' fun a ha => kp a (fun hm => h3 i j c (Ne.symm z) e ej hc a hm ha) (r'.there ha)
  · by_cases z : j = i
    · subst z
      rw [putL_self]
      refine ⟨nd, fun a ha => ?_⟩
      rcases sub a ha with m | m
      · exact (h2 _ e).2 a m
      · exact (h5 a (List.mem_append_left _ m)).1
    · rw [putL_ne z]; exact h2 j ej
  · by_cases z : j = i
    · subst z
      rw [putL_self] at ha
      rw [putL_ne (Ne.symm hjk)] at hm
      rcases sub a ha with m | m
      · exact h3 _ k c hjk e ek hc a m hm
      · exact h6 k c ek hc a hm (List.mem_append_left _ m)
    · rw [putL_ne z] at ha
      by_cases z2 : k = i
      · subst z2
        rw [putL_self] at hm
        rcases sub a hm with m | m
        · exact h3 j _ _ hjk ej e (by simp) a ha m
        · exact h6 j _ ej (by simp) a ha (List.mem_append_left _ m)
      · rw [putL_ne z2] at hm; exact h3 j k c hjk ej ek hc a ha hm
  · have q := (h5 a (List.mem_append_right _ ha)).2
    rw [kp a (fun hm => h6 i _ e (by simp) a hm (List.mem_append_right _ ha)) q]; exact q
  · by_cases z : j = i
    · rw [putL_eq z] at ha
      rcases sub a ha with m | m
      · exact h6 i _ e (by simp) a m (List.mem_append_right _ hm)
      · exact n3 a m a hm rfl
    · rw [putL_ne z] at ha
      exact h6 j c ej hc a ha (List.mem_append_right _ hm)
theorem TF.upd {a : Addr} {o : HO} (h : (∃ vs, H a = some (.lst vs)) \/ ∃ kvs, H a = some (.dK kvs)) : TF H (upd H a o) := by
  refine ⟨fun b xs e => ?_, fun b p u e => ?_⟩
  · rw [upd_ne]
    · exact e
    · rintro rfl
      rcases h with ⟨_, h⟩ | ⟨_, h⟩ <;> rw [h] at e <;> cases e
  · rw [upd_ne]
    · exact e
    · rintro rfl
      rcases h with ⟨_, h⟩ | ⟨_, h⟩ <;> rw [h] at e <;> cases e
theorem Rep.upd {d : D} {v : V} {L : List Addr} {a : Addr} {o : HO} (r : Rep K H d v L) (h : (∃ vs, H a = some (.lst vs)) \/ ∃ kvs, H a = some (.dK kvs)) (n : a ∉ L) : Rep K (L2.upd H a o) d v L :=
  Rep.keep (TF.upd h) d v L r fun b hb => upd_ne fun z => n (z ▸ hb)
theorem Reps.upd {d : List D} {v : List V} {L : List Addr} {a : Addr} {o : HO} (r : Reps K H d v L) (h : (∃ vs, H a = some (.lst vs)) \/ ∃ kvs, H a = some (.dK kvs)) (n : a ∉ L) : Reps K (L2.upd H a o) d v L :=
  Reps.keep (TF.upd h) d v L r fun b hb => upd_ne fun z => n (z ▸ hb)
theorem Reps.set : ∀ {ds : List D} {vs : List V} {L : List Addr} {d : D} {v : V} {Le : List Addr} (j : Nat), Reps K H ds vs L -> Rep K H d v Le -> j < ds.length -> ∃ L2, Reps K H (ds.set j d) (vs.set j v) L2 /\ (∀ a ∈ L2, a ∈ L \/ a ∈ Le) /\ ((L ++ Le).Nodup -> L2.Nodup)
  | [], _, _, _, _, _, _, _, _, h => by simp at h
  | d :: ds, _, _, d', v', Le, 0, hq7, r, _ => by
    obtain ⟨v, vs', L1, L2, e1, e2, h1, h2⟩ := hq7
    subst e1 e2
    refine ⟨Le ++ L2, by simpa using Reps.cons r h2, fun a ha => ?_, fun n => ?_⟩
    · rcases List.mem_append.mp ha with z | z
      · exact .inr z
      · exact .inl (List.mem_append_right _ z)
    · obtain ⟨n1, n2, n3⟩ := List.nodup_append.mp n
      obtain ⟨m1, m2, m3⟩ := List.nodup_append.mp n1
      exact List.nodup_append.mpr ⟨n2, m2, fun a ha b hb z => n3 b (List.mem_append_right _ hb) a ha z.symm⟩
  | d :: ds, _, _, d', v', Le, j + 1, hq7, r, hj => by
    obtain ⟨v, vs', L1, L2, e1, e2, h1, h2⟩ := hq7
    subst e1 e2
    obtain ⟨L3, a1, a2, a3⟩ := Reps.set j h2 r (by simpa using hj)
    refine ⟨L1 ++ L3, by simpa using Reps.cons h1 a1, fun a ha => ?_, fun n => ?_⟩
    · rcases List.mem_append.mp ha with z | z
      · exact .inl (List.mem_append_left _ z)
      · rcases a2 a z with m | m
        · exact .inl (List.mem_append_right _ m)
        · exact .inr m
    · rw [List.append_assoc] at n
      obtain ⟨n1, n2, n3⟩ := List.nodup_append.mp n
      refine List.nodup_append.mpr ⟨n1, a3 n2, fun a ha b hb z => ?_⟩
      rcases a2 b hb with m | m
      · exact n3 a ha b (List.mem_append_left _ m) z
      · exact n3 a ha b (List.mem_append_right _ m) z
end
section
variable {X : Cx} {E : XK} {Γ Γ1 Γ' Γl : List Cl} {e a b : Expr} {es : List Expr} {t t' : Tn -> R D} {u : Tn -> R (List D)} {c : Rc} {pos : Pos}
noncomputable def sApp (i : Nat) (t : Tn -> R D) : Tn -> R Fl := fun τ => (eVar i τ).bind fun l => match l with
  | .lst ds => (t τ).bind fun d => if ds.length < sizeLine then .ok (.nx (τ.set i (some (.lst (ds ++ [d]))))) else .bad
  | _ => .bad
theorem ms_append {i : Nat} {x : Str} {p0 p1 p2 : Pos} (hN : X.N[i]? = some x) (h0 : Γ[i]? = some .own) (h : MV X E Γ e t Γ1) (hk : Γ1[i]? = some .own) (hv : Vis X.env.scope x) (hb : autoParam ((x == ("__debug__" : Str)) = false) L2.au1._auto_1) (hcd : autoParam ((x == ("__classdict__" : Str)) = false) L2.au1._auto_1)
    (hbase : autoParam (attributeBase (.Name x p0) "append" X.env (eval (.Name x p0) X.env) = eval (.Name x p0) X.env) L2.au3._auto_1)
    (hfew : autoParam (((backTo p2 (starEach [e] X.env)).all (fun x => !x.1) && (backToKw p2 (keywordEach [] X.env)).all (fun x => x.1.isSome) && decide ([e].length + ([] : List Keyword).length + (if ([] : List Keyword).isEmpty then 0 else 1) < 30)) = true) L2.au3._auto_1)
    (hline : autoParam ((p1.endLine == p2.line) = true) L2.au3._auto_1) (hs : autoParam (starEach [e] X.env = (false, eval e X.env) :: starEach [] X.env) L2.au3._auto_1) (hplain : autoParam ((backTo p2 (starEach [] X.env)).any (·.1) = false) L2.au3._auto_1)
    (hsw : autoParam (swapsWith (.Call (.Attribute (.Name x p0) "append" p1) [e] [] p2) none pos.line X.env = pure false) L2.au3._auto_1) :
    MS X E Γl Γ (.Expr (.Call (.Attribute (.Name x p0) "append" p1) [e] [] p2) pos) (sApp i t) Γ1 := by
  obtain ⟨te, p, q⟩ := h
  refine ⟨_, ps_expr (pe_bm PySem.F.plainAttrs_list PySem.F.slot_list_append PySem.F.type_list_append mt_append (pe_var (pos := p0) hN hv hb hcd) (pa_cons p pa_nil hs) hbase hfew hline hs hplain) hsw, fun B σ H τ Z ok h => ?_⟩
  obtain ⟨v, d, L, e1, e2, r, _⟩ := ok.slot h0
  refine ⟨v, e1, ?_⟩
  unfold sApp at h
  have ev : eVar i τ = .ok d := by unfold eVar; rw [e2]
  rw [ev, R.ok_bind] at h
  cases d with
  | lst ds =>
    obtain ⟨a, vs, L', rfl, ha, _, rs⟩ := r
    refine ⟨.inl ⟨rfl, vs, SqL.of ha⟩, q B σ H τ [] _ ok ?_⟩
    dsimp only at h
    cases ht : t τ with
    | ok d' =>
      rw [ht, R.ok_bind] at h
      refine fun y H1 Le s1 ry ok1 => ?_
      obtain ⟨v1, d1, L1, q1, q2, r1, n1, n2, fin⟩ := ok1.slot hk
      rw [e1] at q1
      cases q1
      rw [e2] at q2
      cases q2
      obtain ⟨a1, vs1, L1', z1, ha1, z2, rs1⟩ := r1
      cases z1
      subst z2
      have hl : vs1.length = ds.length := rs1.length
      by_cases hz : ds.length < sizeLine
      · rw [if_pos hz] at h
        have mu : (∃ vs, H1 a = some (.lst vs)) \/ ∃ kvs, H1 a = some (.dK kvs) := .inl ⟨_, ha1⟩
        have na : a ∉ Le := fun m => (n2 a List.mem_cons_self).2 (List.mem_append_left _ m)
        obtain ⟨m1, m2⟩ := List.nodup_cons.mp n1
        refine ⟨a, vs1, y, rfl, rfl, ha1, by lia, h _ _ (fin _ _ (a :: (L1' ++ Le)) Le [] rfl (TF.upd mu) (fun b hb _ => upd_ne fun z => hb (z ▸ List.mem_cons_self)) ?_ (fun b hb => ?_) ?_)⟩
        · refine ⟨a, vs1 ++ [y], L1' ++ Le, rfl, upd_same, rfl, Reps.append (rs1.upd mu m1) ?_⟩
          have := Reps.cons (ry.upd (o := .lst (vs1 ++ [y])) mu na) (Reps.nil (K := X.K) (H := upd H1 a (.lst (vs1 ++ [y]))))
          rw [List.append_nil] at this
          exact this
        · rcases List.mem_cons.mp hb with z | z
          · exact .inl (z ▸ List.mem_cons_self)
          · rcases List.mem_append.mp z with z | z
            · exact .inl (List.mem_cons_of_mem _ z)
            · exact .inr z
        · refine List.nodup_cons.mpr ⟨fun z => ?_, List.nodup_append.mpr ⟨m2, ?_, fun b hb b' hb' z => ?_⟩⟩
          · rcases List.mem_append.mp z with z | z
            · exact m1 z
            · exact na z
          · obtain ⟨_, _, _, _, w4, _⟩ := ok1.ex
            rw [List.append_nil] at w4
            exact w4
          · subst z
            exact (n2 b (List.mem_cons_of_mem _ hb)).2 (List.mem_append_left _ hb')
      · rw [if_neg hz] at h; exact h.elim
    | err n => rw [ht] at h; exact h
    | bad => rw [ht] at h; exact h
  | _ => exact h.elim
noncomputable def setD (ds : List D) (k : Int) (d : D) : R D := match ixN ds.length k with
  | some j => .ok (.lst (ds.set j d))
  | none => .bad
noncomputable def sPut (i : Nat) (t ti : Tn -> R D) : Tn -> R Fl := fun τ => (t τ).bind fun d => (eVar i τ).bind fun l => (ti τ).bind fun k => match l, k with
  | .lst ds, .int k => (setD ds k d).bind fun l' => .ok (.nx (τ.set i (some l')))
  | _, _ => .bad
theorem ms_put {i : Nat} {x : Str} {p0 p1 : Pos} {ix : Expr} {ti : Tn -> R D} (hN : X.N[i]? = some x) (h : MV X E Γ e t Γ1) (hi : ME X E Γ1 ix ti c) (hk : Γ1[i]? = some .own) (hv : Vis X.env.scope x) (hb : autoParam ((x == ("__debug__" : Str)) = false) L2.au1._auto_1) (hcd : autoParam ((x == ("__classdict__" : Str)) = false) L2.au1._auto_1)
    (ha : autoParam (∀ v, assign (.Subscript (.Name x p0) ix p1) X.env v = (do
      let ov <- holding [v] (eval (.Name x p0) X.env)
      let iv <- holding [v, ov] (eval ix X.env)
      standAt p1
      holding [v, ov, iv] (setItem ov iv v)
      release [v, ov, iv] [])) L2.au2._auto_1)
    (hs : autoParam (swapsWithSole [.Subscript (.Name x p0) ix p1] e pos.line X.env = pure false) L2.au3._auto_1) (hw : autoParam (swappedStores [.Subscript (.Name x p0) ix p1] e X.env = pure none) L2.au3._auto_1)
    (h1 : autoParam ((assignEach [.Subscript (.Name x p0) ix p1] X.env).map (·.2) = [assign (.Subscript (.Name x p0) ix p1) X.env]) L2.au3._auto_1) :
    MS X E Γl Γ (.Assign [.Subscript (.Name x p0) ix p1] e pos) (sPut i t ti) Γ1 := by
  obtain ⟨te, p, q⟩ := h
  obtain ⟨te', p', q'⟩ := hi
  refine ⟨_, ps_asg p (pg_sub (pe_var (pos := p0) hN hv hb hcd) p' set_list ha) hs hw h1, fun B σ H τ Z ok h => q B σ H τ [] _ ok ?_⟩
  unfold sPut at h
  cases ht : t τ with
  | ok d' =>
    rw [ht, R.ok_bind] at h
    refine fun y H1 Le s1 ry ok1 => ?_
    obtain ⟨v1, d1, L1, q1, q2, r1, n1, n2, _⟩ := ok1.slot hk
    refine ⟨v1, q1, ?_⟩
    have ev : eVar i τ = .ok d1 := by unfold eVar; rw [q2]
    rw [ev, R.ok_bind] at h
    obtain ⟨O, eo, _⟩ := ok1.eok
    refine q' O σ H1 τ _ eo ?_
    cases hk' : ti τ with
    | ok dk =>
      rw [hk', R.ok_bind] at h
      refine fun kv H2 Lk s2 rk _ => ?_
      have ok2 := ok1.same s2
      obtain ⟨v2, d2, L2, q3, q4, r2, m1, m2, fin⟩ := ok2.slot hk
      rw [q1] at q3
      cases q3
      rw [q2] at q4
      cases q4
      cases d1 with
      | lst ds =>
        cases dk with
        | int k =>
          obtain ⟨a, vs, L', rfl, ha2, z2, rs⟩ := r2
          subst z2
          dsimp only at h
          unfold setD at h
          cases hj : ixN ds.length k with
          | none => rw [hj] at h; exact h.elim
          | some j =>
            rw [hj] at h
            have hjl : j < ds.length := (ixN_seq hj).2.1
            have mu : (∃ vs, H2 a = some (.lst vs)) \/ ∃ kvs, H2 a = some (.dK kvs) := .inl ⟨_, ha2⟩
            have na : a ∉ Le := fun m => (m2 a List.mem_cons_self).2 (List.mem_append_left _ m)
            obtain ⟨w1, w2⟩ := List.nodup_cons.mp m1
            have nLe : Le.Nodup := by
              obtain ⟨_, _, _, _, w4, _⟩ := ok1.ex
              rw [List.append_nil] at w4
              exact w4
            have r3 := (ry.same s2).upd (o := .lst (vs.set j y)) mu na
            obtain ⟨L3, a1, a2, a3⟩ := Reps.set j (rs.upd (o := .lst (vs.set j y)) mu w1) r3 hjl
            refine ⟨a, vs, k, j, rfl, rk.1, ha2, by rw [rs.length]; exact hj, h _ _ (fin _ _ (a :: L3) Le [] rfl (TF.upd mu) (fun b hb _ => upd_ne fun z => hb (z ▸ List.mem_cons_self)) ⟨a, _, L3, rfl, upd_same, rfl, a1⟩ (fun b hb => ?_) ?_)⟩
            · rcases List.mem_cons.mp hb with z | z
              · exact .inl (z ▸ List.mem_cons_self)
              · rcases a2 b z with z | z
                · exact .inl (List.mem_cons_of_mem _ z)
                · exact .inr z
            · refine List.nodup_cons.mpr ⟨fun z => ?_, a3 (List.nodup_append.mpr ⟨w2, nLe, fun b hb b' hb' z => ?_⟩)⟩
              · rcases a2 a z with z | z
                · exact w1 z
                · exact na z
              · subst z
                exact (m2 b (List.mem_cons_of_mem _ hb)).2 (List.mem_append_left _ hb')
        | _ => exact h.elim
      | _ => exact h.elim
    | err n => rw [hk'] at h; exact fun C H' e s => h C H' e (ok1.ext.trans s)
    | bad => rw [hk'] at h; exact h
  | err n => rw [ht] at h; exact h
  | bad => rw [ht] at h; exact h
end
end L2
set_option maxRecDepth 100000
set_option maxHeartbeats 4000000
namespace L2
open PySem PySem.Spec PyProof.Rows
section
variable {K : PySem.W.Frag} {Γ Γ' : List Cl} {B B' H H1 : Hp} {σ : St} {τ : Tn} {T : List Addr}
theorem SOk.rebase (h : SOk K Γ B' H σ τ T) (s : Same B B') : SOk K Γ B H σ τ T := by
  obtain ⟨Ls, h1, h2, h3, h4, h5, h6⟩ := h.ex
  exact ⟨s.trans h.ext, h.lσ, h.lτ, Ls, h1, fun i e => ⟨(h2 i e).1, fun a ha => s.non ((h2 i e).2 a ha)⟩, h3, h4, fun a ha => ⟨s.non (h5 a ha).1, (h5 a ha).2⟩, h6⟩
open Classical in
theorem SOk.base (h : SOk K Γ B H σ τ []) : ∃ O : Addr -> Prop, EOk K Γ O H σ τ /\ (∀ a, O a -> (∃ vs, H a = some (.lst vs)) \/ ∃ kvs, H a = some (.dK kvs)) /\
    ∀ H1, Same H H1 -> ∃ B1, Same B B1 /\ SOk K Γ B1 H1 σ τ [] /\ ∀ a, ¬ O a -> B1 a = H1 a := by
  obtain ⟨Ls, h1, h2, h3, h4, h5, h6⟩ := h.ex
  refine ⟨fun a => ∃ i, Γ[i]? = some .own /\ a ∈ Ls i, ⟨fun a ⟨i, e, ha⟩ => ?_, fun i c e hc => ?_⟩, fun a ⟨i, e, ha⟩ => ?_, fun H1 s1 => ⟨fun a => if (∃ i, Γ[i]? = some .own /\ a ∈ Ls i) then none else H1 a, fun b o q => ?_, ⟨fun b o q => ?_, h.lσ, h.lτ, Ls, fun i c e hc => ?_, fun i e => ⟨(h2 i e).1, fun a ha => if_pos ⟨i, e, ha⟩⟩, h3, h4, fun a ha => (nomatch ha), h6⟩, fun a n => if_neg n⟩⟩
  · obtain ⟨v, d, _, _, r⟩ := h1 i _ e (by simp)
    exact r.there ha
  · obtain ⟨v, d, e1, e2, r⟩ := h1 i c e hc
    refine ⟨v, d, Ls i, e1, e2, r, fun z a ha ⟨j, ej, hj⟩ => ?_⟩
    subst z
    have hij : j ≠ i := fun z => by subst z; rw [e] at ej; cases ej
    exact h3 j i _ hij ej e (by simp) a hj ha
  · obtain ⟨v, d, _, _, r⟩ := h1 i _ e (by simp)
    exact Rep.dom d v _ r a ha
  · show (if (∃ i, Γ[i]? = some .own /\ b ∈ Ls i) then none else H1 b) = some o
    rw [if_neg]
    · exact s1 b o (h.ext b o q)
    · rintro ⟨i, e, hb⟩
      rw [(h2 i e).2 b hb] at q; cases q
  · have q : (if (∃ i, Γ[i]? = some .own /\ b ∈ Ls i) then none else H1 b) = some o := q
    by_cases z : ∃ i, Γ[i]? = some .own /\ b ∈ Ls i
    · rw [if_pos z] at q; cases q
    · rw [if_neg z] at q; exact q
  · obtain ⟨v, d, e1, e2, r⟩ := h1 i c e hc
    exact ⟨v, d, e1, e2, r.same s1⟩
theorem SOk.shrIn {i : Nat} {d : D} {v : V} {L : List Addr} (h : SOk K Γ B H σ τ []) (r : Rep K H d v L) (hL : ∀ a ∈ L, B a ≠ none) (hi : i < Γ.length) : SOk K (Γ.set i .shr) B H (σ.set i (some v)) (τ.set i (some d)) [] := by
  obtain ⟨Ls, h1, h2, h3, h4, h5, h6⟩ := h.ex
  exact SOk.intoS h.ext h.lσ h.lτ h1 h2 h3 (fun j e a ha hm => hL a hm ((h2 j e).2 a ha)) r hi
end
noncomputable def setAll {α : Type} : List (Option α) -> List Nat -> List α -> List (Option α)
  | σ, i :: is, v :: vs => setAll (σ.set i (some v)) is vs
  | σ, _, _ => σ
noncomputable def shrAll : List Cl -> List Nat -> List Cl
  | Γ, [] => Γ
  | Γ, i :: is => shrAll (Γ.set i .shr) is
theorem SOk.shrAll {K : PySem.W.Frag} {B H : Hp} {Γ : List Cl} {σ : St} {τ : Tn} {is : List Nat} {ds : List D} {vs : List V} {L : List Addr} (h : SOk K Γ B H σ τ []) (r : Reps K H ds vs L) (hL : ∀ a ∈ L, B a ≠ none) (hl : ds.length = is.length) (hi : ∀ i ∈ is, i < Γ.length) :
    SOk K (L2.shrAll Γ is) B H (setAll σ is vs) (setAll τ is ds) [] := by
  induction is generalizing Γ σ τ ds vs L with
  | nil =>
    cases ds with
    | nil => cases r.1; exact h
    | cons => cases hl
  | cons i is ih =>
    cases ds with
    | nil => cases hl
    | cons d ds =>
      obtain ⟨v, vs', La, Lb, e1, e2, r1, r2⟩ := r
      subst e1 e2
      exact ih (h.shrIn r1 (fun a ha => hL a (List.mem_append_left _ ha)) (hi i List.mem_cons_self)) r2 (fun a ha => hL a (List.mem_append_right _ ha)) (Nat.succ.inj hl) (fun j hj => by rw [List.length_set]; exact hi j (List.mem_cons_of_mem _ hj))
noncomputable def ItOk (K : PySem.W.Frag) (J : It) (ds : List D) (L : List Addr) (H : Hp) : Prop := (∀ a ∈ L, H a ≠ none) /\ ∀ H', TF H H' -> (∀ a ∈ L, H' a = H a) -> ∀ i,
  (∀ d, ds[i]? = some d -> J.go i H' /\ ∀ x H'', J.yld i H' x H'' -> Same H' H'' /\ ∃ L', Rep K H'' d x L' /\ ∀ a ∈ L', a ∈ L) /\ (ds.length <= i -> J.stop i H')
noncomputable def postI (K : PySem.W.Frag) (E : XK) (O : Addr -> Prop) (c : Rc) (H : Hp) (Rr : It -> Hp -> Prop) : R (List D) -> Prop
  | .ok ds => ∀ J H' L, Same H H' -> ItOk K J ds L H' -> (c ≠ .bor -> ∀ a ∈ L, ¬ O a) -> Rr J H'
  | .err n => ∀ C H', ErrC K n C -> Same H H' -> E (.ref C) none H'
  | .bad => False
noncomputable def MI (X : Cx) (E : XK) (Γ : List Cl) (tg iter : Expr) (t : Tn -> R (List D)) (c : Rc) : Prop :=
  ∃ wi, PI X tg iter wi /\ ∀ O σ H τ Rr, EOk X.K Γ O H σ τ -> postI X.K E O c H Rr (t τ) -> wi σ H Rr
inductive Tgt where
  | one (i : Nat) | many (is : List Nat)
noncomputable def Tgt.slots : Tgt -> List Nat
  | .one i => [i]
  | .many is => is
noncomputable def Tgt.asg : Tgt -> D -> Tn -> R Tn
  | .one i, d, τ => .ok (τ.set i (some d))
  | .many is, .tup ds, τ => if ds.length = is.length then .ok (setAll τ is ds) else .bad
  | .many _, _, _ => .bad
noncomputable def MG (X : Cx) (tg : Expr) : Tgt -> Prop
  | .one i => PG X tg (gName i)
  | .many is => ∃ g, PG X tg (gTup X.K is.length g) /\ ∀ (vs : List V) (σ : St) (H : Hp) (Q : St -> Hp -> Prop), vs.length = is.length -> Q (setAll σ is vs) H -> g vs σ H Q
noncomputable def forGo (asg : D -> Tn -> R Tn) (body : Tn -> R Fl) : List D -> Tn -> R Fl
  | [], τ => .ok (.nx τ)
  | d :: ds, τ => (asg d τ).bind fun τ1 => (body τ1).bind fun f => match f with
    | .nx τ2 => forGo asg body ds τ2
    | .ct τ2 => forGo asg body ds τ2
    | .bk τ2 => .ok (.nx τ2)
    | .rt r => .ok (.rt r)
noncomputable def sFor (it : Tn -> R (List D)) (tg : Tgt) (body : Tn -> R Fl) : Tn -> R Fl := fun τ => (it τ).bind fun ds => forGo tg.asg body ds τ
section
variable {X : Cx} {E : XK} {Γ Γ1 Γ2 Γ' Γl : List Cl} {pos : Pos}
noncomputable def tgG (K : PySem.W.Frag) (g : Tgt) : TG := fun v σ H Q => match g with
  | .one i => Q (σ.set i (some v)) H
  | .many is => ∃ a vs, v = .ref a /\ SqT K H a vs /\ vs.length = is.length /\ Q (setAll σ is vs) H
theorem MG.pg {tg : Expr} {g : Tgt} (h : MG X tg g) : PG X tg (tgG X.K g) := by
  cases g with
  | one i => exact h
  | many is =>
    obtain ⟨G, p, q⟩ := h
    rintro pins s σ H v u Q I r ⟨a, vs, e, hs, hl, z⟩
    exact p pins s σ H v u Q I r ⟨a, vs, e, hs, hl, q vs σ H Q hl z⟩
theorem tgG_in {K : PySem.W.Frag} {B H : Hp} {σ : St} {τ τ1 : Tn} {d : D} {v : V} {L : List Addr} {g : Tgt} (h : SOk K Γ B H σ τ []) (r : Rep K H d v L) (hL : ∀ a ∈ L, B a ≠ none) (hi : ∀ i ∈ g.slots, i < Γ.length) (ha : g.asg d τ = .ok τ1)
    {Q : St -> Hp -> Prop} (k : ∀ σ1, SOk K (L2.shrAll Γ g.slots) B H σ1 τ1 [] -> Q σ1 H) : tgG K g v σ H Q := by
  cases g with
  | one i => cases ha; exact k _ (h.shrIn r hL (hi i (by simp [Tgt.slots])))
  | many is =>
    cases d with
    | tup ds =>
      unfold Tgt.asg at ha
      dsimp only at ha
      by_cases hl : ds.length = is.length
      · rw [if_pos hl] at ha
        cases ha
        obtain ⟨a, vs, rfl, hs, rs⟩ := r
        have hv : vs.length = is.length := rs.length.trans hl
        exact ⟨a, vs, rfl, hs, hv, k _ (h.shrAll rs hL hl hi)⟩
      · rw [if_neg hl] at ha; cases ha
    | _ => cases ha
theorem for_q {it : Tn -> R (List D)} {g : Tgt} {tb : Tn -> R Fl} {c : Rc} {wi : TI} {ts : TS} (hcl : c ≠ .bor) (hn : ∀ i ∈ g.slots, i < Γ.length) (hw : wk Γ2 Γ = true) (q : ∀ O σ H τ Rr, EOk X.K Γ O H σ τ -> postI X.K E O c H Rr (it τ) -> wi σ H Rr) (q' : ∀ B σ H τ Z, SOk X.K (shrAll Γ g.slots) B H σ τ [] -> postS X.K E B Γ Γ2 Z (tb τ) -> ts Z σ H)
    (B : Hp) (σ : St) (H : Hp) (τ : Tn) (Z : Ends) (ok : SOk X.K Γ B H σ τ []) (h : postS X.K E B Γl Γ Z (sFor it g tb τ)) : tFor wi (tgG X.K g) ts Z σ H := by
  obtain ⟨O, eo, Od, hB⟩ := ok.base
  refine q O σ H τ _ eo ?_
  unfold sFor at h
  cases ht : it τ with
  | ok ds =>
    rw [ht, R.ok_bind] at h
    refine fun J H1 L s1 hit hO => ?_
    have hO := hO hcl
    obtain ⟨hLd, hit⟩ := hit
    obtain ⟨B1, sB, ok1, hB1⟩ := hB H1 s1
    have inL : ∀ a ∈ L, B1 a = H1 a := fun a ha => hB1 a (hO a ha)
    have Od1 : ∀ a, O a -> (∃ vs, H1 a = some (.lst vs)) \/ ∃ kvs, H1 a = some (.dK kvs) := fun a o => by
      rcases Od a o with ⟨vs, e⟩ | ⟨kvs, e⟩
      · exact .inl ⟨vs, s1 _ _ e⟩
      · exact .inr ⟨kvs, s1 _ _ e⟩
    have stay : ∀ H2, Same B1 H2 -> TF H1 H2 /\ ∀ a ∈ L, H2 a = H1 a := fun H2 s2 => by
      refine ⟨⟨fun a xs e => ?_, fun a o u e => ?_⟩, fun a ha => ?_⟩
      · refine s2 a _ ((hB1 a fun z => ?_).trans e)
        rcases Od1 a z with ⟨_, w⟩ | ⟨_, w⟩ <;> rw [e] at w <;> cases w
      · refine s2 a _ ((hB1 a fun z => ?_).trans e)
        rcases Od1 a z with ⟨_, w⟩ | ⟨_, w⟩ <;> rw [e] at w <;> cases w
      · rw [s2.at (by rw [inL a ha]; exact hLd a ha), inL a ha]
    refine ⟨fun i m σ2 H2 => m = ds.length - i /\ i <= ds.length /\ ∃ τ2, SOk X.K Γ B1 H2 σ2 τ2 [] /\ postS X.K E B Γl Γ Z (forGo g.asg tb (ds.drop i) τ2), ⟨ds.length, by simp, Nat.zero_le _, τ, ok1, h⟩, ?_⟩
    rintro i m σ2 H2 ⟨rfl, hile, τ2, ok2, h2⟩
    obtain ⟨tf, kp⟩ := stay H2 ok2.ext
    obtain ⟨go, stop⟩ := hit H2 tf kp i
    by_cases hlt : i < ds.length
    · obtain ⟨hgo, hy⟩ := go ds[i] (by simp [hlt])
      rw [List.drop_eq_getElem_cons hlt] at h2
      refine .inr ⟨hgo, fun σ' H' => i + 1 <= ds.length /\ ∃ τ', SOk X.K Γ B1 H' σ' τ' [] /\ postS X.K E B Γl Γ Z (forGo g.asg tb (ds.drop (i + 1)) τ'), fun σ' H' ⟨z, w⟩ => ⟨ds.length - (i + 1), by omega, rfl, z, w⟩, fun x H3 y => ?_⟩
      obtain ⟨s3, L', r', sub⟩ := hy x H3 y
      unfold forGo at h2
      cases ha : g.asg ds[i] τ2 with
      | ok τ3 =>
        rw [ha, R.ok_bind] at h2
        refine tgG_in (ok2.same s3) r' (fun a ha => by rw [inL a (sub a ha)]; exact hLd a (sub a ha)) hn ha fun σ3 ok3 => ?_
        refine q' B1 σ3 H3 τ3 _ ok3 ?_
        cases hb : tb τ3 with
        | ok f =>
          rw [hb, R.ok_bind] at h2
          cases f with
          | nx τ4 => exact fun σ' H' ok4 => ⟨hlt, τ4, ok4.weak hw, h2⟩
          | ct τ4 => exact fun σ' H' ok4 => ⟨hlt, τ4, ok4, h2⟩
          | bk τ4 => exact fun σ' H' ok4 => h2 σ' H' (ok4.rebase sB)
          | rt d => exact fun v H' L s r n1 n2 => h2 v H' L (sB.trans s) r n1 fun a ha => sB.non (n2 a ha)
        | err n => rw [hb] at h2; exact fun C H' e s => h2 C H' e (sB.trans s)
        | bad => rw [hb] at h2; exact h2
      | err n =>
        cases g with
        | one i => cases ha
        | many is =>
          unfold Tgt.asg at ha
          split at ha
          · cases ha
          · split at ha <;> cases ha
          · cases ha
      | bad => rw [ha] at h2; exact h2.elim
    · have e : i = ds.length := by omega
      subst e
      rw [List.drop_length] at h2
      exact .inl ⟨stop (Nat.le_refl _), h2 σ2 H2 (ok2.rebase sB)⟩
  | err n => rw [ht] at h; exact fun C H' e s => h C H' e (ok.ext.trans s)
  | bad => rw [ht] at h; exact h
theorem ms_for {tg iter : Expr} {body : List Stmt} {it : Tn -> R (List D)} {g : Tgt} {tb : Tn -> R Fl} {c : Rc} (hp : PassesOwn (model X.prog X.w) X.A X.env X.xe) (hc : X.calm = true) (hi : MI X E Γ tg iter it c) (hcl : c ≠ .bor) (hg : MG X tg g)
    (hn : ∀ i ∈ g.slots, i < Γ.length) (hb : MSs X E Γ (shrAll Γ g.slots) body tb Γ2) (hw : wk Γ2 Γ = true) (hs : autoParam (∀ x, foldedSetIterable iter X.env x = pure x) L2.au2._auto_1) : MS X E Γl Γ (.For tg iter body [] pos) (sFor it g tb) Γ := by
  obtain ⟨wi, p, q⟩ := hi
  obtain ⟨ts, p', q'⟩ := hb
  exact ⟨_, ps_for hp hc p hg.pg p' hs, for_q hcl hn hw q q'⟩
open Classical in
end
end L2
set_option maxRecDepth 100000
set_option maxHeartbeats 4000000
namespace L2
open PySem PySem.Spec PyProof.Rows
noncomputable def signs (x : Str) : List D := x.cps.toList.map fun c => .str ⟨#[c]⟩
noncomputable def asSeq : D -> R (List D)
  | .lst ds => .ok ds
  | .tup ds => .ok ds
  | .str x => .ok (signs x)
  | _ => .bad
noncomputable def iSeq (t : Tn -> R D) : Tn -> R (List D) := fun τ => (t τ).bind asSeq
noncomputable def rng (lo : Int) (n : Nat) : List D := (List.range n).map fun (i : Nat) => .int (lo + i)
noncomputable def rng1 : List D -> R (List D)
  | [.int j] => if -(2 ^ 62) <= j /\ j < 2 ^ 62 then .ok (rng 0 j.toNat) else .bad
  | _ => .bad
noncomputable def rng2 : List D -> R (List D)
  | [.int i, .int j] => if -(2 ^ 62) <= i /\ i < 2 ^ 62 /\ -(2 ^ 62) <= j /\ j < 2 ^ 62 then .ok (rng i (j - i).toNat) else .bad
  | _ => .bad
noncomputable def iL (g : List D -> R (List D)) (u : Tn -> R (List D)) : Tn -> R (List D) := fun τ => (u τ).bind g
section
variable {X : Cx} {E : XK} {Γ : List Cl} {tg e : Expr} {t : Tn -> R D} {u : Tn -> R (List D)} {c : Rc} {p pos : Pos}
theorem ItOk.list {K : PySem.W.Frag} {H : Hp} {a : Addr} {vs : List V} {ds : List D} {L L' : List Addr} (ha : H a = some (.lst vs)) (e : L = a :: L') (r : Reps K H ds vs L') : ItOk K (Itl K a) ds L H := by
  subst e
  refine ⟨fun b hb => ?_, fun H' tf kp i => ⟨fun d hd => ?_, fun hl => ?_⟩⟩
  · rcases List.mem_cons.mp hb with z | z
    · rw [z, ha]; simp
    · exact r.there z
  · have ha' : H' a = some (.lst vs) := (kp a List.mem_cons_self).trans ha
    obtain ⟨v, L1, e1, r1, sub⟩ := r.get hd
    refine ⟨⟨vs, v, SqL.of ha', e1⟩, fun x H'' ⟨e2, hy⟩ => ?_⟩
    subst e2
    have := hy vs (SqL.of ha')
    rw [e1] at this
    cases this
    exact ⟨Same.refl _, L1, Rep.keep tf d _ L1 r1 fun b hb => kp b (List.mem_cons_of_mem _ (sub.subset hb)), fun b hb => List.mem_cons_of_mem _ (sub.subset hb)⟩
  · have ha' : H' a = some (.lst vs) := (kp a List.mem_cons_self).trans ha
    exact ⟨vs, SqL.of ha', by rw [r.length]; exact hl⟩
theorem ItOk.tuple {K : PySem.W.Frag} {H : Hp} {a : Addr} {vs : List V} {ds : List D} {L : List Addr} (ha : SqT K H a vs) (hun : ∀ H' xs, TF H H' -> SqT K H' a xs -> xs = vs) (r : Reps K H ds vs L) : ItOk K (Itt K a) ds L H := by
  refine ⟨fun b hb => r.there hb, fun H' tf kp i => ⟨fun d hd => ?_, fun hl => ?_⟩⟩
  · have ha' := ha.tf tf
    obtain ⟨v, L1, e1, r1, sub⟩ := r.get hd
    refine ⟨⟨vs, v, ha', e1⟩, fun x H'' ⟨e2, hy⟩ => ?_⟩
    subst e2
    have := hy vs ha'
    rw [e1] at this
    cases this
    exact ⟨Same.refl _, L1, Rep.keep tf d _ L1 r1 fun b hb => kp b (sub.subset hb), fun b hb => sub.subset hb⟩
  · exact ⟨vs, ha.tf tf, by rw [r.length]; exact hl⟩
theorem ItOk.tup {K : PySem.W.Frag} {H : Hp} {a : Addr} {vs : List V} {ds : List D} {L : List Addr} (ha : SqT K H a vs) (r : Reps K H ds vs L) : ItOk K (Itt K a) ds L H := by
  refine ⟨fun b hb => r.there hb, fun H' tf kp i => ⟨fun d hd => ?_, fun hl => ?_⟩⟩
  · have ha' := ha.tf tf
    obtain ⟨v, L1, e1, r1, sub⟩ := r.get hd
    refine ⟨⟨vs, v, ha', e1⟩, fun x H'' ⟨e2, hy⟩ => ?_⟩
    subst e2
    have := hy vs ha'
    rw [e1] at this
    cases this
    exact ⟨Same.refl _, L1, Rep.keep tf d _ L1 r1 fun b hb => kp b (sub.subset hb), fun b hb => sub.subset hb⟩
  · exact ⟨vs, ha.tf tf, by rw [r.length]; exact hl⟩
theorem ItOk.str {K : PySem.W.Frag} {H : Hp} {x : Str} : ItOk K (Its x) (signs x) [] H := by
  refine ⟨fun b hb => (nomatch hb), fun H' tf kp i => ⟨fun d hd => ?_, fun hl => ?_⟩⟩
  · unfold signs at hd
    rw [List.getElem?_map] at hd
    cases hq : x.cps.toList[i]? with
    | none => rw [hq] at hd; cases hd
    | some k =>
      rw [hq] at hd
      have hd : D.str ⟨#[k]⟩ = d := Option.some.inj hd
      subst hd
      have hi : i < x.cps.size := by
        have := (List.getElem?_eq_some_iff.mp hq).1
        simpa using this
      refine ⟨hi, fun y H'' ⟨e2, c', e3, e4⟩ => ?_⟩
      subst e2 e4
      rw [<- Array.getElem?_toList, hq] at e3
      cases e3
      exact ⟨Same.refl _, [], ⟨rfl, rfl⟩, fun b hb => (nomatch hb)⟩
  · have : (signs x).length = x.cps.size := by simp [signs]
    show x.cps.size <= i
    lia
theorem ItOk.rng {K : PySem.W.Frag} {H : Hp} {lo : Int} {n : Nat} : ItOk K (Itr lo n) (L2.rng lo n) [] H := by
  refine ⟨fun b hb => (nomatch hb), fun H' tf kp i => ⟨fun d hd => ?_, fun hl => ?_⟩⟩
  · unfold L2.rng at hd
    rw [List.getElem?_map] at hd
    by_cases hi : i < n
    · rw [List.getElem?_range hi] at hd
      have hd : D.int (lo + (i : Int)) = d := Option.some.inj hd
      subst hd
      refine ⟨hi, fun y H'' ⟨e2, e3⟩ => ?_⟩
      subst e2 e3
      exact ⟨Same.refl _, [], ⟨rfl, rfl⟩, fun b hb => (nomatch hb)⟩
    · rw [List.getElem?_eq_none (by simp; lia)] at hd; cases hd
  · have : (L2.rng lo n).length = n := by simp [L2.rng]
    show n <= i
    lia
theorem mi_seq (h : ME X E Γ e t c) : MI X E Γ tg e (iSeq t) c := by
  obtain ⟨te, p, q⟩ := h
  refine ⟨fun σ H Rr => iList X.K te σ H Rr \/ iTup X.K te σ H Rr \/ iStr te σ H Rr, fun pins s σ H Rr I z => ?_, fun O σ H τ Rr ok h => ?_⟩
  · rcases z with z | z | z
    · exact pi_list p pins s σ H Rr I z
    · exact pi_tup p pins s σ H Rr I z
    · exact pi_str p pins s σ H Rr I z
  · unfold iSeq at h
    cases ht : t τ with
    | ok d =>
      rw [ht, R.ok_bind] at h
      cases d with
      | lst ds =>
        refine .inl (q O σ H τ _ ok ?_)
        rw [ht]
        refine fun v H1 L s r k => ?_
        obtain ⟨a, vs, L', rfl, ha, e, rs⟩ := r
        exact ⟨a, rfl, ⟨vs, SqL.of ha⟩, h _ H1 L s (ItOk.list ha e rs) fun n => k.shr ok.dom n⟩
      | tup ds =>
        refine .inr (.inl (q O σ H τ _ ok ?_))
        rw [ht]
        refine fun v H1 L s r k => ?_
        obtain ⟨a, vs, rfl, ha, rs⟩ := r
        exact ⟨a, rfl, ⟨vs, ha⟩, h _ H1 L s (ItOk.tup ha rs) fun n => k.shr ok.dom n⟩
      | str x =>
        refine .inr (.inr (q O σ H τ _ ok ?_))
        rw [ht]
        refine fun v H1 L s r k => ?_
        exact ⟨x, r.1, h _ H1 [] s ItOk.str fun n a ha => (nomatch ha)⟩
      | _ => exact h.elim
    | err n =>
      rw [ht] at h
      refine .inl (q O σ H τ _ ok ?_)
      rw [ht]; exact h
    | bad => rw [ht] at h; exact h.elim
theorem mi_range1 {a : Expr} (hg : Gl X "range") (hm : X.mg "range" = none) (ha : MA X E Γ [a] u c) (hs : autoParam (starEach [a] X.env = [(false, eval a X.env)]) L2.au3._auto_1) : MI X E Γ tg (.Call (.Name "range" p) [a] [] pos) (iL rng1 u) .fresh := by
  obtain ⟨_, ta, p', q⟩ := ha
  refine ⟨_, pi_range1 hg hm p' hs, fun O σ H τ Rr ok h => q O σ H τ _ ok ?_⟩
  unfold iL at h
  cases ht : u τ with
  | ok ds =>
    rw [ht, R.ok_bind] at h
    refine fun vs H1 L s r k => ?_
    unfold rng1 at h
    split at h
    · rename_i j
      obtain ⟨v, vs', L1, L2, e1, _, r1, r2⟩ := r
      obtain ⟨rfl, _⟩ := r1
      obtain ⟨rfl, _⟩ := r2
      by_cases hj : -(2 ^ 62) <= j /\ j < 2 ^ 62
      · rw [if_pos hj] at h
        exact ⟨j, e1, hj.1, hj.2, h _ H1 [] s ItOk.rng fun n a ha => (nomatch ha)⟩
      · rw [if_neg hj] at h; exact h.elim
    · exact h.elim
  | err n => rw [ht] at h; exact h
  | bad => rw [ht] at h; exact h
theorem mi_range2 {a b : Expr} (hg : Gl X "range") (hm : X.mg "range" = none) (ha : MA X E Γ [a, b] u c) (hs : autoParam (starEach [a, b] X.env = [(false, eval a X.env), (false, eval b X.env)]) L2.au3._auto_1) (hs2 : autoParam (starEach [b] X.env = [(false, eval b X.env)]) L2.au3._auto_1) : MI X E Γ tg (.Call (.Name "range" p) [a, b] [] pos) (iL rng2 u) .fresh := by
  obtain ⟨_, ta, p', q⟩ := ha
  refine ⟨_, pi_range2 hg hm p' hs hs2, fun O σ H τ Rr ok h => q O σ H τ _ ok ?_⟩
  unfold iL at h
  cases ht : u τ with
  | ok ds =>
    rw [ht, R.ok_bind] at h
    refine fun vs H1 L s r k => ?_
    unfold rng2 at h
    split at h
    · rename_i i j
      obtain ⟨v, vs', L1, L2, e1, _, r1, v2, vs2, L3, L4, e2, _, r2, r3⟩ := r
      obtain ⟨rfl, _⟩ := r1
      obtain ⟨rfl, _⟩ := r2
      obtain ⟨rfl, _⟩ := r3
      subst e2
      by_cases hj : -(2 ^ 62) <= i /\ i < 2 ^ 62 /\ -(2 ^ 62) <= j /\ j < 2 ^ 62
      · rw [if_pos hj] at h
        exact ⟨i, j, e1, hj, h _ H1 [] s ItOk.rng fun n a ha => (nomatch ha)⟩
      · rw [if_neg hj] at h; exact h.elim
    · exact h.elim
  | err n => rw [ht] at h; exact h
  | bad => rw [ht] at h; exact h
end
noncomputable def compT (fr : List (Option Nat)) (τ : Tn) : Tn := fr.map fun o => o.bind fun i => (τ[i]?).join
noncomputable def compC (fr : List (Option Nat)) (Γ : List Cl) : List Cl := fr.map fun o => match o with
  | some i => (match Γ[i]? with
    | some .shr => .shr
    | some .own => .brw
    | some .brw => .brw
    | _ => .dead)
  | none => .dead
noncomputable def clsAll (k : Cl) : List Cl -> List Nat -> List Cl
  | Γ, [] => Γ
  | Γ, i :: is => clsAll k (Γ.set i k) is
noncomputable def Cl.ofIt : Rc -> Cl
  | .bor => .brw
  | _ => .shr
noncomputable def compL (f : D -> R (Option D)) : List D -> R (List D)
  | [] => .ok []
  | d :: ds => (f d).bind fun o => (compL f ds).bind fun ys => .ok (o.toList ++ ys)
noncomputable def noErr {α : Type} : R α -> R α
  | .err _ => .bad
  | r => r
noncomputable def compF (asg : D -> Tn -> R Tn) (cnd : Tn -> R Bool) (elt : Tn -> R D) (τ : Tn) (d : D) : R (Option D) :=
  noErr ((asg d τ).bind fun τ1 => (cnd τ1).bind fun k => if k = true then (elt τ1).bind fun y => .ok (some y) else .ok none)
noncomputable def eComp (fr : List (Option Nat)) (it : Tn -> R (List D)) (g : Tgt) (cnd : Tn -> R Bool) (elt : Tn -> R D) : Tn -> R D := fun τ => (it τ).bind fun xs => (compL (compF g.asg cnd elt (compT fr τ)) xs).bind fun ys => if ys.length <= sizeLine then .ok (.lst ys) else .bad
noncomputable def MTs (X : Cx) (E : XK) (Γ : List Cl) (ifs : List Expr) (t : Tn -> R Bool) : Prop :=
  ∃ te, PTs X ifs te /\ ∀ O σ H τ Q, EOk X.K Γ O H σ τ -> postB X.K E H Q (t τ) -> te σ H Q
theorem mts_nil {X : Cx} {E : XK} {Γ : List Cl} : MTs X E Γ [] (fun _ => .ok true) := ⟨tYes, pts_nil, fun O σ H τ Q ok h => h H (Same.refl H)⟩
theorem mts_one {X : Cx} {E : XK} {Γ : List Cl} {e : Expr} {t : Tn -> R Bool} (h : MT X E Γ e t) : MTs X E Γ [e] t := by
  obtain ⟨te, p, q⟩ := h
  exact ⟨te, pts_one p, q⟩
theorem MTs.pts {X : Cx} {E : XK} {Γ : List Cl} {e : List Expr} {t : Tn -> R Bool} (h : MTs X E Γ e t) : PTs X e (wpT X.K E Γ t) := by
  obtain ⟨te, p, q⟩ := h
  rintro pins s σ H Q I ⟨O, τ, ok, z⟩
  exact p pins s σ H Q I (q O σ H τ Q ok z)
section
variable {K : PySem.W.Frag} {Γ : List Cl} {O : Addr -> Prop} {H : Hp} {σ : St} {τ : Tn}
theorem EOk.comp {fr : List (Option Nat)} (h : EOk K Γ O H σ τ) : EOk K (compC fr Γ) O H (compSt fr σ) (compT fr τ) := by
  refine ⟨h.dom, fun j c e hc => ?_⟩
  unfold compC at e
  rw [List.getElem?_map] at e
  cases ho : fr[j]? with
  | none => rw [ho] at e; cases e
  | some o =>
    rw [ho] at e
    cases o with
    | none => exact absurd (Option.some.inj e).symm hc
    | some i =>
      have e : (match Γ[i]? with | some .shr => Cl.shr | some .own => .brw | some .brw => .brw | _ => .dead) = c := Option.some.inj e
      have key : ∃ k, Γ[i]? = some k /\ k ≠ .dead /\ (c = .shr -> k = .shr) := by
        cases hk : Γ[i]? with
        | none => rw [hk] at e; exact absurd e.symm hc
        | some k =>
          rw [hk] at e
          cases k with
          | own => subst e; exact ⟨_, rfl, by simp, fun z => by cases z⟩
          | shr => exact ⟨_, rfl, by simp, fun _ => rfl⟩
          | brw => subst e; exact ⟨_, rfl, by simp, fun z => by cases z⟩
          | dead => exact absurd e.symm hc
      obtain ⟨k, k1, k2, k3⟩ := key
      obtain ⟨v, d, L, e1, e2, r, hs⟩ := h.slot i k k1 k2
      refine ⟨v, d, L, ?_, ?_, r, fun z => hs (k3 z)⟩
      · unfold compSt; rw [List.getElem?_map, ho]; show some ((σ[i]?).join) = _; rw [e1]; rfl
      · unfold compT; rw [List.getElem?_map, ho]; show some ((τ[i]?).join) = _; rw [e2]; rfl
theorem EOk.put {i : Nat} {k : Cl} {d : D} {v : V} {L : List Addr} (h : EOk K Γ O H σ τ) (r : Rep K H d v L) (hk : k = .shr -> ∀ a ∈ L, ¬ O a) (h1 : σ.length = Γ.length) (h2 : τ.length = Γ.length) : EOk K (Γ.set i k) O H (σ.set i (some v)) (τ.set i (some d)) := by
  refine ⟨h.dom, fun j c e hc => ?_⟩
  by_cases z : i = j
  · subst z
    have hi : i < Γ.length := by
      have := (List.getElem?_eq_some_iff.mp e).1
      simpa using this
    rw [List.getElem?_set_self hi] at e
    cases e
    exact ⟨v, d, L, by rw [List.getElem?_set_self (by lia)], by rw [List.getElem?_set_self (by lia)], r, hk⟩
  · rw [List.getElem?_set_ne z] at e
    obtain ⟨v', d', L', a1, a2, a3, a4⟩ := h.slot j c e hc
    exact ⟨v', d', L', by rw [List.getElem?_set_ne z]; exact a1, by rw [List.getElem?_set_ne z]; exact a2, a3, a4⟩
end
theorem EOk.putAll {K : PySem.W.Frag} {O : Addr -> Prop} {H : Hp} {k : Cl} {Γ : List Cl} {σ : St} {τ : Tn} {is : List Nat} {ds : List D} {vs : List V} {L : List Addr} (h : EOk K Γ O H σ τ) (r : Reps K H ds vs L) (hL : k = .shr -> ∀ a ∈ L, ¬ O a) (hl : ds.length = is.length) (h1 : σ.length = Γ.length) (h2 : τ.length = Γ.length) :
    EOk K (clsAll k Γ is) O H (setAll σ is vs) (setAll τ is ds) := by
  induction is generalizing Γ σ τ ds vs L with
  | nil =>
    cases ds with
    | nil => cases r.1; exact h
    | cons => cases hl
  | cons i is ih =>
    cases ds with
    | nil => cases hl
    | cons d ds =>
      obtain ⟨v, vs', L1, L2, e1, e2, r1, r2⟩ := r
      subst e1 e2
      exact ih (h.put r1 (fun z a ha => hL z a (List.mem_append_left _ ha)) h1 h2) r2 (fun z a ha => hL z a (List.mem_append_right _ ha)) (Nat.succ.inj hl) (by rw [List.length_set, List.length_set]; exact h1) (by rw [List.length_set, List.length_set]; exact h2)
theorem setAll_len {α : Type} : ∀ (is : List Nat) (σ : List (Option α)) (vs : List α), (setAll σ is vs).length = σ.length
  | [], σ, vs => by unfold setAll; rfl
  | i :: is, σ, [] => by unfold setAll; rfl
  | i :: is, σ, v :: vs => by unfold setAll; rw [setAll_len is, List.length_set]
theorem setAll_ne {α : Type} {j : Nat} : ∀ (is : List Nat) (σ : List (Option α)) (vs : List α), j ∉ is -> (setAll σ is vs)[j]? = σ[j]?
  | [], σ, vs, _ => by unfold setAll; rfl
  | i :: is, σ, [], _ => by unfold setAll; rfl
  | i :: is, σ, v :: vs, h => by
    unfold setAll
    rw [setAll_ne is _ vs (fun z => h (List.mem_cons_of_mem _ z)), List.getElem?_set_ne (fun (z : i = j) => h (z ▸ List.mem_cons_self))]
theorem tgE_in {K : PySem.W.Frag} {Γ : List Cl} {O : Addr -> Prop} {H : Hp} {σ : St} {τ τ1 : Tn} {d : D} {v : V} {L : List Addr} {g : Tgt} {k : Cl} (h : EOk K Γ O H σ τ) (r : Rep K H d v L) (hL : k = .shr -> ∀ a ∈ L, ¬ O a) (h1 : σ.length = Γ.length) (h2 : τ.length = Γ.length) (ha : g.asg d τ = .ok τ1)
    {Q : St -> Hp -> Prop} (kk : ∀ σ1, EOk K (clsAll k Γ g.slots) O H σ1 τ1 -> σ1.length = σ.length -> (∀ j, j ∉ g.slots -> σ1[j]? = σ[j]?) -> Q σ1 H) : tgG K g v σ H Q := by
  cases g with
  | one i =>
    cases ha
    exact kk _ (h.put r hL h1 h2) (by simp) fun j hj => List.getElem?_set_ne fun z => hj (by simp [Tgt.slots, z])
  | many is =>
    cases d with
    | tup ds =>
      unfold Tgt.asg at ha
      dsimp only at ha
      by_cases hl : ds.length = is.length
      · rw [if_pos hl] at ha
        cases ha
        obtain ⟨a, vs, rfl, hs, rs⟩ := r
        have hv : vs.length = is.length := rs.length.trans hl
        exact ⟨a, vs, rfl, hs, hv, kk _ (h.putAll rs hL hl h1 h2) (setAll_len _ _ _) fun j hj => setAll_ne is σ vs hj⟩
      · rw [if_neg hl] at ha; cases ha
    | _ => cases ha
end L2
set_option maxRecDepth 100000
set_option maxHeartbeats 4000000
namespace L2
open PySem PySem.Spec PyProof.Rows
noncomputable abbrev noX : XK := fun _ _ _ => False
theorem noErr_ok {α : Type} {r : R α} {a : α} (h : noErr r = .ok a) : r = .ok a := by
  cases r with
  | ok b => exact h
  | err n => cases h
  | bad => cases h
theorem noErr_err {α : Type} {r : R α} {n : Str} (h : noErr r = .err n) : False := by cases r <;> cases h
theorem compL_noerr {f : D -> R (Option D)} (hf : ∀ d n, f d ≠ .err n) : ∀ (ds : List D) (n : Str), compL f ds ≠ .err n
  | [], n, h => by cases h
  | d :: ds, n, h => by
    unfold compL at h
    cases h1 : f d with
    | ok o =>
      rw [h1, R.ok_bind] at h
      cases h2 : compL f ds with
      | ok ys => rw [h2] at h; cases h
      | err m => exact compL_noerr hf ds m h2
      | bad => rw [h2] at h; cases h
    | err m => exact hf d m h1
    | bad => rw [h1] at h; cases h
theorem bind_ok {α β : Type} {r : R α} {f : α -> R β} {b : β} (h : r.bind f = .ok b) : ∃ a, r = .ok a /\ f a = .ok b := by
  cases r with
  | ok a => exact ⟨a, rfl, h⟩
  | err n => cases h
  | bad => cases h
theorem compL_cons {f : D -> R (Option D)} {d : D} {ds ys : List D} (h : compL f (d :: ds) = .ok ys) : ∃ o zs, f d = .ok o /\ compL f ds = .ok zs /\ ys = o.toList ++ zs := by
  unfold compL at h
  obtain ⟨o, h1, h⟩ := bind_ok h
  obtain ⟨zs, h2, h⟩ := bind_ok h
  cases h
  exact ⟨o, zs, h1, h2, rfl⟩
theorem EOk.live {K : PySem.W.Frag} {Γ : List Cl} {O : Addr -> Prop} {H : Hp} {σ σ' : St} {τ : Tn} (h : EOk K Γ O H σ τ) (e : ∀ (j : Nat) (c : Cl), Γ[j]? = some c -> c ≠ Cl.dead -> σ'[j]? = σ[j]?) : EOk K Γ O H σ' τ :=
  ⟨h.dom, fun i c e1 hc => by
    obtain ⟨v, d, L, a1, a2, a3, a4⟩ := h.slot i c e1 hc
    exact ⟨v, d, L, by rw [e i c e1 hc]; exact a1, a2, a3, a4⟩⟩
section
variable {X : Cx} {E : XK} {Γ : List Cl} {pos : Pos}
theorem comp_snd {fr : List (Option Nat)} {tg iter : Expr} {it : Tn -> R (List D)} {g : Tgt} {cnd : Tn -> R Bool} {te : Tn -> R D} {ci c : Rc} (hi : MI X E Γ tg iter it ci) (hcl : c ≠ .bor) (hd : ∀ j ∈ g.slots, (compC fr Γ)[j]? = some .dead) :
    ∃ wi, PI X tg iter wi /\ ∀ O σ H τ Q, EOk X.K Γ O H σ τ -> post X.K E O c H Q (eComp fr it g cnd te τ) -> tComp fr wi (tgG X.K g) (wpT X.K noX (clsAll (Cl.ofIt ci) (compC fr Γ) g.slots) cnd) (wpE X.K noX (clsAll (Cl.ofIt ci) (compC fr Γ) g.slots) te c) σ H Q := by
  have hT0 : ∀ σ H Q, (∃ O τ, EOk X.K (clsAll (Cl.ofIt ci) (compC fr Γ) g.slots) O H σ τ /\ postB X.K noX H Q (cnd τ)) -> wpT X.K noX (clsAll (Cl.ofIt ci) (compC fr Γ) g.slots) cnd σ H Q := fun _ _ _ h => h
  have hE0 : ∀ σ H Q, (∃ O τ, EOk X.K (clsAll (Cl.ofIt ci) (compC fr Γ) g.slots) O H σ τ /\ post X.K noX O c H Q (te τ)) -> wpE X.K noX (clsAll (Cl.ofIt ci) (compC fr Γ) g.slots) te c σ H Q := fun _ _ _ h => h
  generalize wpT X.K noX (clsAll (Cl.ofIt ci) (compC fr Γ) g.slots) cnd = TC at hT0 ⊢
  generalize wpE X.K noX (clsAll (Cl.ofIt ci) (compC fr Γ) g.slots) te c = TE0 at hE0 ⊢
  obtain ⟨wi, p, q⟩ := hi
  refine ⟨wi, p, fun O σ H τ Q ok h => q O σ H τ _ ok ?_⟩
  unfold eComp at h
  cases hit' : it τ with
  | err n => rw [hit'] at h; exact h
  | bad => rw [hit'] at h; exact h
  | ok ds =>
    rw [hit', R.ok_bind] at h
    refine fun J H1 L s1 hJ hO dd hD => ?_
    obtain ⟨hLd, hit⟩ := hJ
    generalize hF : compF g.asg cnd te (compT fr τ) = F at h
    cases hcL : compL F ds with
    | err n => exact absurd hcL (compL_noerr (fun d n z => by rw [<- hF] at z; exact noErr_err z) ds n)
    | bad => rw [hcL] at h; exact h.elim
    | ok ys =>
      rw [hcL, R.ok_bind] at h
      by_cases hz : ys.length <= sizeLine
      · rw [if_pos hz] at h
        have hD0 : H dd = none := s1.non hD
        have lenS : (compSt fr σ).length = (compC fr Γ).length := by simp [compSt, compC]
        have lenT : (compT fr τ).length = (compC fr Γ).length := by simp [compT, compC]
        obtain ⟨W, hW⟩ : ∃ W : Nat -> Nat -> List V -> St -> Hp -> Prop, ∀ i m ysv τ' H2, W i m ysv τ' H2 ↔ (m = ds.length - i /\ i <= ds.length /\ H2 dd = some (.lst ysv) /\ (∀ b, b ≠ dd -> H1 b ≠ none -> H2 b = H1 b) /\ τ'.length = (compC fr Γ).length /\ (∀ j, j ∉ g.slots -> τ'[j]? = (compSt fr σ)[j]?) /\
          ∃ dn rs Ly, ys = dn ++ rs /\ compL F (ds.drop i) = .ok rs /\ Reps X.K H2 dn ysv Ly /\ dd ∉ Ly /\ RcOk c O H1 Ly) := ⟨_, fun _ _ _ _ _ => Iff.rfl⟩
        refine ⟨W, ⟨ds.length, (hW _ _ _ _ _).mpr ⟨by simp, Nat.zero_le _, upd_same, fun b hb _ => upd_ne hb, lenS, fun _ _ => rfl, [], ys, [], rfl, by simpa using hcL, Reps.nil, by simp, RcOk.nil⟩⟩, ?_⟩
        intro i m ysv τ' H2 hw0
        obtain ⟨rfl, hile, hDy, kp, hl', hj', dn, rs, Ly, eys, hrs, rdn, nD, kLy⟩ := (hW _ _ _ _ _).mp hw0
        refine ⟨hDy, ?_⟩
        have sH : Same H H2 := fun b o e => by
          have e1 := s1 b o e
          have nb : b ≠ dd := ne_of_none e hD0
          rw [kp b nb (by rw [e1]; simp)]; exact e1
        have s12 : ∀ b o, H1 b = some o -> H2 b = some o := fun b o e => by
          rw [kp b (ne_of_none e hD) (by rw [e]; simp)]; exact e
        have okO : EOk X.K Γ (fun a => O a \/ a = dd) H2 σ τ := by
          refine ⟨fun a ha => ?_, fun j k e hk => ?_⟩
          · rcases ha with ha | ha
            · exact (ok.same sH).dom a ha
            · rw [ha, hDy]; simp
          · obtain ⟨v, d, L0, a1, a2, a3, a4⟩ := ok.slot j k e hk
            refine ⟨v, d, L0, a1, a2, a3.same sH, fun z a ha hm => ?_⟩
            rcases hm with hm | hm
            · exact a4 z a ha hm
            · exact a3.there ha (hm ▸ hD0)
        have okc : EOk X.K (compC fr Γ) (fun a => O a \/ a = dd) H2 τ' (compT fr τ) := (okO.comp (fr := fr)).live fun j k e hk => hj' j fun hm => by
          rw [hd j hm] at e; exact hk (Option.some.inj e).symm
        obtain ⟨go, stop⟩ := hit H2 ⟨fun a xs e => s12 a _ e, fun a o u e => s12 a _ e⟩ (fun a ha => kp a (fun z => hLd a ha (z ▸ hD)) (hLd a ha)) i
        by_cases hlt : i < ds.length
        · obtain ⟨hgo, hy⟩ := go ds[i] (by simp [hlt])
          refine .inr ⟨hgo, fun x H3 y => ?_⟩
          obtain ⟨s3, L', r', sub⟩ := hy x H3 y
          rw [List.drop_eq_getElem_cons hlt] at hrs
          obtain ⟨o, zs, ho, hzs, ers⟩ := compL_cons hrs
          rw [<- hF] at ho
          have ho := noErr_ok ho
          obtain ⟨τ1, ha, ho⟩ := bind_ok ho
          obtain ⟨k, hk, ho⟩ := bind_ok ho
          refine tgE_in (k := Cl.ofIt ci) (okc.same s3) r' (fun z a ha hm => ?_) hl' lenT ha fun σ1 ok1 hl1 hj1 => ?_
          · have hci : ci ≠ .bor := fun w => by subst w; cases z
            rcases hm with hm | hm
            · exact hO hci a (sub a ha) hm
            · exact hLd a (sub a ha) (hm ▸ hD)
          · refine hT0 _ _ _ ⟨_, τ1, ok1, ?_⟩
            rw [hk]
            refine fun H5 s5 => ?_
            have s25 := s3.trans s5
            cases k with
            | true =>
              rw [if_pos rfl] at ho
              dsimp only
              rw [if_pos rfl]
              obtain ⟨yd, hyd, ho⟩ := bind_ok ho
              cases ho
              refine hE0 _ _ _ ⟨_, τ1, ok1.same s5, ?_⟩
              rw [hyd]
              refine fun yv H6 Lw s6 r6 k6 => ?_
              have s26 := s25.trans s6
              have hD6 : H6 dd = some (.lst ysv) := s26 dd _ hDy
              have hlen : ysv.length = dn.length := rdn.length
              have nDw : dd ∉ Lw := fun hm => by
                cases c with
                | fresh => have := k6.2 dd hm; rw [s25 dd _ hDy] at this; cases this
                | shr => exact k6 dd hm (.inr rfl)
                | bor => exact hcl rfl
              have mu : (∃ vs, H6 dd = some (.lst vs)) \/ ∃ kvs, H6 dd = some (.dK kvs) := .inl ⟨_, hD6⟩
              refine ⟨hD6, ?_, ds.length - (i + 1), by lia, (hW _ _ _ _ _).mpr ⟨rfl, hlt, upd_same, fun b hb hn => ?_, by rw [hl1]; exact hl', fun j hj => (hj1 j hj).trans (hj' j hj), dn ++ [yd], zs, Ly ++ Lw, ?_, hzs, ?_, ?_, ?_⟩⟩
              · rw [eys, ers, List.length_append, List.length_append] at hz
                simp only [Option.toList, List.length_singleton] at hz
                lia
              · rw [upd_ne hb, <- kp b hb hn]
                exact s26.at (by rw [kp b hb hn]; exact hn)
              · rw [eys, ers, List.append_assoc]; rfl
              · have := Reps.append ((rdn.same s26).upd (o := .lst (ysv ++ [yv])) mu nD) (Reps.cons (r6.upd (o := .lst (ysv ++ [yv])) mu nDw) Reps.nil)
                rw [List.append_nil] at this
                exact this
              · intro hm
                rcases List.mem_append.mp hm with z | z
                · exact nD z
                · exact nDw z
              · cases c with
                | fresh =>
                  refine ⟨List.nodup_append.mpr ⟨kLy.1, k6.1, fun a ha b hb z => ?_⟩, fun a ha => ?_⟩
                  · subst z
                    have h2 := rdn.there ha
                    have h5 := k6.2 a hb
                    exact h2 (s25.non h5)
                  · rcases List.mem_append.mp ha with z | z
                    · exact kLy.2 a z
                    · have h5 := k6.2 a z
                      have h2 : H2 a = none := s25.non h5
                      cases e1 : H1 a with
                      | none => rfl
                      | some o => rw [s12 a o e1] at h2; cases h2
                | shr =>
                  intro a ha
                  rcases List.mem_append.mp ha with z | z
                  · exact kLy a z
                  · exact fun w => k6 a z (.inl w)
                | bor => exact absurd rfl hcl
            | false =>
              rw [if_neg Bool.false_ne_true] at ho
              dsimp only
              rw [if_neg Bool.false_ne_true]
              cases ho
              refine ⟨ds.length - (i + 1), by lia, (hW _ _ _ _ _).mpr ⟨rfl, hlt, s25 dd _ hDy, fun b hb hn => ?_, by rw [hl1]; exact hl', fun j hj => (hj1 j hj).trans (hj' j hj), dn, zs, Ly, ?_, hzs, rdn.same s25, nD, kLy⟩⟩
              · rw [<- kp b hb hn]
                exact s25.at (by rw [kp b hb hn]; exact hn)
              · rw [eys, ers]; rfl
        · have e : i = ds.length := by lia
          subst e
          rw [List.drop_length] at hrs
          cases hrs
          rw [List.append_nil] at eys
          subst eys
          refine .inl ⟨stop (Nat.le_refl _), h (.ref dd) H2 (dd :: Ly) sH ⟨dd, ysv, Ly, rfl, hDy, rfl, rdn⟩ ?_⟩
          cases c with
          | fresh =>
            refine ⟨List.nodup_cons.mpr ⟨nD, kLy.1⟩, fun a ha => ?_⟩
            rcases List.mem_cons.mp ha with z | z
            · rw [z]; exact hD0
            · exact s1.non (kLy.2 a z)
          | shr =>
            intro a ha
            rcases List.mem_cons.mp ha with z | z
            · rw [z]; exact fun w => ok.dom dd w hD0
            · exact kLy a z
          | bor => exact absurd rfl hcl
      · rw [if_neg hz] at h; exact h.elim
theorem me_comp {N' : List Str} {fr : List (Option Nat)} {scope : Scope} {tg iter elt : Expr} {ifs : List Expr} {it : Tn -> R (List D)} {g : Tgt} {cnd : Tn -> R Bool} {te : Tn -> R D} {ci c : Rc} (hc : X.calm = true) (S : CompScope X N' fr scope) (hi : MI X E Γ tg iter it ci)
    (hg : ∀ s₃ H₃ fp pins, MG (compCx X scope N' s₃ H₃ fp pins) tg g) (ht : ∀ s₃ H₃ fp pins, MTs (compCx X scope N' s₃ H₃ fp pins) noX (clsAll (Cl.ofIt ci) (compC fr Γ) g.slots) ifs cnd)
    (he : ∀ s₃ H₃ fp pins, ME (compCx X scope N' s₃ H₃ fp pins) noX (clsAll (Cl.ofIt ci) (compC fr Γ) g.slots) elt te c) (hcl : c ≠ .bor) (hd : ∀ j ∈ g.slots, (compC fr Γ)[j]? = some .dead)
    (hs : autoParam (∀ x, foldedSetIterable iter X.env x = pure x) L2.au2._auto_1) : ME X E Γ (.ListComp elt [⟨tg, iter, ifs, 0⟩] scope pos) (eComp fr it g cnd te) c := by
  obtain ⟨wi, p, q⟩ := comp_snd (cnd := cnd) (te := te) hi hcl hd
  exact ⟨_, pe_comp hc S p (fun s₃ H₃ fp pins => (hg s₃ H₃ fp pins).pg) (fun s₃ H₃ fp pins => (ht s₃ H₃ fp pins).pts) (fun s₃ H₃ fp pins => (he s₃ H₃ fp pins).pe) hs, q⟩
theorem ms_comp {Γl : List Cl} {N' : List Str} {fr : List (Option Nat)} {scope : Scope} {tg iter elt : Expr} {ifs : List Expr} {it : Tn -> R (List D)} {g : Tgt} {cnd : Tn -> R Bool} {te : Tn -> R D} {ci : Rc} {i : Nat} {x : Str} {pos' cpos : Pos} (hc : X.calm = true) (S : CompScope X N' fr scope) (hi : MI X E Γ tg iter it ci)
    (hg : ∀ s₃ H₃ fp pins, MG (compCx X scope N' s₃ H₃ fp pins) tg g) (ht : ∀ s₃ H₃ fp pins, MTs (compCx X scope N' s₃ H₃ fp pins) noX (clsAll (Cl.ofIt ci) (compC fr Γ) g.slots) ifs cnd)
    (he : ∀ s₃ H₃ fp pins, ME (compCx X scope N' s₃ H₃ fp pins) noX (clsAll (Cl.ofIt ci) (compC fr Γ) g.slots) elt te .fresh) (hd : ∀ j ∈ g.slots, (compC fr Γ)[j]? = some .dead)
    (hN : X.N.Nodup) (hix : X.N[i]? = some x) (hl : i < Γ.length) (hx : Loc X.env.scope x) (hsw : swapsWith (.ListComp elt [⟨tg, iter, ifs, 0⟩] scope cpos) (some (.Name x pos')) pos.line X.env = pure true)
    (hs : autoParam (∀ x, foldedSetIterable iter X.env x = pure x) L2.au2._auto_1) (hf : autoParam (X.fn x = true \/ X.env.scope.names.lookup x = some .local) L2.au0._auto_1) :
    MS X E Γl Γ (.Assign [.Name x pos'] (.ListComp elt [⟨tg, iter, ifs, 0⟩] scope cpos) pos) (sSet i (eComp fr it g cnd te)) (Γ.set i .own) := by
  obtain ⟨wi, p, q⟩ := comp_snd (cnd := cnd) (te := te) (c := .fresh) hi (by decide) hd
  refine ⟨_, ps_comp (g := tgG X.K g) (tc := wpT X.K noX (clsAll (Cl.ofIt ci) (compC fr Γ) g.slots) cnd) (te := wpE X.K noX (clsAll (Cl.ofIt ci) (compC fr Γ) g.slots) te .fresh) hc S p (fun s₃ H₃ fp pins => (hg s₃ H₃ fp pins).pg) (fun s₃ H₃ fp pins => (ht s₃ H₃ fp pins).pts) (fun s₃ H₃ fp pins => (he s₃ H₃ fp pins).pe) hN hix hx hsw hs hf, fun B σ H τ Z ok h => ?_⟩
  obtain ⟨O, eo, _⟩ := ok.eok
  refine q O σ H τ _ eo ?_
  unfold sSet at h
  cases ht' : eComp fr it g cnd te τ with
  | ok d =>
    rw [ht', R.ok_bind] at h
    exact fun v H' L s r k => h _ _ (SOk.into (T := []) (ok.aside s (fun a ha => r.there ha) k.1 k.2) r hl)
  | err n => rw [ht'] at h; exact fun C H' e s => h C H' e (ok.ext.trans s)
  | bad => rw [ht'] at h; exact h
end
noncomputable def spM (K : PySem.W.Frag) (F : List D -> R D) (n : Nat) : Sp := fun vs H Q E => vs.length = n /\ ∃ ds L, Reps K H ds vs L /\ post K E (fun _ => False) .fresh H Q (F ds)
noncomputable def runB (n : Nat) (t : Tn -> R Fl) (ds : List D) : R D := match t (ds.map some ++ List.replicate (n - ds.length) none) with
  | .ok (.rt d) => .ok d
  | .ok (.nx _) => .ok .non
  | .err c => .err c
  | _ => .bad
noncomputable def prmC (n m : Nat) : List Cl := List.replicate m .shr ++ List.replicate (n - m) .dead
theorem Reps.slot {K : PySem.W.Frag} {H : Hp} {ds : List D} {vs : List V} {L : List Addr} (r : Reps K H ds vs L) : ∃ Ls : Nat -> List Addr, ∀ (i : Nat) (d : D), ds[i]? = some d -> ∃ v, vs[i]? = some v /\ Rep K H d v (Ls i) := by
  have : ∀ i : Nat, ∃ L1 : List Addr, ∀ d, ds[i]? = some d -> ∃ v, vs[i]? = some v /\ Rep K H d v L1 := fun i => by
    cases h : ds[i]? with
    | none => exact ⟨[], fun d z => by cases z⟩
    | some d =>
      obtain ⟨v, L1, e1, r1, _⟩ := r.get h
      exact ⟨L1, fun d' z => by cases z; exact ⟨v, e1, r1⟩⟩
  exact ⟨fun i => Classical.choose (this i), fun i => Classical.choose_spec (this i)⟩
theorem SOk.start {K : PySem.W.Frag} {H : Hp} {N : List Str} {ds : List D} {vs : List V} {L : List Addr} (r : Reps K H ds vs L) (hn : vs.length <= N.length) : SOk K (prmC N.length vs.length) H H (L2.start N vs) (ds.map some ++ List.replicate (N.length - ds.length) none) [] := by
  have hl := r.length
  have lp : (prmC N.length vs.length).length = N.length := by unfold prmC; rw [List.length_append, List.length_replicate, List.length_replicate]; lia
  obtain ⟨Ls, hL⟩ := r.slot
  have cls : ∀ i c, (prmC N.length vs.length)[i]? = some c -> c ≠ .dead -> i < vs.length /\ c = .shr := fun i c e hc => by
    unfold prmC at e
    by_cases hi : i < vs.length
    · rw [List.getElem?_append_left (by simpa using hi), List.getElem?_replicate, if_pos hi] at e
      exact ⟨hi, (Option.some.inj e).symm⟩
    · rw [List.getElem?_append_right (by simp; lia), List.getElem?_replicate] at e
      split at e
      · exact absurd (Option.some.inj e).symm hc
      · cases e
  have no : ∀ i : Nat, (prmC N.length vs.length)[i]? ≠ some Cl.own := fun i e => by
    have := (cls i _ e (by simp)).2
    cases this
  refine ⟨Same.refl H, ?_, ?_, Ls, fun i c e hc => ?_, fun i e => absurd e (no i), fun i j c _ e => absurd e (no i), List.nodup_nil, fun a ha => (nomatch ha), fun i c e hc a ha hm => (nomatch hm)⟩
  · unfold L2.start; rw [lp, List.length_append, List.length_map, List.length_replicate]; lia
  · rw [lp, List.length_append, List.length_map, List.length_replicate]; lia
  · obtain ⟨hi, _⟩ := cls i c e hc
    have hi' : i < ds.length := by lia
    obtain ⟨v, e1, r1⟩ := hL i ds[i] (by simp [hi'])
    refine ⟨v, ds[i], ?_, ?_, r1⟩
    · unfold L2.start
      rw [List.getElem?_append_left (by simpa using hi), List.getElem?_map, e1]; rfl
    · rw [List.getElem?_append_left (by simpa using hi'), List.getElem?_map]; simp [hi']
section
variable {P : Program} {w : World} {K : PySem.W.Frag} {mg : Str -> Option Value} {base : Heap} {x : Str} {st : Stmt} {N ps : List Str} {k : Nat} {t : Tn -> R Fl} {Γ' : List Cl}
theorem DefIn.mir (Df : DefIn K mg x st ps) (S : FnScope N ps (defScope st)) (hn : ps.length <= N.length)
    (hbody : ∀ (f : Addr) (cdv : Value) (A : Around) (outer : List Env) (s : Shared) (H : Hp) (E : XK), Room k (A.deeper (envOfC x (defScope st) s.heap.objs.size f cdv)) ->
      MSs (cxOf (cxx P w) P w K mg base N x (defScope st) f cdv A outer s H E) E [] (prmC N.length ps.length) (defBody st) t Γ') : Own P w K mg base x (k + 1) ps (spM K (runB N.length t) ps.length) := by
  refine Df.own S (fun vs H Q E h => h.1) fun f cdv A outer s H vs Q E hr h => ?_
  obtain ⟨hl, ds, L, r, h⟩ := h
  obtain ⟨ts, p, q⟩ := hbody f cdv A outer s H E hr
  refine ⟨ts, p, q H (start N vs) H _ _ (hl ▸ SOk.start r (by lia)) ?_⟩
  unfold runB at h
  cases ht : t (ds.map some ++ List.replicate (N.length - ds.length) none) with
  | ok f =>
    rw [ht] at h
    cases f with
    | nx τ' => exact fun σ' H' ok' => h .non H' [] ok'.ext ⟨rfl, rfl⟩ RcOk.nil
    | rt d => exact fun v H' L s r n1 n2 => h v H' L s r ⟨n1, n2⟩
    | bk τ' => exact h.elim
    | ct τ' => exact h.elim
  | err n => rw [ht] at h; exact fun C H' e s => h C H' e s
  | bad => rw [ht] at h; exact h.elim
end
section
variable {X : Cx} {E : XK} {Γ Γ' Γl : List Cl} {x : Str} {k : Nat} {ps : List Str} {F : List D -> R D} {e : Expr} {es : List Expr} {u : Tn -> R (List D)} {c : Rc} {p pos : Pos} {n : Nat}
theorem me_call (O : Own X.prog X.w X.K X.mg X.base x k ps (spM X.K F n)) (hr : Room k X.A) (hg : Gl X x) (hx : Passes (cxx X.prog X.w) X E) (ha : MA X E Γ (e :: es) u c) (hl : autoParam ((e :: es).length = n) L2.au3._auto_1) (hdb : autoParam ((x == ("__debug__" : Str)) = false) L2.au1._auto_1)
    (he : autoParam (starEach (e :: es) X.env = (false, eval e X.env) :: starEach es X.env) L2.au3._auto_1) (hpl : autoParam ((backTo pos (starEach es X.env)).any (·.1) = false) L2.au3._auto_1) : ME X E Γ (.Call (.Name x p) (e :: es) [] pos) (eL F u) .fresh := by
  obtain ⟨hlen, ta, pa, q⟩ := ha
  refine ⟨_, pe_own O hr hg hx pa hdb he hpl, fun O' σ H τ Q ok h => q O' σ H τ _ ok ?_⟩
  unfold eL at h
  cases hu : u τ with
  | ok ds =>
    rw [hu, R.ok_bind] at h
    refine fun vs H1 L s1 r1 _ => ?_
    have hv : (vs ++ []).length = n := by rw [List.append_nil, r1.length, hlen τ ds hu]; exact hl
    refine ⟨hv, ds, L, by rw [List.append_nil]; exact r1, ?_⟩
    have h1 := h.same s1
    cases hF : F ds with
    | ok d => rw [hF] at h1; exact h1
    | err n => rw [hF] at h1; exact h1
    | bad => rw [hF] at h1; exact h1
  | err n => rw [hu] at h; exact h
  | bad => rw [hu] at h; exact h
end
end L2
set_option maxRecDepth 100000
set_option maxHeartbeats 4000000
namespace L2
open PySem PySem.Spec PyProof.Rows
noncomputable def D.isS : D -> Bool
  | .non => true
  | .bl _ => true
  | .int _ => true
  | .str _ => true
  | _ => false
noncomputable def eqS : D -> D -> Bool
  | .non, .non => true
  | .bl a, .bl b => a == b
  | .bl a, .int b => (if a then 1 else 0) == b
  | .int a, .bl b => a == (if b then 1 else 0)
  | .int a, .int b => a == b
  | .str a, .str b => a == b
  | _, _ => false
noncomputable def eqZip (f : D -> D -> Option Bool) : List D -> List D -> Option Bool
  | x :: xs, y :: ys => match f x y, eqZip f xs ys with
    | some a, some b => some (a && b)
    | _, _ => none
  | _, _ => some true
theorem nonB {b : Bool} (h : (none : Option Bool) = some b) : False := by cases h
noncomputable def eqF : Nat -> D -> D -> Option Bool
  | 0, x, y => if (x.isS && y.isS) = true then some (eqS x y) else none
  | n + 1, x, y => match x, y with
    | .lst xs, .lst ys => if xs.length = ys.length then eqZip (eqF n) xs ys else some false
    | .tup xs, .tup ys => (eqZip (eqF n) xs ys).map fun b => b && xs.length == ys.length
    | .frl xs, .lst ys => if xs.length = ys.length then eqZip (eqF n) xs ys else some false
    | .frl xs, .frl ys => if xs.length = ys.length then eqZip (eqF n) xs ys else some false
    | .lst _, .tup _ => some false
    | .tup _, .lst _ => some false
    | .lst _, y => if y.isS = true then some false else none
    | .tup _, y => if y.isS = true then some false else none
    | x, .lst _ => if x.isS = true then some false else none
    | x, .tup _ => if x.isS = true then some false else none
    | x, y => if (x.isS && y.isS) = true then some (eqS x y) else none
theorem scalU {K : PySem.W.Frag} {H : Hp} {d : D} {v : V} {L : List Addr} {u : Value} (h : d.isS = true) (r : Rep K H d v L) (q : RelV v u) :
    (d = .non /\ u = .none) \/ (∃ b, d = .bl b /\ u = .bool b) \/ (∃ i t, d = .int i /\ u = .int i t) \/ ∃ x t, d = .str x /\ u = .str x t := by
  cases d with
  | non => obtain ⟨rfl, _⟩ := r; exact .inl ⟨rfl, q⟩
  | bl b => obtain ⟨rfl, _⟩ := r; exact .inr (.inl ⟨b, rfl, q⟩)
  | int i => obtain ⟨rfl, _⟩ := r; obtain ⟨t, e⟩ := q; exact .inr (.inr (.inl ⟨i, t, rfl, e⟩))
  | str x => obtain ⟨rfl, _⟩ := r; obtain ⟨t, e⟩ := q; exact .inr (.inr (.inr ⟨x, t, rfl, e⟩))
  | _ => cases h
open SeqAt in
theorem rc_scal {A : Around} {s : Shared} {K : PySem.W.Frag} {H : Hp} {d1 d2 : D} {v1 v2 : V} {L1 L2 : List Addr} {u1 u2 : Value} (h1 : d1.isS = true) (h2 : d2.isS = true) (r1 : Rep K H d1 v1 L1) (r2 : Rep K H d2 v2 L2) (q1 : RelV v1 u1) (q2 : RelV v2 u2) :
    RcAt A s u1 u2 (eqS d1 d2) /\ EqAt A s u1 u2 (eqS d1 d2) /\ RcNeAt A s u1 u2 (!eqS d1 d2) := by
  rcases scalU h1 r1 q1 with ⟨rfl, rfl⟩ | ⟨a, rfl, rfl⟩ | ⟨a, t, rfl, rfl⟩ | ⟨a, t, rfl, rfl⟩ <;>
  rcases scalU h2 r2 q2 with ⟨rfl, rfl⟩ | ⟨b, rfl, rfl⟩ | ⟨b, t', rfl, rfl⟩ | ⟨b, t', rfl, rfl⟩
  · exact ⟨RcAt.none_none, EqAt.same _, RcNeAt.none_none⟩
  · exact ⟨RcAt.none_bool b, EqAt.none_bool b, RcNeAt.none_bool b⟩
  · exact ⟨RcAt.none_int b _, EqAt.none_int b _, RcNeAt.none_int b _⟩
  · exact ⟨RcAt.none_str b _, EqAt.none_str b _, RcNeAt.none_str b _⟩
  · exact ⟨RcAt.bool_none a, EqAt.bool_none a, RcNeAt.bool_none a⟩
  · exact ⟨RcAt.bool_bool a b, EqAt.bool_bool a b, RcNeAt.bool_bool a b⟩
  · exact ⟨RcAt.bool_int a b _, EqAt.bool_int a b _, RcNeAt.bool_int a b _⟩
  · exact ⟨RcAt.bool_str a b _, EqAt.bool_str a b _, RcNeAt.bool_str a b _⟩
  · exact ⟨RcAt.int_none a _, EqAt.int_none a _, RcNeAt.int_none a _⟩
  · exact ⟨RcAt.int_bool a _ b, EqAt.int_bool a _ b, RcNeAt.int_bool a _ b⟩
  · exact ⟨RcAt.int_int a _ b _, EqAt.int_int a _ b _, RcNeAt.int_int a _ b _⟩
  · exact ⟨RcAt.int_str a _ b _, EqAt.int_str a _ b _, RcNeAt.int_str a _ b _⟩
  · exact ⟨RcAt.str_none a _, EqAt.str_none a _, RcNeAt.str_none a _⟩
  · exact ⟨RcAt.str_bool a _ b, EqAt.str_bool a _ b, RcNeAt.str_bool a _ b⟩
  · exact ⟨RcAt.str_int a _ b _, EqAt.str_int a _ b _, RcNeAt.str_int a _ b _⟩
  · exact ⟨RcAt.str_str a _ b _, EqAt.str_str a _ b _, RcNeAt.str_str a _ b _⟩
open SeqAt in
theorem rc_ls {A : Around} {s : Shared} {K : PySem.W.Frag} {H : Hp} {d : D} {v : V} {L : List Addr} {u : Value} {l : Addr} {items : Array Value} (hd : d.isS = true) (r : Rep K H d v L) (q : RelV v u) (hl : s.heap.IsList l items) (hu : A.units < cLine) :
    (RcAt A s (.ref l) u false /\ EqAt A s (.ref l) u false /\ RcNeAt A s (.ref l) u true) /\ RcAt A s u (.ref l) false /\ EqAt A s u (.ref l) false /\ RcNeAt A s u (.ref l) true := by
  rcases scalU hd r q with ⟨rfl, rfl⟩ | ⟨b, rfl, rfl⟩ | ⟨b, t', rfl, rfl⟩ | ⟨b, t', rfl, rfl⟩
  · exact ⟨⟨RcAt.list_none hl hu, EqAt.list_none hl hu, RcNeAt.list_none hl hu⟩, RcAt.none_list hl hu, EqAt.none_list hl hu, RcNeAt.none_list hl hu⟩
  · exact ⟨⟨RcAt.list_bool b hl hu, EqAt.list_bool b hl hu, RcNeAt.list_bool b hl hu⟩, RcAt.bool_list b hl hu, EqAt.bool_list b hl hu, RcNeAt.bool_list b hl hu⟩
  · exact ⟨⟨RcAt.list_int b _ hl hu, EqAt.list_int b _ hl hu, RcNeAt.list_int b _ hl hu⟩, RcAt.int_list b _ hl hu, EqAt.int_list b _ hl hu, RcNeAt.int_list b _ hl hu⟩
  · exact ⟨⟨RcAt.list_str b _ hl hu, EqAt.list_str b _ hl hu, RcNeAt.list_str b _ hl hu⟩, RcAt.str_list b _ hl hu, EqAt.str_list b _ hl hu, RcNeAt.str_list b _ hl hu⟩
open SeqAt in
theorem rc_ts {A : Around} {s : Shared} {K : PySem.W.Frag} {H : Hp} {d : D} {v : V} {L : List Addr} {u : Value} {l : Addr} {items : Array Value} (hd : d.isS = true) (r : Rep K H d v L) (q : RelV v u) (hl : s.heap.IsTuple l items) (hu : A.units < cLine) :
    (RcAt A s (.ref l) u false /\ EqAt A s (.ref l) u false /\ RcNeAt A s (.ref l) u true) /\ RcAt A s u (.ref l) false /\ EqAt A s u (.ref l) false /\ RcNeAt A s u (.ref l) true := by
  rcases scalU hd r q with ⟨rfl, rfl⟩ | ⟨b, rfl, rfl⟩ | ⟨b, t', rfl, rfl⟩ | ⟨b, t', rfl, rfl⟩
  · exact ⟨⟨RcAt.tuple_none hl hu, EqAt.tuple_none hl hu, RcNeAt.tuple_none hl hu⟩, RcAt.none_tuple hl hu, EqAt.none_tuple hl hu, RcNeAt.none_tuple hl hu⟩
  · exact ⟨⟨RcAt.tuple_bool b hl hu, EqAt.tuple_bool b hl hu, RcNeAt.tuple_bool b hl hu⟩, RcAt.bool_tuple b hl hu, EqAt.bool_tuple b hl hu, RcNeAt.bool_tuple b hl hu⟩
  · exact ⟨⟨RcAt.tuple_int b _ hl hu, EqAt.tuple_int b _ hl hu, RcNeAt.tuple_int b _ hl hu⟩, RcAt.int_tuple b _ hl hu, EqAt.int_tuple b _ hl hu, RcNeAt.int_tuple b _ hl hu⟩
  · exact ⟨⟨RcAt.tuple_str b _ hl hu, EqAt.tuple_str b _ hl hu, RcNeAt.tuple_str b _ hl hu⟩, RcAt.str_tuple b _ hl hu, EqAt.str_tuple b _ hl hu, RcNeAt.str_tuple b _ hl hu⟩
noncomputable def eqAtJ (f : D -> D -> Option Bool) (xs ys : List D) (j : Nat) : Bool := match xs[j]?, ys[j]? with
  | some x, some y => (f x y).getD false
  | _, _ => true
theorem eqZip_all {f : D -> D -> Option Bool} : ∀ {xs ys : List D} {b : Bool}, eqZip f xs ys = some b -> b = (List.range (min xs.length ys.length)).all (eqAtJ f xs ys) /\ ∀ j x y, xs[j]? = some x -> ys[j]? = some y -> f x y = some (eqAtJ f xs ys j)
  | [], ys, b, h => by
    unfold eqZip at h
    cases h
    exact ⟨by simp, fun j x y e => by simp at e⟩
  | x :: xs, [], b, h => by
    unfold eqZip at h
    cases h
    exact ⟨by simp, fun j x y e e' => by simp at e'⟩
  | x :: xs, y :: ys, b, h => by
    unfold eqZip at h
    cases h1 : f x y with
    | none => rw [h1] at h; cases h
    | some a =>
      cases h2 : eqZip f xs ys with
      | none => rw [h1, h2] at h; cases h
      | some b' =>
        rw [h1, h2] at h
        cases h
        obtain ⟨e1, e2⟩ := eqZip_all h2
        have z0 : eqAtJ f (x :: xs) (y :: ys) 0 = a := by simp [eqAtJ, h1]
        have zs : ∀ j, eqAtJ f (x :: xs) (y :: ys) (j + 1) = eqAtJ f xs ys j := fun j => by simp [eqAtJ]
        refine ⟨?_, fun j x' y' ex ey => ?_⟩
        · have hm : min (x :: xs).length (y :: ys).length = min xs.length ys.length + 1 := by simp [Nat.succ_min_succ]
          rw [hm, List.range_succ_eq_map, List.all_cons, List.all_map, z0, e1]
          congr 1
        · cases j with
          | zero => simp at ex ey; subst ex ey; rw [z0]; exact h1
          | succ j => rw [zs]; exact e2 j x' y' (by simpa using ex) (by simpa using ey)
section
variable {X : Cx} {pins : List (Addr × Obj)} {σ : St} {H : Hp} {s : Shared}
noncomputable def D.ofV : V -> D
  | .bl b => .bl b
  | .int i => .int i
  | .str x => .str x
  | _ => .non
theorem Rep.ofV {K : PySem.W.Frag} {H : Hp} {d : D} {v : V} {L : List Addr} (h : ∀ a, v ≠ .ref a) (r : Rep K H d v L) : d = D.ofV v := by
  cases d with
  | non => rw [r.1]; rfl
  | bl => rw [r.1]; rfl
  | int => rw [r.1]; rfl
  | str => rw [r.1]; rfl
  | tup => obtain ⟨a, _, e, _⟩ := r; exact absurd e (h a)
  | lst => obtain ⟨a, _, _, e, _⟩ := r; exact absurd e (h a)
  | dic => obtain ⟨a, _, _, e, _⟩ := r; exact absurd e (h a)
  | frl => obtain ⟨a, _, e, _⟩ := r; exact absurd e (h a)
theorem Rep.oneS {K : PySem.W.Frag} {H : Hp} {d d' : D} {u v : V} {L L' : List Addr} (e : v = u) (hs : ∀ a, u ≠ .ref a) (r : Rep K H d v L) (r' : Rep K H d' v L') : d = d' := by
  subst e
  exact (r.ofV hs).trans (r'.ofV hs).symm
theorem Rep.noS {K : PySem.W.Frag} {H : Hp} {d : D} {a : Addr} {L : List Addr} (r : Rep K H d (.ref a) L) (h : d.isS = true) : False := by
  cases d with
  | non => cases r.1
  | bl => cases r.1
  | int => cases r.1
  | str => cases r.1
  | _ => cases h
theorem no_tl {a : Addr} {vs : List V} {o : HO} (I : Inv X pins σ H s) (h : SqT X.K H a vs) (h' : H a = some o) (n1 : ∀ xs, o ≠ .tup xs) (n2 : ∀ p xs, o ≠ .frz p (.tup xs)) : False := by
  rcases h with (z | ⟨p, z⟩) | ⟨o', its, n, hk, hc, _⟩
  · rw [z] at h'; exact n1 _ (Option.some.inj h').symm
  · rw [z] at h'; exact n2 _ _ (Option.some.inj h').symm
  · have := (I.bs a o' (I.mod.kin a o' hk)).2
    rw [this] at h'; cases h'
theorem no_fl {a : Addr} {vs : List V} {o : HO} (I : Inv X pins σ H s) (h : SqF X.K H a vs) (h' : H a = some o) (n2 : ∀ p xs, o ≠ .frz p (.lst xs)) : False := by
  rcases h with ⟨p, z⟩ | ⟨o', its, n, hk, hc, _⟩
  · rw [z] at h'; exact n2 _ _ (Option.some.inj h').symm
  · have := (I.bs a o' (I.mod.kin a o' hk)).2
    rw [this] at h'; cases h'
theorem no_tf {a : Addr} {vs ws : List V} (I : Inv X pins σ H s) (h' : SqT X.K H a ws) (h : SqF X.K H a vs) : False := by
  obtain ⟨its, _, ⟨o1, n1, e1, c1, _⟩, _⟩ := I.list h.sq
  obtain ⟨its2, _, ⟨o2, e2, c2, _⟩, _⟩ := I.tuple h'
  rw [e1] at e2
  cases e2
  rw [c1] at c2
  exact absurd c2 (by simp)
theorem no_ld {a : Addr} {xs : List V} {kvs : List (Key × V)} {H : Hp} (h : H a = some (.lst xs)) (h' : H a = some (.dK kvs)) : False := by
  rw [h] at h'; cases h'
mutual
theorem Rep.one (I : Inv X pins σ H s) : ∀ (d d' : D) (v : V) (L L' : List Addr), Rep X.K H d v L -> Rep X.K H d' v L' -> d = d'
  | .non, _, _, _, _, r, r' => Rep.oneS r.1 (fun _ z => V.noConfusion z) r r'
  | .bl _, _, _, _, _, r, r' => Rep.oneS r.1 (fun _ z => V.noConfusion z) r r'
  | .int _, _, _, _, _, r, r' => Rep.oneS r.1 (fun _ z => V.noConfusion z) r r'
  | .str _, _, _, _, _, r, r' => Rep.oneS r.1 (fun _ z => V.noConfusion z) r r'
  | .tup ds, d', _, L, L', hq5, r => by
    obtain ⟨a, vs, e, h, rs⟩ := hq5
    subst e
    cases d' with
    | non => exact (Rep.noS r rfl).elim
    | bl _ => exact (Rep.noS r rfl).elim
    | int _ => exact (Rep.noS r rfl).elim
    | str _ => exact (Rep.noS r rfl).elim
    | tup ds' =>
      obtain ⟨a', vs', e, h', rs'⟩ := r
      cases e
      cases I.tuple_inj h h'
      rw [Reps.one I ds ds' vs L L' rs rs']
    | lst _ =>
      obtain ⟨_, _, _, e, h', _⟩ := r
      cases e
      exact (no_tl I h h' (fun _ z => HO.noConfusion z) fun _ _ z => HO.noConfusion z).elim
    | dic _ _ =>
      obtain ⟨_, _, _, e, h', _⟩ := r
      cases e
      exact (no_tl I h h' (fun _ z => HO.noConfusion z) fun _ _ z => HO.noConfusion z).elim
    | frl _ =>
      obtain ⟨_, _, e, h', _⟩ := r
      cases e
      exact (no_tf I h h').elim
  | .lst ds, d', _, L, L', hq5, r => by
    obtain ⟨a, vs, L1, e, h, _, rs⟩ := hq5
    subst e
    cases d' with
    | non => exact (Rep.noS r rfl).elim
    | bl _ => exact (Rep.noS r rfl).elim
    | int _ => exact (Rep.noS r rfl).elim
    | str _ => exact (Rep.noS r rfl).elim
    | tup ds' =>
      obtain ⟨a', vs', e, h', rs'⟩ := r
      cases e
      exact (no_tl I h' h (fun _ z => HO.noConfusion z) fun _ _ z => HO.noConfusion z).elim
    | lst ds' =>
      obtain ⟨_, _, _, e, h', _, rs'⟩ := r
      cases e
      rw [h] at h'
      cases h'
      rw [Reps.one I ds ds' vs _ _ rs rs']
    | dic _ _ =>
      obtain ⟨_, _, _, e, h', _⟩ := r
      cases e
      exact (no_ld h h').elim
    | frl _ =>
      obtain ⟨_, _, e, h', _⟩ := r
      cases e
      exact (no_fl I h' h fun _ _ z => HO.noConfusion z).elim
  | .dic ks ds, d', _, L, L', hq5, r => by
    obtain ⟨a, kvs, L1, e, h, _, hk, _, rs⟩ := hq5
    subst e
    cases d' with
    | non => exact (Rep.noS r rfl).elim
    | bl _ => exact (Rep.noS r rfl).elim
    | int _ => exact (Rep.noS r rfl).elim
    | str _ => exact (Rep.noS r rfl).elim
    | tup ds' =>
      obtain ⟨a', vs', e, h', rs'⟩ := r
      cases e
      exact (no_tl I h' h (fun _ z => HO.noConfusion z) fun _ _ z => HO.noConfusion z).elim
    | lst ds' =>
      obtain ⟨_, _, _, e, h', _, rs'⟩ := r
      cases e
      exact (no_ld h' h).elim
    | dic ks' ds' =>
      obtain ⟨_, _, _, e, h', _, hk', _, rs'⟩ := r
      cases e
      rw [h] at h'
      cases h'
      rw [<- hk, <- hk', Reps.one I ds ds' _ _ _ rs rs']
    | frl _ =>
      obtain ⟨_, _, e, h', _⟩ := r
      cases e
      exact (no_fl I h' h fun _ _ z => HO.noConfusion z).elim
  | .frl ds, d', _, L, L', hq5, r => by
    obtain ⟨a, vs, e, h, _, _, rs⟩ := hq5
    subst e
    cases d' with
    | non => exact (Rep.noS r rfl).elim
    | bl _ => exact (Rep.noS r rfl).elim
    | int _ => exact (Rep.noS r rfl).elim
    | str _ => exact (Rep.noS r rfl).elim
    | tup ds' =>
      obtain ⟨a', vs', e, h', rs'⟩ := r
      cases e
      exact (no_tf I h' h).elim
    | lst ds' =>
      obtain ⟨_, _, _, e, h', _, rs'⟩ := r
      cases e
      exact (no_fl I h h' fun _ _ z => HO.noConfusion z).elim
    | dic ks' ds' =>
      obtain ⟨_, _, _, e, h', _, hk', _, rs'⟩ := r
      cases e
      exact (no_fl I h h' fun _ _ z => HO.noConfusion z).elim
    | frl ds' =>
      obtain ⟨_, _, e, h', _, _, rs'⟩ := r
      cases e
      have := I.list_inj h.sq h'.sq
      subst this
      rw [Reps.one I ds ds' vs _ _ rs rs']
theorem Reps.one (I : Inv X pins σ H s) : ∀ (ds ds' : List D) (vs : List V) (L L' : List Addr), Reps X.K H ds vs L -> Reps X.K H ds' vs L' -> ds = ds'
  | [], ds', _, _, _, hq5, r => by
    obtain ⟨e, _⟩ := hq5
    subst e
    cases ds' with
    | nil => rfl
    | cons _ _ => obtain ⟨_, _, _, _, e, _⟩ := r; cases e
  | d :: ds, ds', _, _, _, hq5, r => by
    obtain ⟨v, vs', L1, L2, e1, _, h1, h2⟩ := hq5
    subst e1
    cases ds' with
    | nil => obtain ⟨e, _⟩ := r; cases e
    | cons d' ds' =>
      obtain ⟨v', vs2, L3, L4, e, _, r1, r2⟩ := r
      cases e
      rw [Rep.one I d d' v _ _ h1 r1, Reps.one I ds ds' vs' _ _ h2 r2]
end
end
theorem eqS_refl : ∀ (d : D), d.isS = true -> eqS d d = true
  | .non, _ => rfl
  | .bl b, _ => beq_self_eq_true b
  | .int b, _ => beq_self_eq_true b
  | .str b, _ => beq_self_eq_true b
  | .tup _, h => nomatch h
  | .lst _, h => nomatch h
  | .dic _ _, h => nomatch h
  | .frl _, h => nomatch h
theorem eqF_refl : ∀ (n : Nat) (d : D) (b : Bool), eqF n d d = some b -> b = true := by
  intro n
  induction n with
  | zero =>
    intro d b h
    replace h : (if (d.isS && d.isS) = true then some (eqS d d) else none) = some b := h
    split at h
    · rename_i hs
      simp only [Bool.and_self] at hs
      rw [eqS_refl d hs] at h
      exact (Option.some.inj h).symm
    · cases h
  | succ n ih =>
    have zip : ∀ (xs : List D) (b : Bool), eqZip (eqF n) xs xs = some b -> b = true := by
      intro xs
      induction xs with
      | nil => intro b h; unfold eqZip at h; exact (Option.some.inj h).symm
      | cons x xs ihx =>
        intro b h
        unfold eqZip at h
        cases h1 : eqF n x x with
        | none => rw [h1] at h; cases h
        | some a =>
          cases h2 : eqZip (eqF n) xs xs with
          | none => rw [h1, h2] at h; cases h
          | some b' =>
            rw [h1, h2] at h
            cases h
            rw [ih x a h1, ihx b' h2]; rfl
    intro d b h
    cases d with
    | lst xs =>
      have h : (if xs.length = xs.length then eqZip (eqF n) xs xs else some false) = some b := h
      rw [if_pos rfl] at h
      exact zip xs b h
    | tup xs =>
      have h : (eqZip (eqF n) xs xs).map (fun b => b && xs.length == xs.length) = some b := h
      cases h1 : eqZip (eqF n) xs xs with
      | none => rw [h1] at h; cases h
      | some b' => rw [h1] at h; rw [zip xs b' h1] at h; simp at h; exact h.symm ▸ rfl
    | non => have h : some true = some b := h; exact (Option.some.inj h).symm
    | bl x => have h : some (x == x) = some b := h; exact (Option.some.inj h).symm.trans (beq_self_eq_true x)
    | int x => have h : some (x == x) = some b := h; exact (Option.some.inj h).symm.trans (beq_self_eq_true x)
    | str x => have h : some (x == x) = some b := h; exact (Option.some.inj h).symm.trans (beq_self_eq_true x)
    | dic _ _ => cases h
    | frl xs =>
      have h : (if xs.length = xs.length then eqZip (eqF n) xs xs else some false) = some b := h
      rw [if_pos rfl] at h
      exact zip xs b h
open SeqAt in
theorem eq_of_rc {A : Around} {s : Shared} {a a' : Addr} {b : Bool} (h : RcAt A s (.ref a) (.ref a') b) (hs : a = a' -> b = true) : EqAt A s (.ref a) (.ref a') b := by
  by_cases z : a = a'
  · subst z
    rw [hs rfl]
    exact EqAt.same _
  · exact EqAt.of_refs z h
open SeqAt in
theorem rc_lists {X : Cx} {pins : List (Addr × Obj)} {σ : St} {H : Hp} {s : Shared} (I : Inv X pins σ H s) {n : Nat} {A : Around} (hu0 : A.units < cLine)
    (ih : ∀ (d1 d2 : D) (v1 v2 : V) (L1 L2 : List Addr) (u1 u2 : Value) (b : Bool), eqF n d1 d2 = some b -> Rep X.K H d1 v1 L1 -> Rep X.K H d2 v2 L2 -> RelV v1 u1 -> RelV v2 u2 -> EqAt A.in1 s u1 u2 b)
    {a a2 : Addr} {vs vs2 : List V} {xs ys : List D} {L L2 : List Addr} {b : Bool} (ha : SqL X.K H a vs) (rs : Reps X.K H xs vs L) (ha2 : SqL X.K H a2 vs2) (rs2 : Reps X.K H ys vs2 L2)
    (h : (if xs.length = ys.length then eqZip (eqF n) xs ys else some false) = some b) (same : a = a2 -> b = true) : RcAt A s (.ref a) (.ref a2) b /\ EqAt A s (.ref a) (.ref a2) b /\ RcNeAt A s (.ref a) (.ref a2) (!b) := by
  obtain ⟨its, rv, pl, _⟩ := I.list ha
  obtain ⟨its2, rv2, pl2, _⟩ := I.list ha2
  have l1 : its.length = xs.length := by rw [<- rv.length, rs.length]
  have l2 : its2.length = ys.length := by rw [<- rv2.length, rs2.length]
  by_cases hl : xs.length = ys.length
  · rw [if_pos hl] at h
    obtain ⟨e1, e2⟩ := eqZip_all h
    have he : ∀ j (h1 : j < its.toArray.size) (h2 : j < its2.toArray.size), EqAt A.in1 s its.toArray[j] its2.toArray[j] (eqAtJ (eqF n) xs ys j) := fun j h1 h2 => by
      have h1' : j < xs.length := by simpa [l1] using h1
      have h2' : j < ys.length := by simpa [l2] using h2
      obtain ⟨w1, L3, g1, g2, _⟩ := rs.get (i := j) (d := xs[j]) (by simp [h1'])
      obtain ⟨w2, L4, g3, g4, _⟩ := rs2.get (i := j) (d := ys[j]) (by simp [h2'])
      obtain ⟨z1, k1, k2⟩ := rv.get g1
      obtain ⟨z2, k3, k4⟩ := rv2.get g3
      have m1 : its.toArray[j] = z1 := by
        have := (List.getElem?_eq_some_iff.mp k1).2
        simpa using this
      have m2 : its2.toArray[j] = z2 := by
        have := (List.getElem?_eq_some_iff.mp k3).2
        simpa using this
      rw [m1, m2]
      exact ih _ _ w1 w2 L3 L4 z1 z2 _ (e2 j _ _ (by simp [h1']) (by simp [h2'])) g2 g4 k2 k4
    have hsz : its.toArray.size = its2.toArray.size := by simp [l1, l2, hl]
    have eb : b = (List.range its.toArray.size).all (eqAtJ (eqF n) xs ys) := by
      rw [e1]
      congr 2
      simp [l1, hl]
    have rc := RcAt.lists pl.isList pl2.isList hsz hu0 he
    have rn := RcNeAt.lists pl.isList pl2.isList hsz hu0 he
    rw [<- eb] at rc rn
    exact ⟨rc, eq_of_rc rc same, rn⟩
  · rw [if_neg hl] at h
    cases h
    have hsz : (its.toArray.size != its2.toArray.size) = true := by simp [l1, l2, hl]
    have rc := RcAt.lists_lengths pl.isList pl2.isList hsz hu0
    exact ⟨rc, eq_of_rc rc same, RcNeAt.lists_lengths pl.isList pl2.isList hsz hu0⟩
open SeqAt in
theorem rc_eq {X : Cx} {pins : List (Addr × Obj)} {σ : St} {H : Hp} {s : Shared} (I : Inv X pins σ H s) : ∀ (n : Nat) (A : Around) (d1 d2 : D) (v1 v2 : V) (L1 L2 : List Addr) (u1 u2 : Value) (b : Bool), A.units + n < cLine -> eqF n d1 d2 = some b ->
    Rep X.K H d1 v1 L1 -> Rep X.K H d2 v2 L2 -> RelV v1 u1 -> RelV v2 u2 -> RcAt A s u1 u2 b /\ EqAt A s u1 u2 b /\ RcNeAt A s u1 u2 (!b) := by
  intro n
  induction n with
  | zero =>
    intro A d1 d2 v1 v2 L1 L2 u1 u2 b hu h r1 r2 q1 q2
    have h : (if (d1.isS && d2.isS) = true then some (eqS d1 d2) else none) = some b := h
    split at h
    · rename_i hs
      rw [Bool.and_eq_true] at hs
      cases h
      exact rc_scal hs.1 hs.2 r1 r2 q1 q2
    · cases h
  | succ n ih =>
    intro A d1 d2 v1 v2 L1 L2 u1 u2 b hu h r1 r2 q1 q2
    have hu0 : A.units < cLine := by lia
    have hu1 : A.in1.units + n < cLine := by show A.units + 1 + n < cLine; lia
    have same : ∀ a, v1 = .ref a -> v2 = .ref a -> b = true := fun a e1 e2 => by
      subst e1 e2
      have := Rep.one I d1 d2 _ _ _ r1 r2
      subst this
      exact eqF_refl (n + 1) d1 b h
    by_cases s1 : d1.isS = true
    · by_cases s2 : d2.isS = true
      · have e : b = eqS d1 d2 := by
          cases d1 <;> first | exact absurd s1 Bool.false_ne_true | (cases d2 <;> first | exact absurd s2 Bool.false_ne_true | exact (Option.some.inj h).symm)
        subst e
        exact rc_scal s1 s2 r1 r2 q1 q2
      · cases d2 with
        | lst ys =>
          have e : b = false := by cases d1 <;> first | exact absurd s1 Bool.false_ne_true | exact (Option.some.inj h).symm
          subst e
          obtain ⟨a, vs, L', e2, ha, _, rs⟩ := r2
          have q2 : u2 = Value.ref a := by rw [e2] at q2; exact q2
          rw [q2]
          obtain ⟨its, rv, pl, _⟩ := I.list (SqL.of ha)
          exact (rc_ls s1 r1 q1 pl.isList hu0).2
        | tup ys =>
          have e : b = false := by cases d1 <;> first | exact absurd s1 Bool.false_ne_true | exact (Option.some.inj h).symm
          subst e
          obtain ⟨a, vs, e2, ha, rs⟩ := r2
          have q2 : u2 = Value.ref a := by rw [e2] at q2; exact q2
          rw [q2]
          obtain ⟨its, rv, pl, _⟩ := I.tuple ha
          exact (rc_ts s1 r1 q1 pl hu0).2
        | dic _ _ => cases d1 <;> first | exact absurd s1 Bool.false_ne_true | exact (nonB (b := b) h).elim
        | frl _ => cases d1 <;> first | exact absurd s1 Bool.false_ne_true | exact (nonB (b := b) h).elim
        | _ => exact absurd rfl s2
    · cases d1 with
      | lst xs =>
        obtain ⟨a, vs, L', e1, ha, _, rs⟩ := r1
        have q1 : u1 = Value.ref a := by rw [e1] at q1; exact q1
        rw [q1]
        obtain ⟨its, rv, pl, _⟩ := I.list (SqL.of ha)
        cases d2 with
        | lst ys =>
          obtain ⟨a2, vs2, L2', e2, ha2, _, rs2⟩ := r2
          have q2 : u2 = Value.ref a2 := by rw [e2] at q2; exact q2
          rw [q2]
          exact rc_lists I hu0 (fun d1 d2 v1 v2 L1 L2 u1 u2 b e r1 r2 q1 q2 => (ih A.in1 d1 d2 v1 v2 L1 L2 u1 u2 b hu1 e r1 r2 q1 q2).2.1) (SqL.of ha) rs (SqL.of ha2) rs2 h fun z => same a e1 (by rw [z]; exact e2)
        | tup ys =>
          obtain ⟨a2, vs2, e2, ha2, rs2⟩ := r2
          have q2 : u2 = Value.ref a2 := by rw [e2] at q2; exact q2
          rw [q2]
          obtain ⟨its2, rv2, pl2, _⟩ := I.tuple ha2
          cases (Option.some.inj (show some false = some b from h))
          exact ⟨RcAt.list_tuple pl.isList pl2 hu0, EqAt.list_tuple pl.isList pl2 hu0, RcNeAt.list_tuple pl.isList pl2 hu0⟩
        | dic _ _ => exact (nonB (b := b) h).elim
        | frl _ => exact (nonB (b := b) h).elim
        | non => cases (Option.some.inj (show some false = some b from h)); exact (rc_ls (d := .non) rfl r2 q2 pl.isList hu0).1
        | bl x => cases (Option.some.inj (show some false = some b from h)); exact (rc_ls (d := .bl x) rfl r2 q2 pl.isList hu0).1
        | int x => cases (Option.some.inj (show some false = some b from h)); exact (rc_ls (d := .int x) rfl r2 q2 pl.isList hu0).1
        | str x => cases (Option.some.inj (show some false = some b from h)); exact (rc_ls (d := .str x) rfl r2 q2 pl.isList hu0).1
      | tup xs =>
        obtain ⟨a, vs, e1, ha, rs⟩ := r1
        have q1 : u1 = Value.ref a := by rw [e1] at q1; exact q1
        rw [q1]
        obtain ⟨its, rv, pl, _⟩ := I.tuple ha
        cases d2 with
        | tup ys =>
          obtain ⟨a2, vs2, e2, ha2, rs2⟩ := r2
          have q2 : u2 = Value.ref a2 := by rw [e2] at q2; exact q2
          rw [q2]
          obtain ⟨its2, rv2, pl2, _⟩ := I.tuple ha2
          have h : (eqZip (eqF n) xs ys).map (fun b => b && xs.length == ys.length) = some b := h
          have l1 : its.length = xs.length := by rw [<- rv.length, rs.length]
          have l2 : its2.length = ys.length := by rw [<- rv2.length, rs2.length]
          cases hz : eqZip (eqF n) xs ys with
          | none => rw [hz] at h; cases h
          | some b' =>
            rw [hz] at h
            have h : (b' && xs.length == ys.length) = b := Option.some.inj h
            have e1' := e1
            have e2' := e2
            obtain ⟨e1, e2⟩ := eqZip_all hz
            have he : ∀ j (h1 : j < its.toArray.size) (h2 : j < its2.toArray.size), EqAt A.in1 s its.toArray[j] its2.toArray[j] (eqAtJ (eqF n) xs ys j) := fun j h1 h2 => by
              have h1' : j < xs.length := by simpa [l1] using h1
              have h2' : j < ys.length := by simpa [l2] using h2
              obtain ⟨w1, L3, g1, g2, _⟩ := rs.get (i := j) (d := xs[j]) (by simp [h1'])
              obtain ⟨w2, L4, g3, g4, _⟩ := rs2.get (i := j) (d := ys[j]) (by simp [h2'])
              obtain ⟨z1, k1, k2⟩ := rv.get g1
              obtain ⟨z2, k3, k4⟩ := rv2.get g3
              have m1 : its.toArray[j] = z1 := by
                have := (List.getElem?_eq_some_iff.mp k1).2
                simpa using this
              have m2 : its2.toArray[j] = z2 := by
                have := (List.getElem?_eq_some_iff.mp k3).2
                simpa using this
              rw [m1, m2]
              exact (ih A.in1 _ _ w1 w2 L3 L4 z1 z2 _ hu1 (e2 j _ _ (by simp [h1']) (by simp [h2'])) g2 g4 k2 k4).2.1
            have eb : b = ((List.range (min its.toArray.size its2.toArray.size)).all (eqAtJ (eqF n) xs ys) && its.toArray.size == its2.toArray.size) := by
              rw [<- h, e1]
              simp [l1, l2]
            have rc := RcAt.tuples pl pl2 hu0 he
            have rn := RcNeAt.tuples pl pl2 hu0 he
            rw [<- eb] at rc rn
            exact ⟨rc, eq_of_rc rc fun z => same a e1' (by rw [z]; exact e2'), rn⟩
        | lst ys =>
          obtain ⟨a2, vs2, L2', e2, ha2, _, rs2⟩ := r2
          have q2 : u2 = Value.ref a2 := by rw [e2] at q2; exact q2
          rw [q2]
          obtain ⟨its2, rv2, pl2, _⟩ := I.list (SqL.of ha2)
          cases (Option.some.inj (show some false = some b from h))
          exact ⟨RcAt.tuple_list pl pl2.isList hu0, EqAt.tuple_list pl pl2.isList hu0, RcNeAt.tuple_list pl pl2.isList hu0⟩
        | dic _ _ => exact (nonB (b := b) h).elim
        | frl _ => exact (nonB (b := b) h).elim
        | non => cases (Option.some.inj (show some false = some b from h)); exact (rc_ts (d := .non) rfl r2 q2 pl hu0).1
        | bl x => cases (Option.some.inj (show some false = some b from h)); exact (rc_ts (d := .bl x) rfl r2 q2 pl hu0).1
        | int x => cases (Option.some.inj (show some false = some b from h)); exact (rc_ts (d := .int x) rfl r2 q2 pl hu0).1
        | str x => cases (Option.some.inj (show some false = some b from h)); exact (rc_ts (d := .str x) rfl r2 q2 pl hu0).1
      | dic _ _ => cases d2 <;> exact (nonB (b := b) h).elim
      | frl xs =>
        cases d2 with
        | lst ys =>
          obtain ⟨a, vs, e1, ha, _, _, rs⟩ := r1
          have q1 : u1 = Value.ref a := by rw [e1] at q1; exact q1
          rw [q1]
          obtain ⟨a2, vs2, L2', e2, ha2, _, rs2⟩ := r2
          have q2 : u2 = Value.ref a2 := by rw [e2] at q2; exact q2
          rw [q2]
          exact rc_lists I hu0 (fun d1 d2 v1 v2 L1 L2 u1 u2 b e r1 r2 q1 q2 => (ih A.in1 d1 d2 v1 v2 L1 L2 u1 u2 b hu1 e r1 r2 q1 q2).2.1) ha.sq rs (SqL.of ha2) rs2 h fun z => same a e1 (by rw [z]; exact e2)
        | tup ys => exact (nonB (b := b) h).elim
        | dic _ _ => exact (nonB (b := b) h).elim
        | frl ys =>
          obtain ⟨a, vs, e1, ha, _, _, rs⟩ := r1
          have q1 : u1 = Value.ref a := by rw [e1] at q1; exact q1
          rw [q1]
          obtain ⟨a2, vs2, e2, ha2, _, _, rs2⟩ := r2
          have q2 : u2 = Value.ref a2 := by rw [e2] at q2; exact q2
          rw [q2]
          exact rc_lists I hu0 (fun d1 d2 v1 v2 L1 L2 u1 u2 b e r1 r2 q1 q2 => (ih A.in1 d1 d2 v1 v2 L1 L2 u1 u2 b hu1 e r1 r2 q1 q2).2.1) ha.sq rs ha2.sq rs2 h fun z => same a e1 (by rw [z]; exact e2)
        | non => exact (nonB (b := b) h).elim
        | bl x => exact (nonB (b := b) h).elim
        | int x => exact (nonB (b := b) h).elim
        | str x => exact (nonB (b := b) h).elim
      | _ => exact absurd rfl s1
end L2
set_option maxRecDepth 100000
set_option maxHeartbeats 4000000
namespace L2
open PySem PySem.Spec PyProof.Rows
theorem imms_nil {K : PySem.W.Frag} {H : Hp} {ds : List D} {vs : List V} {L : List Addr} (r : Reps K H ds vs L) (h : D.imms ds = true) : Reps K H ds vs [] := by
  have := Reps.imm ds vs L r h
  subst this
  exact r
theorem new_lst {K : PySem.W.Frag} {H : Hp} {ds : List D} {vs : List V} {p : Addr} {Q : VK} (r : Reps K H ds vs []) (hp : H p = none) (q : ∀ v H' L, Same H H' -> Rep K H' (.lst ds) v L -> L.Nodup -> (∀ a ∈ L, H a = none) -> Q v H') : Q (.ref p) (upd H p (.lst vs)) :=
  q _ _ [p] (Same.new hp) ⟨p, vs, [], rfl, upd_same, rfl, r.same (Same.new hp)⟩ (by simp) (fun a ha => by rw [List.mem_singleton.mp ha]; exact hp)
noncomputable def addD : D -> D -> R D
  | .int i, .int j => .ok (.int (i + j))
  | .str x, .str y => if x.length + y.length <= sizeLine then .ok (.str (x ++ y)) else .bad
  | .lst xs, .lst ys => if D.imms xs = true /\ D.imms ys = true /\ xs.length + ys.length <= sizeLine then .ok (.lst (xs ++ ys)) else .bad
  | .tup xs, .tup ys => if D.imms xs = true /\ D.imms ys = true /\ xs ≠ [] /\ xs.length + ys.length <= sizeLine then .ok (.tup (xs ++ ys)) else .bad
  | _, _ => .bad
noncomputable def rAddA (K : PySem.W.Frag) : R2 := fun x y H Q => (∃ i j, x = .int i /\ y = .int j /\ Q (.int (i + j)) H) \/ (∃ i j, x = .str i /\ y = .str j /\ i.length + j.length <= sizeLine /\ Q (.str (i ++ j)) H) \/ rCat x y H Q \/ rCatT K x y H Q
theorem op_addA {X : Cx} : OpR X (binaryOp .Add) (rAddA X.K) := (OpR.or op_add (OpR.or op_add_str (OpR.or op_cat op_catT)))
theorem B_add {K : PySem.W.Frag} : OpB K (rAddA K) addD := by
  rintro H x y dx dy Lx Ly Q rx ry ⟨d, hg, q⟩
  unfold addD at hg
  split at hg
  · cases hg
    exact .inl ⟨_, _, rx.1, ry.1, q _ H [] (Same.refl H) ⟨rfl, rfl⟩ (by simp) (fun a ha => nomatch ha)⟩
  · split at hg
    · rename_i hz
      cases hg
      exact .inr (.inl ⟨_, _, rx.1, ry.1, hz, q _ H [] (Same.refl H) ⟨rfl, rfl⟩ (by simp) (fun a ha => nomatch ha)⟩)
    · cases hg
  · rename_i xs ys
    split at hg
    · rename_i hz
      cases hg
      obtain ⟨a, vs, L1, rfl, ha, _, rs⟩ := rx
      obtain ⟨b, ws, L2, rfl, hb, _, qs⟩ := ry
      refine .inr (.inr (.inl ⟨a, b, vs, ws, rfl, rfl, ha, hb, by rw [rs.length, qs.length]; exact hz.2.2, fun p hp => new_lst (ds := xs ++ ys) ?_ hp q⟩))
      exact Reps.append (imms_nil rs hz.1) (imms_nil qs hz.2.1)
    · cases hg
  · rename_i xs ys
    split at hg
    · rename_i hz
      cases hg
      obtain ⟨a, vs, rfl, ha, rs⟩ := rx
      obtain ⟨b, ws, rfl, hb, qs⟩ := ry
      have hne : vs ≠ [] := fun z => hz.2.2.1 (by have := rs.length; rw [z] at this; exact List.length_eq_zero_iff.mp this.symm)
      have rr := Reps.append (imms_nil rs hz.1) (imms_nil qs hz.2.1)
      refine .inr (.inr (.inr ⟨a, b, vs, ws, rfl, rfl, ha, hb, hne, by rw [rs.length, qs.length]; exact hz.2.2.2, fun z => ?_, fun _ p hp => ?_⟩))
      · subst z
        rw [List.append_nil] at rr
        exact q _ H [] (Same.refl H) ⟨a, vs, rfl, ha, rr⟩ (by simp) (fun a ha => nomatch ha)
      · exact q _ _ [] (Same.new hp) ⟨p, vs ++ ws, rfl, SqT.of upd_same, rr.same (Same.new hp)⟩ (by simp) (fun a ha => nomatch ha)
    · cases hg
  · cases hg
theorem N_add : NoErr addD := fun x y n h => by
  unfold addD at h
  split at h
  · cases h
  · split at h <;> cases h
  · split at h <;> cases h
  · split at h <;> cases h
  · cases h
noncomputable def intD (C : Int -> Int -> Bool) (g : Int -> Int -> D) : D -> D -> R D
  | .int i, .int j => if C i j = true then .ok (g i j) else .bad
  | _, _ => .bad
theorem N_int {C : Int -> Int -> Bool} {g : Int -> Int -> D} : NoErr (intD C g) := fun x y n h => by
  unfold intD at h
  split at h
  · split at h <;> cases h
  · cases h
noncomputable def VofS : D -> V
  | .int i => .int i
  | .bl b => .bl b
  | .str x => .str x
  | _ => .non
theorem VofS_rep {K : PySem.W.Frag} {H : Hp} : ∀ {d : D}, d.isS = true -> Rep K H d (VofS d) []
  | .non, _ => ⟨rfl, rfl⟩
  | .bl _, _ => ⟨rfl, rfl⟩
  | .int _, _ => ⟨rfl, rfl⟩
  | .str _, _ => ⟨rfl, rfl⟩
  | .tup _, h => nomatch h
  | .lst _, h => nomatch h
  | .dic _ _, h => nomatch h
  | .frl _, h => nomatch h
theorem B_int {K : PySem.W.Frag} {C : Int -> Int -> Bool} {g : Int -> Int -> D} {P : Int -> Int -> Prop} {gv : Int -> Int -> V} (hP : ∀ i j, C i j = true -> P i j) (hs : ∀ i j, (g i j).isS = true) (hv : ∀ i j, VofS (g i j) = gv i j) : OpB K (rI P gv) (intD C g) := by
  rintro H x y dx dy Lx Ly Q rx ry ⟨d, hg, q⟩
  unfold intD at hg
  split at hg
  · split at hg
    · rename_i i j hz
      cases hg
      refine ⟨i, j, rx.1, ry.1, hP i j hz, ?_⟩
      rw [<- hv]
      exact q _ H [] (Same.refl H) (VofS_rep (hs i j)) (by simp) (fun a ha => nomatch ha)
    · cases hg
  · cases hg
theorem B_int0 {K : PySem.W.Frag} {g : Int -> Int -> D} {gv : Int -> Int -> V} (hs : ∀ i j, (g i j).isS = true) (hv : ∀ i j, VofS (g i j) = gv i j) : OpB K (rI0 gv) (intD (fun _ _ => true) g) := by
  rintro H x y dx dy Lx Ly Q rx ry ⟨d, hg, q⟩
  unfold intD at hg
  split at hg
  · rw [if_pos rfl] at hg
    rename_i i j
    cases hg
    refine ⟨i, j, rx.1, ry.1, ?_⟩
    rw [<- hv]
    exact q _ H [] (Same.refl H) (VofS_rep (hs i j)) (by simp) (fun a ha => nomatch ha)
  · cases hg
noncomputable abbrev subD : D -> D -> R D := intD (fun _ _ => true) fun i j => .int (i - j)
noncomputable abbrev fdivD : D -> D -> R D := intD (fun _ j => decide (0 < j) && decide (j < 1073741824)) fun i j => .int (i / j)
noncomputable abbrev modD : D -> D -> R D := intD (fun _ j => decide (0 < j)) fun i j => .int (i % j)
noncomputable abbrev ltD : D -> D -> R D := intD (fun _ _ => true) fun i j => .bl (decide (i < j))
noncomputable abbrev leD : D -> D -> R D := intD (fun _ _ => true) fun i j => .bl (decide (i <= j))
noncomputable abbrev gtD : D -> D -> R D := intD (fun _ _ => true) fun i j => .bl (decide (j < i))
noncomputable abbrev geD : D -> D -> R D := intD (fun _ _ => true) fun i j => .bl (decide (j <= i))
theorem B_sub {K : PySem.W.Frag} : OpB K (rI0 fun i j => .int (i - j)) subD := B_int0 (fun _ _ => rfl) fun _ _ => rfl
theorem B_fdiv {K : PySem.W.Frag} : OpB K (rI CDiv fun i j => .int (i / j)) fdivD := B_int (fun i j h => by simp only [Bool.and_eq_true, decide_eq_true_eq] at h; exact h) (fun _ _ => rfl) fun _ _ => rfl
theorem B_mod {K : PySem.W.Frag} : OpB K (rI (fun _ j => 0 < j) fun i j => .int (i % j)) modD := B_int (fun i j h => by simpa using h) (fun _ _ => rfl) fun _ _ => rfl
theorem B_lt {K : PySem.W.Frag} : OpB K (rI0 fun i j => .bl (decide (i < j))) ltD := B_int0 (fun _ _ => rfl) fun _ _ => rfl
theorem B_le {K : PySem.W.Frag} : OpB K (rI0 fun i j => .bl (decide (i <= j))) leD := B_int0 (fun _ _ => rfl) fun _ _ => rfl
theorem B_gt {K : PySem.W.Frag} : OpB K (rI0 fun i j => .bl (decide (j < i))) gtD := B_int0 (fun _ _ => rfl) fun _ _ => rfl
theorem B_ge {K : PySem.W.Frag} : OpB K (rI0 fun i j => .bl (decide (j <= i))) geD := B_int0 (fun _ _ => rfl) fun _ _ => rfl
noncomputable def mulD : D -> D -> R D
  | .int i, .int j => if ((decide (-(2 ^ 64) < i) && decide (i < 2 ^ 64)) || (decide (-(2 ^ 64) < j) && decide (j < 2 ^ 64))) = true then .ok (.int (i * j)) else .bad
  | .lst xs, .int k => if D.imms xs = true /\ -(2 ^ 63) <= k /\ k < 2 ^ 63 /\ xs.length * k.toNat <= sizeLine then .ok (.lst (List.replicate k.toNat xs).flatten) else .bad
  | _, _ => .bad
theorem N_mul : NoErr mulD := fun x y n h => by
  unfold mulD at h
  split at h
  · split at h <;> cases h
  · split at h <;> cases h
  · cases h
theorem op_mulA {X : Cx} : OpR X (binaryOp .Mult) (fun x y H Q => rI CMul (fun i j => .int (i * j)) x y H Q \/ rRep x y H Q) := OpR.or op_mul op_rep
theorem Reps.rep {K : PySem.W.Frag} {H : Hp} {ds : List D} {vs : List V} (r : Reps K H ds vs []) : ∀ k : Nat, Reps K H (List.replicate k ds).flatten (List.replicate k vs).flatten []
  | 0 => by simpa using Reps.nil
  | k + 1 => by
    rw [List.replicate_succ, List.replicate_succ, List.flatten_cons, List.flatten_cons]
    exact Reps.append r (Reps.rep r k)
theorem B_mul {K : PySem.W.Frag} : OpB K (fun x y H Q => rI CMul (fun i j => .int (i * j)) x y H Q \/ rRep x y H Q) mulD := by
  rintro H x y dx dy Lx Ly Q rx ry ⟨d, hg, q⟩
  unfold mulD at hg
  split at hg
  · split at hg
    · rename_i i j hz
      cases hg
      refine .inl ⟨i, j, rx.1, ry.1, ?_, q _ H [] (Same.refl H) ⟨rfl, rfl⟩ (by simp) (fun a ha => nomatch ha)⟩
      simpa [CMul] using hz
    · cases hg
  · split at hg
    · rename_i xs k hz
      cases hg
      obtain ⟨a, vs, L1, rfl, ha, _, rs⟩ := rx
      exact .inr ⟨a, k, vs, rfl, ry.1, ha, hz.2.1, hz.2.2.1, by rw [rs.length]; exact hz.2.2.2, fun p hp => new_lst (Reps.rep (imms_nil rs hz.1) _) hp q⟩
    · cases hg
  · cases hg
noncomputable def rEqA (K : PySem.W.Frag) (neg : Bool) : R2 := fun x y H Q => ∃ dx dy Lx Ly b, Rep K H dx x Lx /\ Rep K H dy y Ly /\ eqF 12 dx dy = some b /\ Q (.bl (if neg = true then !b else b)) H
theorem op_eqA {X : Cx} (hu : X.A.units + 12 < cLine) : OpR X (compareOp .Eq) (rEqA X.K false) := by
  rintro pins s σ H x y v u Q I rx ry ⟨dx, dy, Lx, Ly, b, r1, r2, he, q⟩
  exact (rc_eq I 12 X.A dx dy x y Lx Ly v u b hu he r1 r2 rx ry).1 X.prog X.w X.xe _ ⟨.bl b, H, I, rfl, q⟩
theorem op_neA {X : Cx} (hu : X.A.units + 12 < cLine) : OpR X (compareOp .NotEq) (rEqA X.K true) := by
  rintro pins s σ H x y v u Q I rx ry ⟨dx, dy, Lx, Ly, b, r1, r2, he, q⟩
  exact (rc_eq I 12 X.A dx dy x y Lx Ly v u b hu he r1 r2 rx ry).2.2 X.prog X.w X.xe _ ⟨.bl (!b), H, I, rfl, q⟩
noncomputable def lookD : List Key -> List D -> Key -> Option D
  | k :: ks, d :: ds, j => if k = j then some d else lookD ks ds j
  | _, _, _ => none
noncomputable def hitsD (js : List Key) (ys : List D) : List Key -> List D -> Option Bool
  | k :: ks, x :: xs => match lookD js ys k with
    | none => some false
    | some y => if (x.isS && y.isS) = true then (hitsD js ys ks xs).map (eqS x y && ·) else none
  | _, _ => some true
theorem look_some {K : PySem.W.Frag} {H : Hp} : ∀ {kvs : List (Key × V)} {ds : List D} {L : List Addr} {k : Key} {d : D}, Reps K H ds (kvs.map (·.2)) L -> lookD (kvs.map (·.1)) ds k = some d -> ∃ v L1, valV kvs k = some v /\ Rep K H d v L1 /\ List.Sublist L1 L
  | [], ds, _, k, d, r, h => by cases ds <;> cases h
  | p :: kvs, [], _, k, d, r, h => by obtain ⟨e, _⟩ := r; cases e
  | p :: kvs, d0 :: ds, _, k, d, hq5, h => by
    obtain ⟨v, vs', L1, L2, e1, e2, r1, r2⟩ := hq5
    subst e2
    rw [List.map_cons] at e1
    cases e1
    rw [List.map_cons] at h
    unfold lookD at h
    by_cases hk : p.1 = k
    · rw [if_pos hk] at h
      cases h
      exact ⟨p.2, L1, valV_pos hk, r1, List.sublist_append_left _ _⟩
    · rw [if_neg hk] at h
      obtain ⟨v, L', a, b, c⟩ := look_some r2 h
      exact ⟨v, L', by rw [valV_neg hk]; exact a, b, c.trans (List.sublist_append_right _ _)⟩
theorem look_none {K : PySem.W.Frag} {H : Hp} : ∀ {kvs : List (Key × V)} {ds : List D} {L : List Addr} {k : Key}, Reps K H ds (kvs.map (·.2)) L -> lookD (kvs.map (·.1)) ds k = none -> valV kvs k = none
  | [], ds, _, k, r, h => rfl
  | p :: kvs, [], _, k, r, h => by obtain ⟨e, _⟩ := r; cases e
  | p :: kvs, d0 :: ds, _, k, hq4, h => by
    obtain ⟨v, vs', L1, L2, e1, e2, r1, r2⟩ := hq4
    subst e2
    rw [List.map_cons] at e1
    cases e1
    rw [List.map_cons] at h
    unfold lookD at h
    by_cases hk : p.1 = k
    · rw [if_pos hk] at h; cases h
    · rw [if_neg hk] at h
      rw [valV_neg hk]
      exact look_none r2 h
theorem hits_of {K : PySem.W.Frag} {H : Hp} {A : Around} {s : Shared} {kvb : List (Key × V)} {vb : List (Key × Value)} {ys : List D} {Lb : List Addr} (rb : KV kvb vb) (qb : Reps K H ys (kvb.map (·.2)) Lb) :
    ∀ {kva : List (Key × V)} {va : List (Key × Value)} {xs : List D} {La : List Addr} {b : Bool}, KV kva va -> Reps K H xs (kva.map (·.2)) La -> hitsD (kvb.map (·.1)) ys (kva.map (·.1)) xs = some b -> PySem.W.KeqHits A s vb va b := by
  intro kva va xs La b ra
  induction ra generalizing xs La b with
  | nil =>
    intro r h
    cases xs with
    | nil => cases h; exact .nil
    | cons _ _ => obtain ⟨_, _, _, _, e, _⟩ := r; cases e
  | @cons p q l1 l2 h1 _ ih =>
    intro r h
    cases xs with
    | nil => obtain ⟨e, _⟩ := r; cases e
    | cons x xs =>
      obtain ⟨v, vs', L1, L2, e1, e2, r1, r2⟩ := r
      rw [List.map_cons] at e1
      cases e1
      rw [List.map_cons] at h
      unfold hitsD at h
      have ek : q.1 = p.1 := h1.1.symm
      have hv := rb.val p.1
      cases hl : lookD (kvb.map (·.1)) ys p.1 with
      | none =>
        rw [hl] at h
        cases h
        rw [look_none qb hl] at hv
        have : valueAt vb q.1 = none := by
          rw [ek]
          cases hq : valueAt vb p.1 with
          | none => rfl
          | some y => rw [hq] at hv; exact hv.elim
        exact PySem.W.KeqHits.miss (k := q.1) (v := q.2) this
      | some y =>
        rw [hl] at h
        dsimp only at h
        split at h
        · rename_i hs
          rw [Bool.and_eq_true] at hs
          cases hr : hitsD (kvb.map (·.1)) ys (l1.map (·.1)) xs with
          | none => rw [hr] at h; cases h
          | some b' =>
            rw [hr] at h
            have h : (eqS x y && b') = b := Option.some.inj h
            obtain ⟨w, Lw, g1, g2, _⟩ := look_some qb hl
            rw [g1] at hv
            obtain ⟨yv, hy, ry⟩ := RelO.some_of (v := w) (o := valueAt vb p.1) hv
            rw [<- h]
            exact PySem.W.KeqHits.hit (k := q.1) (v := q.2) (by rw [ek]; exact hy) (rc_scal (A := A) (s := s) hs.1 hs.2 r1 g2 h1.2 ry).2.1 (ih r2 hr)
        · cases h
noncomputable def rEqDc (K : PySem.W.Frag) (neg : Bool) : R2 := fun x y H Q => ∃ a b kva kvb xs ys La Lb r, x = .ref a /\ y = .ref b /\ Rd H a (.dK kva) /\ Rd H b (.dK kvb) /\ Reps K H xs (kva.map (·.2)) La /\ Reps K H ys (kvb.map (·.2)) Lb /\
  (kva.length = kvb.length -> hitsD (kvb.map (·.1)) ys (kva.map (·.1)) xs = some r) /\ Q (.bl (if neg = true then !(kva.length == kvb.length && r) else (kva.length == kvb.length && r))) H
theorem op_eqDc {X : Cx} (hu : X.A.units < cLine) : OpR X (compareOp .Eq) (rEqDc X.K false) := by
  rintro pins s σ H x y v u Q I rx ry ⟨a, b, kva, kvb, xs, ys, La, Lb, r, e1, e2, ha, hb, qa, qb, hh, q⟩
  subst e1 e2
  obtain rfl : v = Value.ref a := rx
  obtain rfl : u = Value.ref b := ry
  obtain ⟨_, da, va, ra, oa⟩ := dk_rd I.hok ha
  obtain ⟨_, db, vb, rb, ob⟩ := dk_rd I.hok hb
  have l1 : va.length = kva.length := ra.length.symm
  have l2 : vb.length = kvb.length := rb.length.symm
  refine PySem.W.keq_eq (r := r) da db oa ob hu (fun e => hits_of rb qb ra qa (hh (by lia))) ?_
  rw [l1, l2]
  exact ⟨.bl _, H, I, rfl, q⟩
theorem op_neDc {X : Cx} (hu : X.A.units < cLine) : OpR X (compareOp .NotEq) (rEqDc X.K true) := by
  rintro pins s σ H x y v u Q I rx ry ⟨a, b, kva, kvb, xs, ys, La, Lb, r, e1, e2, ha, hb, qa, qb, hh, q⟩
  subst e1 e2
  obtain rfl : v = Value.ref a := rx
  obtain rfl : u = Value.ref b := ry
  obtain ⟨_, da, va, ra, oa⟩ := dk_rd I.hok ha
  obtain ⟨_, db, vb, rb, ob⟩ := dk_rd I.hok hb
  have l1 : va.length = kva.length := ra.length.symm
  have l2 : vb.length = kvb.length := rb.length.symm
  refine PySem.W.keq_ne (r := r) da db oa ob hu (fun e => hits_of rb qb ra qa (hh (by lia))) ?_
  rw [l1, l2]
  exact ⟨.bl _, H, I, rfl, q⟩
noncomputable def eqDic (ks : List Key) (xs : List D) (js : List Key) (ys : List D) : Option Bool := if ks.length = js.length then hitsD js ys ks xs else some false
noncomputable def eqR (neg : Bool) : D -> D -> R D
  | .dic ks xs, .dic js ys => match eqDic ks xs js ys with
    | some b => .ok (.bl (if neg = true then !b else b))
    | none => .bad
  | x, y => match eqF 12 x y with
    | some b => .ok (.bl (if neg = true then !b else b))
    | none => .bad
theorem N_eq {neg : Bool} : NoErr (eqR neg) := fun x y n h => by
  unfold eqR at h
  split at h
  · split at h <;> cases h
  · split at h <;> cases h
theorem B_eq {K : PySem.W.Frag} {neg : Bool} : OpB K (fun x y H Q => rEqA K neg x y H Q \/ rEqDc K neg x y H Q) (eqR neg) := by
  rintro H x y dx dy Lx Ly Q rx ry ⟨d, hg, q⟩
  unfold eqR at hg
  split at hg
  · rename_i ks xs js ys
    obtain ⟨a, kva, L1, rfl, ha, _, hk, _, rs⟩ := rx
    obtain ⟨b, kvb, L2, rfl, hb, _, hj, _, qs⟩ := ry
    have l1 : ks.length = kva.length := by rw [<- hk, List.length_map]
    have l2 : js.length = kvb.length := by rw [<- hj, List.length_map]
    unfold eqDic at hg
    by_cases hl : ks.length = js.length
    · rw [if_pos hl] at hg
      cases hr : hitsD js ys ks xs with
      | none => rw [hr] at hg; cases hg
      | some r =>
        rw [hr] at hg
        cases hg
        refine .inr ⟨a, b, kva, kvb, xs, ys, _, _, r, rfl, rfl, .inl ha, .inl hb, rs, qs, fun _ => by rw [hk, hj]; exact hr, ?_⟩
        have e : (kva.length == kvb.length && r) = r := by
          have : (kva.length == kvb.length) = true := by simp; lia
          rw [this, Bool.true_and]
        rw [e]
        exact q _ H [] (Same.refl H) ⟨rfl, rfl⟩ (by simp) (fun a ha => nomatch ha)
    · rw [if_neg hl] at hg
      cases hg
      refine .inr ⟨a, b, kva, kvb, xs, ys, _, _, false, rfl, rfl, .inl ha, .inl hb, rs, qs, fun z => absurd z (by lia), ?_⟩
      rw [Bool.and_false]
      exact q _ H [] (Same.refl H) ⟨rfl, rfl⟩ (by simp) (fun a ha => nomatch ha)
  · split at hg
    · rename_i b hb
      cases hg
      exact .inl ⟨dx, dy, Lx, Ly, b, rx, ry, hb, q _ H [] (Same.refl H) ⟨rfl, rfl⟩ (by simp) (fun a ha => nomatch ha)⟩
    · cases hg
theorem op_eqAll {X : Cx} (hu : X.A.units + 12 < cLine) : OpR X (compareOp .Eq) (fun x y H Q => rEqA X.K false x y H Q \/ rEqDc X.K false x y H Q) := OpR.or (op_eqA hu) (op_eqDc (by lia))
theorem op_neAll {X : Cx} (hu : X.A.units + 12 < cLine) : OpR X (compareOp .NotEq) (fun x y H Q => rEqA X.K true x y H Q \/ rEqDc X.K true x y H Q) := OpR.or (op_neA hu) (op_neDc (by lia))
noncomputable def isNonD : D -> Bool
  | .non => true
  | _ => false
noncomputable def isN (neg : Bool) : D -> D -> R D
  | x, .non => .ok (.bl (if neg = true then !isNonD x else isNonD x))
  | _, _ => .bad
theorem N_isN {neg : Bool} : NoErr (isN neg) := fun x y n h => by
  unfold isN at h
  split at h <;> cases h
theorem rep_non {K : PySem.W.Frag} {H : Hp} {d : D} {v : V} {L : List Addr} (r : Rep K H d v L) : decide (v = V.non) = isNonD d := by
  cases d with
  | non => obtain ⟨rfl, _⟩ := r; rfl
  | bl b => obtain ⟨rfl, _⟩ := r; rfl
  | int b => obtain ⟨rfl, _⟩ := r; rfl
  | str b => obtain ⟨rfl, _⟩ := r; rfl
  | tup _ => obtain ⟨_, _, rfl, _⟩ := r; rfl
  | lst _ => obtain ⟨_, _, _, rfl, _⟩ := r; rfl
  | dic _ _ => obtain ⟨_, _, _, rfl, _⟩ := r; rfl
  | frl _ => obtain ⟨_, _, rfl, _⟩ := r; rfl
theorem B_isN {K : PySem.W.Frag} : OpB K (fun x y H Q => y = .non /\ Q (.bl (decide (x = .non))) H) (isN false) := by
  rintro H x y dx dy Lx Ly Q rx ry ⟨d, hg, q⟩
  unfold isN at hg
  split at hg
  · cases hg
    refine ⟨ry.1, ?_⟩
    rw [rep_non rx]
    exact q _ H [] (Same.refl H) ⟨rfl, rfl⟩ (by simp) (fun a ha => nomatch ha)
  · cases hg
end L2
set_option maxRecDepth 100000
set_option maxHeartbeats 4000000
namespace L2
open PySem PySem.Spec PyProof.Rows
noncomputable def keyOf : D -> Option Key
  | .int i => some (.inl i)
  | .str x => some (.inr x)
  | .non => some .non
  | _ => none
noncomputable def ixD : D -> D -> R D
  | .lst ds, .int i => match atI ds i with
    | some d => .ok d
    | none => .bad
  | .tup ds, .int i => match atI ds i with
    | some d => .ok d
    | none => .bad
  | .frl ds, .int i => match atI ds i with
    | some d => .ok d
    | none => .bad
  | .str x, .int i => if x.length <= sizeLine then (match atI x.cps.toList i with
    | some c => .ok (.str ⟨#[c]⟩)
    | none => .bad) else .bad
  | .dic ks ds, k => match keyOf k with
    | some k => (match lookD ks ds k with
      | some d => .ok d
      | none => .bad)
    | none => .bad
  | _, _ => .bad
theorem N_ix : NoErr ixD := fun x y n h => by
  unfold ixD at h
  split at h
  · split at h <;> cases h
  · split at h <;> cases h
  · split at h <;> cases h
  · split at h
    · split at h <;> cases h
    · cases h
  · split at h
    · split at h <;> cases h
    · cases h
  · cases h
theorem keyOf_rep {K : PySem.W.Frag} {H : Hp} {d : D} {v : V} {L : List Addr} {k : Key} (h : keyOf d = some k) (r : Rep K H d v L) : v = kV k := by
  cases d with
  | non => cases h; exact r.1
  | int i => cases h; exact r.1
  | str x => cases h; exact r.1
  | _ => cases h
theorem Reps.atI {K : PySem.W.Frag} {H : Hp} {ds : List D} {vs : List V} {L : List Addr} {i : Int} {d : D} (r : Reps K H ds vs L) (h : L2.atI ds i = some d) : ∃ v L1, L2.atI vs i = some v /\ Rep K H d v L1 /\ List.Sublist L1 L := by
  unfold L2.atI at h ⊢
  rw [r.length]
  cases e : ixN ds.length i with
  | none => rw [e] at h; cases h
  | some j =>
    rw [e] at h
    obtain ⟨v, L1, a, b, c⟩ := r.get h
    exact ⟨v, L1, a, b, c⟩
section
variable {X : Cx} {E : XK} {Γ : List Cl} {e a b : Expr} {es : List Expr} {t ta tb : Tn -> R D} {u : Tn -> R (List D)} {c ca cb : Rc} {pos p p2 : Pos}
theorem RcOk.sub {O : Addr -> Prop} {H : Hp} {L L' : List Addr} (h : RcOk c O H L) (s : List.Sublist L' L) : RcOk c O H L' := by
  cases c with
  | fresh => exact ⟨h.1.sublist s, fun a ha => h.2 a (s.subset ha)⟩
  | shr => exact fun a ha => h a (s.subset ha)
  | bor => trivial
theorem post.bind2 {K : PySem.W.Frag} {O : Addr -> Prop} {H H1 : Hp} {Q Q' : VK} {r : R D} {f : D -> R D} (h : post K E O c H Q (r.bind f)) (s : Same H H1) (hf : ∀ d, r = .ok d -> post K E O c H Q (f d) -> ∀ v H' L, Same H1 H' -> Rep K H' d v L -> RcOk ca O H1 L -> Q' v H') : post K E O ca H1 Q' r := by
  cases r with
  | ok d => exact hf d rfl h
  | err n => exact fun C H' e s' => h C H' e (s.trans s')
  | bad => exact h
theorem ix_seq_of {K : PySem.W.Frag} {H : Hp} {dx dy d : D} {x y : V} {Lx Ly : List Addr} {Q : VK} (hn : ∀ ks ds, dx ≠ .dic ks ds) (h : ixD dx dy = .ok d) (rx : Rep K H dx x Lx) (ry : Rep K H dy y Ly) (q : ∀ v L1, Rep K H d v L1 -> List.Sublist L1 Lx -> Q v H) : rIx K x y H Q := by
  unfold ixD at h
  split at h
  · split at h
    · rename_i hd
      cases h
      obtain ⟨a, vs, L', rfl, ha, e, rs⟩ := rx
      subst e
      obtain ⟨v, L1, g1, g2, g3⟩ := rs.atI hd
      exact .inl ⟨a, vs, _, v, rfl, ry.1, SqL.of ha, g1, q v L1 g2 (g3.trans (List.sublist_cons_self _ _))⟩
    · cases h
  · split at h
    · rename_i hd
      cases h
      obtain ⟨a, vs, rfl, ha, rs⟩ := rx
      obtain ⟨v, L1, g1, g2, g3⟩ := rs.atI hd
      exact .inr (.inl ⟨a, vs, _, v, rfl, ry.1, ha, g1, q v L1 g2 g3⟩)
    · cases h
  · split at h
    · rename_i hd
      cases h
      obtain ⟨a, vs, rfl, ha, e, _, rs⟩ := rx
      subst e
      obtain ⟨v, L1, g1, g2, g3⟩ := rs.atI hd
      exact .inl ⟨a, vs, _, v, rfl, ry.1, ha.sq, g1, q v L1 g2 g3⟩
    · cases h
  · split at h
    · rename_i hz
      split at h
      · rename_i hd
        cases h
        exact .inr (.inr ⟨_, _, _, rx.1, ry.1, hz, hd, q _ [] ⟨rfl, rfl⟩ (List.nil_sublist _)⟩)
      · cases h
    · cases h
  · rename_i ks ds
    exact absurd rfl (hn _ _)
  · cases h
theorem me_ix (hu : X.A.units + 1 < cLine) (ha : ME X E Γ a ta ca) (hb : ME X E Γ b tb cb) (hs : autoParam (PlainIx b) L2.au6._auto_1) : ME X E Γ (.Subscript a b pos) (eBin ixD ta tb) ca := by
  obtain ⟨te, p, q⟩ := ha
  obtain ⟨te', p', q'⟩ := hb
  refine ⟨fun σ H Q => tOp (rIx X.K) te te' σ H Q \/ tDGet te te' σ H Q, fun pins s σ H Q I z => ?_, fun O σ H τ Q ok h => ?_⟩
  · rcases z with z | z
    · exact pe_ix ix_seq p p' hs pins s σ H Q I z
    · exact pe_dget hu p p' hs pins s σ H Q I z
  · unfold eBin at h
    by_cases hd : ∃ ks ds, ta τ = .ok (.dic ks ds)
    · obtain ⟨ks, ds, hd⟩ := hd
      refine .inr (q O σ H τ _ ok (post.bind h fun dx hx h x H1 Lx s1 rx kx => ?_))
      rw [hd] at hx
      cases hx
      refine q' O σ H1 τ _ (ok.same s1) (post.bind2 h s1 fun dy _ h y H2 Ly s2 ry _ => ?_)
      have h : post X.K E O ca H Q (match keyOf dy with
        | some k => (match lookD ks ds k with
          | some d => .ok d
          | none => .bad)
        | none => .bad) := h
      cases hk : keyOf dy with
      | none => rw [hk] at h; exact h.elim
      | some k =>
        rw [hk] at h
        dsimp only at h
        cases hl : lookD ks ds k with
        | none => rw [hl] at h; exact h.elim
        | some d =>
          rw [hl] at h
          obtain ⟨ad, kvs, L', rfl, had, e2, hks, _, rs⟩ := rx
          subst e2
          rw [<- hks] at hl
          obtain ⟨v, L1, g1, g2, g3⟩ := look_some rs hl
          refine ⟨ad, v, rfl, ?_, h v H2 L1 (s1.trans s2) (g2.same s2) (kx.sub (g3.trans (List.sublist_cons_self _ _)))⟩
          rw [keyOf_rep hk ry, <- g1]
          exact DGet.k (s2 _ _ had)
    · refine .inl (q O σ H τ _ ok (post.bind h fun dx hx h x H1 Lx s1 rx kx => q' O σ H1 τ _ (ok.same s1) (post.bind2 h s1 fun dy _ h y H2 Ly s2 ry _ => ?_)))
      cases hg : ixD dx dy with
      | ok d =>
        rw [hg] at h
        exact ix_seq_of (fun ks ds z => hd ⟨ks, ds, by rw [hx, z]⟩) hg (rx.same s2) ry fun v L1 g1 g2 => h v H2 L1 (s1.trans s2) g1 (kx.sub g2)
      | err n => exact absurd hg (N_ix _ _ _)
      | bad => rw [hg] at h; exact h.elim
noncomputable def cutL {α : Type} (xs : List α) (lo hi : Option Int) : List α := (xs.drop (HT.sIx xs.length 0 lo)).take (HT.sIx xs.length xs.length hi - HT.sIx xs.length 0 lo)
noncomputable def slD (x : D) (lo hi : Option Int) : R D := match x with
  | .lst ds => if D.imms ds = true then .ok (.lst (cutL ds lo hi)) else .bad
  | .str z => if z.length <= sizeLine then .ok (.str (Txt.slice z lo hi)) else .bad
  | .tup ds => if D.imms ds = true /\ ¬ (HT.sIx ds.length 0 lo = 0 /\ HT.sIx ds.length ds.length hi = ds.length) then .ok (.tup (cutL ds lo hi)) else .bad
  | _ => .bad
noncomputable def eSl (t : Tn -> R D) (tl th : Tn -> R (Option Int)) : Tn -> R D := fun τ => (t τ).bind fun x => (tl τ).bind fun l => (th τ).bind fun h => slD x l h
noncomputable def oNone : Tn -> R (Option Int) := fun _ => .ok none
noncomputable def oSome (t : Tn -> R D) : Tn -> R (Option Int) := fun τ => (t τ).bind fun d => match d with
  | .int i => .ok (some i)
  | _ => .bad
noncomputable def postO (K : PySem.W.Frag) (E : XK) (H : Hp) (Q : Option Int -> Hp -> Prop) : R (Option Int) -> Prop
  | .ok o => ∀ H', Same H H' -> Q o H'
  | .err n => ∀ C H', ErrC K n C -> Same H H' -> E (.ref C) none H'
  | .bad => False
noncomputable def MO (X : Cx) (E : XK) (Γ : List Cl) (e : Option Expr) (t : Tn -> R (Option Int)) : Prop :=
  ∃ to, PO X e to /\ ∀ O σ H τ Q, EOk X.K Γ O H σ τ -> postO X.K E H Q (t τ) -> to σ H Q
theorem mo_none : MO X E Γ none oNone := ⟨tNoPart, po_none, fun O σ H τ Q ok h => h H (Same.refl H)⟩
theorem mo_some (h : ME X E Γ e t c) : MO X E Γ (some e) (oSome t) := by
  obtain ⟨te, p, q⟩ := h
  refine ⟨tPart te, po_some p, fun O σ H τ Q ok h => q O σ H τ _ ok ?_⟩
  unfold oSome at h
  cases ht : t τ with
  | ok d =>
    rw [ht, R.ok_bind] at h
    refine fun v H' L s r _ => ?_
    cases d with
    | int i => exact ⟨i, r.1, h H' s⟩
    | _ => exact h.elim
  | err n => rw [ht] at h; exact h
  | bad => rw [ht] at h; exact h
theorem Reps.cut {K : PySem.W.Frag} {H : Hp} {ds : List D} {vs : List V} {L : List Addr} (r : Reps K H ds vs L) (lo hi : Option Int) : ∃ L', Reps K H (cutL ds lo hi) (cutV vs lo hi) L' /\ List.Sublist L' L := by
  obtain ⟨L1, a, b⟩ := r.drop (HT.sIx ds.length 0 lo)
  obtain ⟨L2, c, d⟩ := a.take (HT.sIx ds.length ds.length hi - HT.sIx ds.length 0 lo)
  refine ⟨L2, ?_, d.trans b⟩
  unfold cutL cutV
  rw [r.length]
  exact c
theorem me_sl {lo hi : Option Expr} {tl th : Tn -> R (Option Int)} (he : ME X E Γ e t c) (hl : MO X E Γ lo tl) (hh : MO X E Γ hi th) : ME X E Γ (.Subscript e (.Slice lo hi none p2) pos) (eSl t tl th) .fresh := by
  obtain ⟨te, p, q⟩ := he
  obtain ⟨tl', pl, ql⟩ := hl
  obtain ⟨th', ph, qh⟩ := hh
  refine ⟨_, pe_slice (SlR.or sl_list (SlR.or sl_str sl_tup)) p pl ph, fun O σ H τ Q ok h => ?_⟩
  unfold eSl at h
  refine q O σ H τ _ ok (post.bind h fun dx hx h x H1 Lx s1 rx kx => ql O σ H1 τ _ (ok.same s1) ?_)
  cases h1 : tl τ with
  | err n => rw [h1] at h; exact fun C H' e s' => h C H' e (s1.trans s')
  | bad => rw [h1] at h; exact h
  | ok l =>
    rw [h1, R.ok_bind] at h
    refine fun H2 s2 => qh O σ H2 τ _ ((ok.same s1).same s2) ?_
    cases h2 : th τ with
    | err n => rw [h2] at h; exact fun C H' e s' => h C H' e ((s1.trans s2).trans s')
    | bad => rw [h2] at h; exact h
    | ok g =>
      rw [h2, R.ok_bind] at h
      refine fun H3 s3 => ?_
      have s03 := (s1.trans s2).trans s3
      have rx := (rx.same s2).same s3
      unfold slD at h
      cases dx with
      | lst ds =>
        dsimp only at h
        by_cases hz : D.imms ds = true
        · rw [if_pos hz] at h
          obtain ⟨a, vs, L', rfl, ha, _, rs⟩ := rx
          obtain ⟨L2, rc, _⟩ := (imms_nil rs hz).cut l g
          have e0 : L2 = [] := List.sublist_nil.mp ‹_›
          subst e0
          refine .inl ⟨a, vs, rfl, SqL.of ha, fun p hp => new_lst rc hp fun v H' L s r n1 n2 => h v H' L (s03.trans s) r ⟨n1, fun a ha => s03.non (n2 a ha)⟩⟩
        · rw [if_neg hz] at h; exact h.elim
      | str z =>
        dsimp only at h
        by_cases hz : z.length <= sizeLine
        · rw [if_pos hz] at h
          exact .inr (.inl ⟨z, rx.1, hz, h _ H3 [] s03 ⟨rfl, rfl⟩ RcOk.nil⟩)
        · rw [if_neg hz] at h; exact h.elim
      | tup ds =>
        dsimp only at h
        by_cases hz : D.imms ds = true /\ ¬ (HT.sIx ds.length 0 l = 0 /\ HT.sIx ds.length ds.length g = ds.length)
        · rw [if_pos hz] at h
          obtain ⟨a, vs, rfl, ha, rs⟩ := rx
          obtain ⟨L2, rc, _⟩ := (imms_nil rs hz.1).cut l g
          have e0 : L2 = [] := List.sublist_nil.mp ‹_›
          subst e0
          exact .inr (.inr ⟨a, vs, rfl, ha, by rw [rs.length]; exact hz.2, fun p hp => h _ _ [] (s03.trans (Same.new hp)) ⟨p, _, rfl, SqT.of upd_same, rc.same (Same.new hp)⟩ RcOk.nil⟩)
        · rw [if_neg hz] at h; exact h.elim
      | _ => exact h.elim
end
section
variable {X : Cx}
noncomputable def lenD : List D -> R D
  | [.lst ds] => .ok (.int ds.length)
  | [.tup ds] => .ok (.int ds.length)
  | [.frl ds] => .ok (.int ds.length)
  | [.str x] => if x.length <= sizeLine then .ok (.int x.length) else .bad
  | [.dic ks _] => .ok (.int ks.length)
  | _ => .bad
theorem N_len : NoErrL lenD := fun ds n h => by
  rcases ds with _ | ⟨d, _ | ⟨_, _⟩⟩
  · cases h
  · cases d with
    | str x =>
      replace h : (if x.length <= sizeLine then R.ok (D.int x.length) else .bad) = R.err n := h
      split at h <;> cases h
    | _ => cases h
  · cases d <;> cases h
theorem call_lenA : CallR X (.builtin "len") (fun xs H Q => (∃ p ys, xs = [.ref p] /\ (SqL X.K H p ys \/ SqT X.K H p ys) /\ Q (.int ys.length) H) \/ (∃ z, xs = [.str z] /\ z.length <= sizeLine /\ Q (.int z.length) H) \/ ∃ a kvs, xs = [V.ref a] /\ H a = some (.dK kvs) /\ Q (.int kvs.length) H) :=
  CallR.or call_len_seq (CallR.or call_len_str call_lenD)
theorem reps1 {K : PySem.W.Frag} {H : Hp} {d : D} {xs : List V} {L : List Addr} (r : Reps K H [d] xs L) : ∃ v, xs = [v] /\ Rep K H d v L := by
  obtain ⟨v, vs', L1, L2, e1, e2, r1, r2⟩ := r
  obtain ⟨rfl, rfl⟩ := r2
  rw [List.append_nil] at e2
  subst e2
  exact ⟨v, e1, r1⟩
theorem reps2 {K : PySem.W.Frag} {H : Hp} {d d' : D} {xs : List V} {L : List Addr} (r : Reps K H [d, d'] xs L) : ∃ v v' L1 L2, xs = [v, v'] /\ L = L1 ++ L2 /\ Rep K H d v L1 /\ Rep K H d' v' L2 := by
  obtain ⟨v, vs', L1, L2, e1, e2, r1, r2⟩ := r
  obtain ⟨v', rfl, r3⟩ := reps1 r2
  exact ⟨v, v', L1, L2, e1, e2, r1, r3⟩
theorem B_len {K : PySem.W.Frag} : ClB K (fun xs H Q => (∃ p ys, xs = [.ref p] /\ (SqL K H p ys \/ SqT K H p ys) /\ Q (.int ys.length) H) \/ (∃ z, xs = [.str z] /\ z.length <= sizeLine /\ Q (.int z.length) H) \/ ∃ a kvs, xs = [V.ref a] /\ H a = some (.dK kvs) /\ Q (.int kvs.length) H) lenD := by
  rintro H xs ds L Q r ⟨d, hg, q⟩
  have fin : ∀ n : Int, d = .int n -> Q (.int n) H := fun n e => q _ H [] (Same.refl H) (e ▸ ⟨rfl, rfl⟩) (by simp) (fun a ha => nomatch ha)
  rcases ds with _ | ⟨e, _ | ⟨_, _⟩⟩
  · cases hg
  · cases e with
    | lst es =>
      cases hg
      obtain ⟨v, rfl, a, vs, L', rfl, ha, _, rs⟩ := reps1 r
      exact .inl ⟨a, vs, rfl, .inl (SqL.of ha), fin _ (by rw [rs.length])⟩
    | tup es =>
      cases hg
      obtain ⟨v, rfl, a, vs, rfl, ha, rs⟩ := reps1 r
      exact .inl ⟨a, vs, rfl, .inr ha, fin _ (by rw [rs.length])⟩
    | frl es =>
      cases hg
      obtain ⟨v, rfl, a, vs, rfl, ha, _, _, rs⟩ := reps1 r
      exact .inl ⟨a, vs, rfl, .inl ha.sq, fin _ (by rw [rs.length])⟩
    | str x =>
      replace hg : (if x.length <= sizeLine then R.ok (D.int x.length) else .bad) = R.ok d := hg
      split at hg
      · rename_i hz
        cases hg
        obtain ⟨v, rfl, rfl, _⟩ := reps1 r
        exact .inr (.inl ⟨_, rfl, hz, fin _ rfl⟩)
      · cases hg
    | dic ks es =>
      cases hg
      obtain ⟨v, rfl, a, kvs, L', rfl, ha, _, hk, _⟩ := reps1 r
      exact .inr (.inr ⟨a, kvs, rfl, ha, fin _ (by rw [<- hk, List.length_map])⟩)
    | _ => cases hg
  · cases e <;> cases hg
noncomputable def intsOf : List D -> Option (List Int)
  | [] => some []
  | .int i :: ds => (intsOf ds).map (i :: ·)
  | _ => none
theorem intsOf_vals {K : PySem.W.Frag} {H : Hp} : ∀ {ds : List D} {vs : List V} {L : List Addr} {ns : List Int}, Reps K H ds vs L -> intsOf ds = some ns -> vs = ns.map V.int
  | [], _, _, ns, hq4, h => by
    obtain ⟨e, _⟩ := hq4
    subst e; cases h; rfl
  | .int i :: ds, _, _, ns, hq4, h => by
    obtain ⟨v, vs', L1, L2, e1, _, r1, r2⟩ := hq4
    subst e1
    have h : (intsOf ds).map (i :: ·) = some ns := h
    cases hi : intsOf ds with
    | none => rw [hi] at h; cases h
    | some ms =>
      rw [hi] at h
      cases h
      rw [r1.1, intsOf_vals r2 hi]; rfl
  | .non :: _, _, _, _, _, h => by cases h
  | .bl _ :: _, _, _, _, _, h => by cases h
  | .str _ :: _, _, _, _, _, h => by cases h
  | .tup _ :: _, _, _, _, _, h => by cases h
  | .lst _ :: _, _, _, _, _, h => by cases h
  | .dic _ _ :: _, _, _, _, _, h => by cases h
  | .frl _ :: _, _, _, _, _, h => by cases h
noncomputable def int1D : List D -> R D
  | [.int i] => .ok (.int i)
  | [.bl k] => .ok (.int (if k then 1 else 0))
  | _ => .bad
theorem N_int1 : NoErrL int1D := fun ds n h => by
  rcases ds with _ | ⟨d, _ | ⟨_, _⟩⟩
  · cases h
  · cases d <;> cases h
  · cases d <;> cases h
theorem B_int1 {K : PySem.W.Frag} : ClB K (fun xs H Q => (∃ i, xs = [.int i] /\ Q (.int i) H) \/ ∃ k, xs = [.bl k] /\ Q (.int (if k then 1 else 0)) H) int1D := by
  rintro H xs ds L Q r ⟨d, hg, q⟩
  rcases ds with _ | ⟨e, _ | ⟨_, _⟩⟩
  · cases hg
  · cases e with
    | int i =>
      cases hg
      obtain ⟨v, rfl, rfl, _⟩ := reps1 r
      exact .inl ⟨_, rfl, q _ H [] (Same.refl H) ⟨rfl, rfl⟩ (by simp) (fun a ha => nomatch ha)⟩
    | bl k =>
      cases hg
      obtain ⟨v, rfl, rfl, _⟩ := reps1 r
      exact .inr ⟨_, rfl, q _ H [] (Same.refl H) ⟨rfl, rfl⟩ (by simp) (fun a ha => nomatch ha)⟩
    | _ => cases hg
  · cases e <;> cases hg
noncomputable def max2D : List D -> R D
  | [.int i, .int j] => .ok (.int (if j > i then j else i))
  | _ => .bad
theorem N_max2 : NoErrL max2D := fun ds n h => by unfold max2D at h; split at h <;> cases h
theorem B_max2 {K : PySem.W.Frag} : ClB K (fun xs H Q => ∃ i j, xs = [.int i, .int j] /\ Q (.int (if j > i then j else i)) H) max2D := by
  rintro H xs ds L Q r ⟨d, hg, q⟩
  unfold max2D at hg
  split at hg
  · cases hg
    obtain ⟨v, v', L1, L2, rfl, _, ⟨rfl, _⟩, ⟨rfl, _⟩⟩ := reps2 r
    exact ⟨_, _, rfl, q _ H [] (Same.refl H) ⟨rfl, rfl⟩ (by simp) (fun a ha => nomatch ha)⟩
  · cases hg
noncomputable def list1D : List D -> R D
  | [.lst ds] => if D.imms ds = true then .ok (.lst ds) else .bad
  | [.tup ds] => if D.imms ds = true then .ok (.lst ds) else .bad
  | _ => .bad
theorem N_list1 : NoErrL list1D := fun ds n h => by
  unfold list1D at h
  split at h
  · split at h <;> cases h
  · split at h <;> cases h
  · cases h
theorem B_list1 {K : PySem.W.Frag} : ClB K (fun xs H Q => ∃ p ys, xs = [.ref p] /\ (SqL K H p ys \/ SqT K H p ys) /\ ∀ l, H l = none -> Q (.ref l) (upd H l (.lst ys))) list1D := by
  rintro H xs ds L Q r ⟨d, hg, q⟩
  unfold list1D at hg
  split at hg
  · split at hg
    · rename_i hz
      cases hg
      obtain ⟨v, rfl, a, vs, L', rfl, ha, _, rs⟩ := reps1 r
      exact ⟨a, vs, rfl, .inl (SqL.of ha), fun l hl => new_lst (imms_nil rs hz) hl q⟩
    · cases hg
  · split at hg
    · rename_i hz
      cases hg
      obtain ⟨v, rfl, a, vs, rfl, ha, rs⟩ := reps1 r
      exact ⟨a, vs, rfl, .inr ha, fun l hl => new_lst (imms_nil rs hz) hl q⟩
    · cases hg
  · cases hg
noncomputable def kindD : D -> String
  | .non => "NoneType"
  | .bl _ => "bool"
  | .int _ => "int"
  | .str _ => "str"
  | .tup _ => "tuple"
  | .lst _ => "list"
  | .frl _ => "list"
  | .dic _ _ => "dict"
theorem kindD_mem (d : D) : kindD d ∈ kinds := by cases d <;> simp [kindD, kinds]
noncomputable def isiB (d : D) (T : String) : Bool := kindD d == T || (kindD d == "bool" && T == "int")
noncomputable def rIsD (K : PySem.W.Frag) : List V -> Hp -> VK -> Prop := fun xs H Q => ∃ x T d L, xs = [x, .ty T] /\ Rep K H d x L /\ T ∈ (["int", "bool", "str", "list", "tuple", "dict"] : List String) /\ Q (.bl (isiB d T)) H
theorem kit_all {K : PySem.W.Frag} {d : D} {U : String} (hU : U ∈ (["int", "bool", "str", "list", "tuple", "dict"] : List String)) : PySem.W.kitOne K (.type (kindD d)) (.type U) = some (isiB d U) := by
  have hT := kindD_mem d
  unfold isiB
  simp only [List.mem_cons, List.not_mem_nil, or_false] at hU
  rcases hU with rfl | rfl | hU
  · rw [kit_int hT]
    simp
  · rw [kit_bool hT]
    have : (kindD d == "bool" && ("bool" : String) == "int") = false := by simp
    rw [this, Bool.or_false]
  · rw [kit_self hT (by simpa using hU)]
    have : (kindD d == "bool" && U == "int") = false := by
      rcases hU with rfl | rfl | rfl | rfl <;> simp
    rw [this, Bool.or_false]
theorem call_isD : CallR X (.builtin "isinstance") (rIsD X.K) := by
  intro pins s σ H xs us Q I r h
  obtain ⟨x, T, d, L, rfl, rd, hT, q⟩ := h
  obtain ⟨u, u2, rfl, rx, rT⟩ := vals2 r
  obtain rfl : u2 = Value.type T := rT
  have hk := kit_all (K := X.K) (d := d) hT
  have fin : ∀ tk, EP X pins σ Q (.bool (isiB d T)) { s with toks := tk } := fun tk => ⟨.bl _, H, I.tok tk, rfl, q⟩
  cases d with
  | non => obtain ⟨rfl, _⟩ := rd; exact isinst_ok I rx .non hk fin
  | bl b => obtain ⟨rfl, _⟩ := rd; exact isinst_ok I rx (.bl b) hk fin
  | int b => obtain ⟨rfl, _⟩ := rd; exact isinst_ok I rx (.int b) hk fin
  | str b => obtain ⟨rfl, _⟩ := rd; exact isinst_ok I rx (.str b) hk fin
  | lst _ => obtain ⟨a, _, _, rfl, e, _⟩ := rd; exact isinst_ok I rx (.lst e) hk fin
  | frl _ =>
    obtain ⟨a, vs, rfl, ha, _⟩ := rd
    obtain rfl : u = Value.ref a := rx
    obtain ⟨its, _, ⟨o, n, h1, h2, _⟩, _⟩ := I.list ha.sq
    exact PySem.W.kia_one PySem.W.kitx_list I.kIn ⟨o, h1, h2⟩ hk (fun z => nomatch z) fin
  | dic _ _ => obtain ⟨a, _, _, rfl, e, _⟩ := rd; exact isinst_ok I rx (.dK e) hk fin
  | tup _ =>
    obtain ⟨a, vs, rfl, ha, _⟩ := rd
    obtain rfl : u = Value.ref a := rx
    obtain ⟨its, _, ⟨o, h1, h2, _⟩, _⟩ := I.tuple ha
    exact PySem.W.kia_one PySem.W.kitx_tuple I.kIn ⟨o, h1, h2⟩ hk (fun z => nomatch z) fin
end
section
variable {X : Cx} {E : XK} {Γ : List Cl} {e c' : Expr} {t : Tn -> R D} {c : Rc} {pos p : Pos}
noncomputable def isiD (T : String) : D -> R D := fun d => .ok (.bl (isiB d T))
theorem me_isi {T : String} (hT : T ∈ (["int", "bool", "str", "list", "tuple", "dict"] : List String)) (hg : Gl X "isinstance") (hm : X.mg "isinstance" = none) (hc : PE X c' (tC (.ty T))) (he : ME X E Γ e t c) (hs : autoParam (starEach [e, c'] X.env = (false, eval e X.env) :: starEach [c'] X.env) L2.au3._auto_1) (hs2 : autoParam (starEach [c'] X.env = (false, eval c' X.env) :: starEach [] X.env) L2.au3._auto_1)
    (hpl : autoParam ((backTo pos (starEach [c'] X.env)).any (·.1) = false) L2.au3._auto_1) : ME X E Γ (.Call (.Name "isinstance" p) [e, c'] [] pos) (eUn (isiD T) t) .fresh := by
  obtain ⟨te, p', q⟩ := he
  refine ⟨_, pe_callB (x := "isinstance") call_isD hg hm Boot.«isinstance» (pa_cons p' (pa_cons hc pa_nil hs2) hs) (by decide) (by decide) hs hpl, fun O σ H τ Q ok h => q O σ H τ _ ok (post.bind h fun d _ h v H1 L s1 r1 _ => ?_)⟩
  exact ⟨v, T, d, L, rfl, r1, hT, h _ H1 [] s1 ⟨rfl, rfl⟩ RcOk.nil⟩
end
end L2
set_option maxRecDepth 100000
set_option maxHeartbeats 4000000
namespace L2
open PySem PySem.Spec PyProof.Rows
theorem putK_fresh {kvs : List (Key × V)} {k : Key} {v : V} (h : k ∉ kvs.map (·.1)) : putK kvs k v = kvs ++ [(k, v)] := by
  unfold putK
  rw [if_neg]
  intro z
  rw [List.any_eq_true] at z
  obtain ⟨p, hp, e⟩ := z
  exact h (List.mem_map.mpr ⟨p, hp, by simpa using e⟩)
section
variable {X : Cx} {E : XK} {Γ : List Cl} {e k v : Expr} {t : Tn -> R D} {u : Tn -> R (List D)} {c ca cb : Rc} {pos p : Pos} {ks : List Key} {keys : List (Option Expr)} {values : List Expr}
end
end L2
set_option maxRecDepth 100000
set_option maxHeartbeats 4000000
namespace L2
open PySem PySem.Spec PyProof.Rows
theorem Room.u12 {k : Nat} {A : Around} (r : Room k A) : A.units + 12 < cLine := by have := r.un; lia
theorem Room.u1 {k : Nat} {A : Around} (r : Room k A) : A.units + 1 < cLine := by have := r.un; lia
noncomputable def compChk (outer : Scope) (N N' : List Str) (fr : List (Option Nat)) (scope : Scope) : Bool :=
  decide (scope.kind = .function) && scope.names.all (fun y => decide (y.2 ≠ .cell)) && scope.names.all (fun y => decide (y.2 ≠ .local) || decide (scope.names.lookup y.1 = some .local)) &&
  scope.names.all (fun y => decide (y.2 ≠ .free) || decide (outer.names.lookup y.1 = some .cell) || decide (outer.names.lookup y.1 = some .free)) && decide (fr.length = N'.length) &&
  (List.range fr.length).all fun j => match fr[j]?, N'[j]? with
    | some (some i), some x => decide (N[i]? = some x) && decide (scope.names.lookup x = some .free) && (decide (outer.names.lookup x = some .cell) || decide (outer.names.lookup x = some .free))
    | _, _ => true
theorem comp_scope {X : Cx} {N' : List Str} {fr : List (Option Nat)} {scope : Scope} (hc : ∀ x, (X.env.scope.names.lookup x = some .cell \/ X.env.scope.names.lookup x = some .free) -> ∃ c, X.env.cells.lookup x = some c) (h : compChk X.env.scope X.N N' fr scope = true) : CompScope X N' fr scope := by
  unfold compChk at h
  simp only [Bool.and_eq_true, decide_eq_true_eq, List.all_eq_true, Bool.or_eq_true] at h
  obtain ⟨⟨⟨⟨⟨h1, h2⟩, h3⟩, h4⟩, h5⟩, h6⟩ := h
  refine ⟨h1, h2, fun y hy e => ?_, fun y hy e => ?_, h5, fun j i x e1 e2 => ?_⟩
  · rcases h3 y hy with z | z
    · exact absurd e z
    · exact z
  · rcases h4 y hy with (z | z) | z
    · exact absurd e z
    · exact hc y.1 (.inl z)
    · exact hc y.1 (.inr z)
  · have hj : j < fr.length := (List.getElem?_eq_some_iff.mp e1).1
    have := h6 j (List.mem_range.mpr hj)
    rw [e1, e2] at this
    simp only [Bool.and_eq_true, decide_eq_true_eq, Bool.or_eq_true] at this
    exact ⟨this.1.1, this.1.2, this.2⟩
theorem cs_def {CX : CXT} {P : Program} {w : World} {K : PySem.W.Frag} {mg : Str -> Option Value} {base : Heap} {N : List Str} {qual : Str} {sc : Scope} {f : Addr} {cd : Value} {A : Around} {outer : List Env} {s : Shared} {H : Hp} {E : XK} {N' : List Str} {fr : List (Option Nat)} {scope : Scope}
    (nf : ∀ y ∈ sc.names, y.2 ≠ .free) (h : compChk sc N N' fr scope = true) : CompScope (cxOf CX P w K mg base N qual sc f cd A outer s H E) N' fr scope :=
  comp_scope (X := cxOf CX P w K mg base N qual sc f cd A outer s H E) (fun x hx => by
    rcases hx with hx | hx
    · exact cell_has hx
    · exact absurd rfl (nf _ (PySem.mem_of_lookup hx))) h
section
variable {X : Cx} {E : XK} {Γ Γ1 Γ' Γl : List Cl} {e : Expr} {t : Tn -> R D} {c : Rc} {pos pos' : Pos}
theorem mg_one {i : Nat} {x : Expr} (h : PG X x (gName i)) : MG X x (.one i) := h
structure Bl (mg : Str -> Option Value) : Prop where
  isinstance : mg "isinstance" = none
  int : mg "int" = none
  bool : mg "bool" = none
  str : mg "str" = none
  dict : mg "dict" = none
  list : mg "list" = none
  tuple : mg "tuple" = none
  len : mg "len" = none
  sum : mg "sum" = none
  max : mg "max" = none
  min : mg "min" = none
  all : mg "all" = none
  range : mg "range" = none
  enumerate : mg "enumerate" = none
  zip : mg "zip" = none
end
end L2
set_option maxRecDepth 100000
set_option maxHeartbeats 4000000
namespace L2
open PySem PySem.Spec PyProof.Rows
section
variable {X : Cx} {E : XK} {Γ Γ1 Γ' Γl : List Cl} {e : Expr} {t : Tn -> R D} {c : Rc} {pos pos' : Pos}
theorem mn (i : Nat) (k : Cl) {x : Str} (hN : autoParam (X.N[i]? = some x) L2.au3._auto_1) (hk : autoParam (Γ[i]? = some k) L2.au3._auto_1) (hd : autoParam (k ≠ .dead) L2.au1._auto_1) (hv : autoParam (Vis X.env.scope x) L2.au5._auto_1) (hb : autoParam ((x == ("__debug__" : Str)) = false) L2.au1._auto_1) (hcd : autoParam ((x == ("__classdict__" : Str)) = false) L2.au1._auto_1) :
    ME X E Γ (.Name x pos) (eVar i) (Rc.of k) := me_name hN hk hd hv hb hcd
theorem mvn (i : Nat) {x : Str} (hN : autoParam (X.N[i]? = some x) L2.au3._auto_1) (hk : autoParam (Γ[i]? = some .own) L2.au3._auto_1) (hv : autoParam (Vis X.env.scope x) L2.au5._auto_1) (hb : autoParam ((x == ("__debug__" : Str)) = false) L2.au1._auto_1) (hcd : autoParam ((x == ("__classdict__" : Str)) = false) L2.au1._auto_1) :
    MV X E Γ (.Name x pos) (eVar i) (Γ.set i .dead) := mv_name hN hk hv hb hcd
theorem st (i : Nat) {x : Str} (nd : X.N.Nodup) (h : MV X E Γ e t Γ1) (hi : autoParam (X.N[i]? = some x) L2.au3._auto_1) (hl : autoParam (i < Γ1.length) L2.au1._auto_1) (hx : autoParam (Loc X.env.scope x) L2.au7._auto_1) (hs : autoParam (swapsWith e (some (.Name x pos')) pos.line X.env = pure false) L2.au3._auto_1) (hf : autoParam (X.fn x = true \/ X.env.scope.names.lookup x = some .local) L2.au0._auto_1) :
    MS X E Γl Γ (.Assign [.Name x pos'] e pos) (sSet i t) (Γ1.set i .own) := ms_set nd hi hl h hx hs hf
theorem stS (i : Nat) {x : Str} (nd : X.N.Nodup) (h : ME X E Γ e t c) (hc : autoParam (c ≠ .bor) L2.au1._auto_1) (hi : autoParam (X.N[i]? = some x) L2.au3._auto_1) (hl : autoParam (i < Γ.length) L2.au1._auto_1) (hx : autoParam (Loc X.env.scope x) L2.au7._auto_1) (hs : autoParam (swapsWith e (some (.Name x pos')) pos.line X.env = pure false) L2.au3._auto_1) (hf : autoParam (X.fn x = true \/ X.env.scope.names.lookup x = some .local) L2.au0._auto_1) :
    MS X E Γl Γ (.Assign [.Name x pos'] e pos) (sSet i t) (Γ.set i .shr) := ms_setS nd hi hl h hc hx hs hf
theorem pgn (i : Nat) {x : Str} (nd : X.N.Nodup) (hi : autoParam (X.N[i]? = some x) L2.au3._auto_1) (hx : autoParam (Loc X.env.scope x) L2.au7._auto_1) (hf : autoParam (X.fn x = true \/ X.env.scope.names.lookup x = some .local) L2.au0._auto_1) : PG X (.Name x pos) (gName i) := pg_name nd hi hx hf
theorem app (i : Nat) {x : Str} {p0 p1 p2 : Pos} (h : MV X E Γ e t Γ1) (hN : autoParam (X.N[i]? = some x) L2.au3._auto_1) (h0 : autoParam (Γ[i]? = some .own) L2.au3._auto_1) (hk : autoParam (Γ1[i]? = some .own) L2.au3._auto_1) (hv : autoParam (Vis X.env.scope x) L2.au5._auto_1) (hb : autoParam ((x == ("__debug__" : Str)) = false) L2.au1._auto_1) (hcd : autoParam ((x == ("__classdict__" : Str)) = false) L2.au1._auto_1)
    (hbase : autoParam (attributeBase (.Name x p0) "append" X.env (eval (.Name x p0) X.env) = eval (.Name x p0) X.env) L2.au3._auto_1)
    (hfew : autoParam (((backTo p2 (starEach [e] X.env)).all (fun x => !x.1) && (backToKw p2 (keywordEach [] X.env)).all (fun x => x.1.isSome) && decide ([e].length + ([] : List Keyword).length + (if ([] : List Keyword).isEmpty then 0 else 1) < 30)) = true) L2.au3._auto_1)
    (hline : autoParam ((p1.endLine == p2.line) = true) L2.au3._auto_1) (hs : autoParam (starEach [e] X.env = (false, eval e X.env) :: starEach [] X.env) L2.au3._auto_1) (hplain : autoParam ((backTo p2 (starEach [] X.env)).any (·.1) = false) L2.au3._auto_1)
    (hsw : autoParam (swapsWith (.Call (.Attribute (.Name x p0) "append" p1) [e] [] p2) none pos.line X.env = pure false) L2.au3._auto_1) :
    MS X E Γl Γ (.Expr (.Call (.Attribute (.Name x p0) "append" p1) [e] [] p2) pos) (sApp i t) Γ1 := ms_append hN h0 h hk hv hb hcd hbase hfew hline hs hplain hsw
theorem put (i : Nat) {x : Str} {p0 p1 : Pos} {ix : Expr} {ti : Tn -> R D} (h : MV X E Γ e t Γ1) (hi : ME X E Γ1 ix ti c) (hN : autoParam (X.N[i]? = some x) L2.au3._auto_1) (hk : autoParam (Γ1[i]? = some .own) L2.au3._auto_1) (hv : autoParam (Vis X.env.scope x) L2.au5._auto_1) (hb : autoParam ((x == ("__debug__" : Str)) = false) L2.au1._auto_1) (hcd : autoParam ((x == ("__classdict__" : Str)) = false) L2.au1._auto_1)
    (ha : autoParam (∀ v, assign (.Subscript (.Name x p0) ix p1) X.env v = (do
      let ov <- holding [v] (eval (.Name x p0) X.env)
      let iv <- holding [v, ov] (eval ix X.env)
      standAt p1
      holding [v, ov, iv] (setItem ov iv v)
      release [v, ov, iv] [])) L2.au2._auto_1)
    (hs : autoParam (swapsWithSole [.Subscript (.Name x p0) ix p1] e pos.line X.env = pure false) L2.au3._auto_1) (hw : autoParam (swappedStores [.Subscript (.Name x p0) ix p1] e X.env = pure none) L2.au3._auto_1)
    (h1 : autoParam ((assignEach [.Subscript (.Name x p0) ix p1] X.env).map (·.2) = [assign (.Subscript (.Name x p0) ix p1) X.env]) L2.au3._auto_1) :
    MS X E Γl Γ (.Assign [.Subscript (.Name x p0) ix p1] e pos) (sPut i t ti) Γ1 := ms_put hN h hi hk hv hb hcd ha hs hw h1
theorem stC (i : Nat) {x : Str} {N' : List Str} {fr : List (Option Nat)} {scope : Scope} {tg iter elt : Expr} {ifs : List Expr} {it : Tn -> R (List D)} {g : Tgt} {cnd : Tn -> R Bool} {te : Tn -> R D} {ci : Rc} {cpos : Pos} (nd : X.N.Nodup) (hc : X.calm = true) (S : CompScope X N' fr scope) (hi : MI X E Γ tg iter it ci)
    (hg : ∀ s₃ H₃ fp pins, MG (compCx X scope N' s₃ H₃ fp pins) tg g) (ht : ∀ s₃ H₃ fp pins, MTs (compCx X scope N' s₃ H₃ fp pins) noX (clsAll (Cl.ofIt ci) (compC fr Γ) g.slots) ifs cnd)
    (he : ∀ s₃ H₃ fp pins, ME (compCx X scope N' s₃ H₃ fp pins) noX (clsAll (Cl.ofIt ci) (compC fr Γ) g.slots) elt te .fresh) (hd : ∀ j ∈ g.slots, (compC fr Γ)[j]? = some .dead)
    (hix : autoParam (X.N[i]? = some x) L2.au3._auto_1) (hl : autoParam (i < Γ.length) L2.au1._auto_1) (hx : autoParam (Loc X.env.scope x) L2.au7._auto_1) (hsw : autoParam (swapsWith (.ListComp elt [⟨tg, iter, ifs, 0⟩] scope cpos) (some (.Name x pos')) pos.line X.env = pure true) L2.au3._auto_1)
    (hs : autoParam (∀ x, foldedSetIterable iter X.env x = pure x) L2.au2._auto_1) (hf : autoParam (X.fn x = true \/ X.env.scope.names.lookup x = some .local) L2.au0._auto_1) :
    MS X E Γl Γ (.Assign [.Name x pos'] (.ListComp elt [⟨tg, iter, ifs, 0⟩] scope cpos) pos) (sSet i (eComp fr it g cnd te)) (Γ.set i .own) := ms_comp hc S hi hg ht he hd nd hix hl hx hsw hs hf
end
end L2
set_option maxRecDepth 100000
set_option maxHeartbeats 4000000
namespace L2
open PySem PySem.Spec PyProof.Rows
section
variable {P : Program} {w : World} {K : PySem.W.Frag} {mg : Str -> Option Value} {base : Heap} {x : Str} {st : Stmt} {N ps : List Str} {k : Nat} {t : Tn -> R Fl} {Γ' : List Cl}
theorem mir_fn {f : Addr} {oc : Value} {od an : Option Addr} {osl : Array (Option Value)} {kV doc pm cdv ct : Value} (lk : K.lookup f = some ⟨oc, od, .func (PySem.W.fnOf x x (defArgs st) (defBody st) (defScope st) .none kV doc pm an cdv ct), osl⟩) (hcd : PySem.W.codeIn K cdv x = true)
    (S : FnScope N ps (defScope st)) (hn : ps.length <= N.length)
    (hbody : ∀ (f : Addr) (cdv : Value) (A : Around) (outer : List Env) (s : Shared) (H : Hp) (E : XK), Room k (A.deeper (envOfC x (defScope st) s.heap.objs.size f cdv)) ->
      MSs (cxOf (cxx P w) P w K mg base N x (defScope st) f cdv A outer s H E) E [] (prmC N.length ps.length) (defBody st) t Γ') :
    FnOk P w K mg base (cxx P w) (k + 1) f (PySem.W.fnOf x x (defArgs st) (defBody st) (defScope st) .none kV doc pm an cdv ct) ps (spM K (runB N.length t) ps.length) := by
  refine fn_of lk hcd S (fun vs H Q E h => h.1) fun A outer s H vs Q E hr h => ?_
  obtain ⟨hl, ds, L, r, h⟩ := h
  obtain ⟨ts, p, q⟩ := hbody f cdv A outer s H E hr
  refine ⟨ts, p, q H (start N vs) H _ _ (hl ▸ SOk.start r (by lia)) ?_⟩
  unfold runB at h
  cases ht : t (ds.map some ++ List.replicate (N.length - ds.length) none) with
  | ok f =>
    rw [ht] at h
    cases f with
    | nx τ' => exact fun σ' H' ok' => h .non H' [] ok'.ext ⟨rfl, rfl⟩ RcOk.nil
    | rt d => exact fun v H' L s r n1 n2 => h v H' L s r ⟨n1, n2⟩
    | bk τ' => exact h.elim
    | ct τ' => exact h.elim
  | err n => rw [ht] at h; exact fun C H' e s => h C H' e s
  | bad => rw [ht] at h; exact h.elim
end
theorem imms_ints : ∀ ns : List Int, D.imms (ns.map D.int) = true
  | [] => rfl
  | n :: ns => by rw [List.map_cons]; show (true && D.imms (ns.map D.int)) = true; rw [imms_ints ns]; rfl
theorem reps_ints {K : PySem.W.Frag} {H : Hp} : ∀ ns : List Int, Reps K H (ns.map D.int) (ns.map V.int) []
  | [] => Reps.nil
  | n :: ns => Reps.cons (L1 := []) ⟨rfl, rfl⟩ (reps_ints ns)
theorem spM_law {K : PySem.W.Frag} {H : Hp} {a : Addr} {ns : List Int} {F : List D -> R D} (hO : Only H) (hS : SqL K H a (ns.map V.int)) (hF : F [.frl (ns.map D.int)] = .ok (.bl true)) : spM K F 1 [.ref a] H (fun v _ => v = .bl true) fun _ _ _ => False := by
  have hs : SqF K H a (ns.map V.int) := by
    rcases hS with (z | z) | z
    · rcases hO a with w | ⟨o, xs, w⟩
      · rw [w] at z; cases z
      · rw [w] at z; cases z
    · exact .inl z
    · exact .inr z
  refine ⟨rfl, [.frl (ns.map D.int)], [], Reps.cons (L1 := []) ⟨a, ns.map V.int, rfl, hs, rfl, imms_ints ns, reps_ints ns⟩ Reps.nil, ?_⟩
  rw [hF]
  exact fun v H' L s r _ => r.1
theorem law_walk {Fm : List D -> R D} {k : Nat} {x : Str} {l : PySem.W.OpenLaw} {q : Program} {loose : List Str} {XP : (Str -> Option Value) -> Heap -> Prop} {YP : World -> Heap -> Prop} {d : DefRec} {K : Params -> PySem.W.Frag} (hF : ∀ ns : List Int, ns.length <= 63 -> Fm [.frl (ns.map D.int)] = .ok (.bl true)) (hr : Room k callerA) (hn : l.most = some 63) (hdf : d.params.defaults = [])
    (hY : ∀ (w : World) (h : Heap), YP w h -> (K w.params).In h)
    (F : ∀ (w : World) (mg : Str -> Option Value) (fa : Addr) (h : Heap), (K w.params).In h -> h.Ns mainGlobals mg -> mg d.name = some (.ref fa) ->
      ∃ fd : FuncData, (∀ (s : Shared) (u : Value), BindsTo s fd ⟨[u], []⟩ [(x, u)]) /\ ∀ base : Heap, (K w.params).In base -> base.Ns mainGlobals mg -> FnOk l.prog w (K w.params) mg base (cxx l.prog w) k fa fd [x] (spM (K w.params) Fm 1)) :
    PySem.W.WalkO q loose XP YP l.row.toRowW d [] (fun f vs => PySem.call f vs) :=
  L2.walk_of (n := 63) (k := k) (x := x) (CX := fun w => cxx l.prog w) (sp := fun w => spM (K w.params) Fm 1) hn (by decide) hdf hr hY F (fun w H a ns hl hO hS => spM_law hO hS (hF ns hl)) fun w H s e s' z => cxx_no z
end L2
set_option maxRecDepth 100000
set_option maxHeartbeats 4000000
namespace L2
open PySem PySem.Spec PyProof.Rows
section
variable {i j : Int} {C : Int -> Int -> Bool} {g : Int -> Int -> D}
theorem ev_add : addD (.int i) (.int j) = .ok (.int (i + j)) := rfl
theorem ev_int : L2.intD C g (.int i) (.int j) = if C i j = true then .ok (g i j) else .bad := rfl
theorem ev_mulr (h1 : -(2 ^ 64) < j) (h2 : j < 2 ^ 64) : mulD (.int i) (.int j) = .ok (.int (i * j)) := by
  have : ((decide (-(2 ^ 64) < i) && decide (i < 2 ^ 64)) || (decide (-(2 ^ 64) < j) && decide (j < 2 ^ 64))) = true := by rw [decide_eq_true h1, decide_eq_true h2]; simp
  exact if_pos this
theorem ev_mull (h1 : -(2 ^ 64) < i) (h2 : i < 2 ^ 64) : mulD (.int i) (.int j) = .ok (.int (i * j)) := by
  have : ((decide (-(2 ^ 64) < i) && decide (i < 2 ^ 64)) || (decide (-(2 ^ 64) < j) && decide (j < 2 ^ 64))) = true := by rw [decide_eq_true h1, decide_eq_true h2]; simp
  exact if_pos this
theorem ev_mulR (h1 : -18446744073709551616 < j) (h2 : j < 18446744073709551616) : mulD (.int i) (.int j) = .ok (.int (i * j)) := ev_mulr (by lia) (by lia)
theorem ev_mulL (h1 : -18446744073709551616 < i) (h2 : i < 18446744073709551616) : mulD (.int i) (.int j) = .ok (.int (i * j)) := ev_mull (by lia) (by lia)
theorem ev_fdiv (h1 : 0 < j) (h2 : j < 1073741824) : fdivD (.int i) (.int j) = .ok (.int (i / j)) := by
  simp [fdivD, ev_int, h1, h2]
theorem ev_mod (h1 : 0 < j) : modD (.int i) (.int j) = .ok (.int (i % j)) := by
  simp [modD, ev_int, h1]
theorem ev_eqi {neg : Bool} : eqR neg (.int i) (.int j) = .ok (.bl (if neg = true then !(i == j) else i == j)) := by
  cases neg <;> rfl
theorem ev_eqs {neg : Bool} {x y : Str} : eqR neg (.str x) (.str y) = .ok (.bl (if neg = true then !(x == y) else x == y)) := by
  cases neg <;> rfl
end
theorem atI_ok {α : Type} {xs : List α} {i : Int} {x : α} (h0 : 0 <= i) (h : xs[i.toNat]? = some x) : atI xs i = some x := by
  have hj : i.toNat < xs.length := (List.getElem?_eq_some_iff.mp h).1
  have := atI_nat h
  rw [Int.toNat_of_nonneg h0] at this
  exact this
theorem ev_ixl {ds : List D} {i : Int} {d : D} (h : atI ds i = some d) : ixD (.lst ds) (.int i) = .ok d := by show (match atI ds i with | some d => R.ok d | none => R.bad) = _; rw [h]
theorem ev_ixf {ds : List D} {i : Int} {d : D} (h : atI ds i = some d) : ixD (.frl ds) (.int i) = .ok d := by show (match atI ds i with | some d => R.ok d | none => R.bad) = _; rw [h]
theorem ev_ixs {x : Str} {i : Int} {c : Nat} (hz : x.length <= sizeLine) (h : atI x.cps.toList i = some c) : ixD (.str x) (.int i) = .ok (.str ⟨#[c]⟩) := by show (if x.length <= sizeLine then (match atI x.cps.toList i with | some c => R.ok (D.str ⟨#[c]⟩) | none => R.bad) else R.bad) = _; rw [if_pos hz, h]
theorem ev_lenl {ds : List D} : lenD [.lst ds] = .ok (.int ds.length) := rfl
theorem ev_lenf {ds : List D} : lenD [.frl ds] = .ok (.int ds.length) := rfl
theorem ev_lens {x : Str} (h : x.length <= sizeLine) : lenD [.str x] = .ok (.int x.length) := if_pos h
theorem imms_map {α : Type} {f : α -> D} (h : ∀ a, (f a).imm = true) : ∀ xs : List α, D.imms (xs.map f) = true
  | [] => rfl
  | x :: xs => by rw [List.map_cons]; show ((f x).imm && D.imms (xs.map f)) = true; rw [h, imms_map h xs]; rfl
theorem forGo_inv {asg : D -> Tn -> R Tn} {body : Tn -> R Fl} (Iv : Nat -> Tn -> Prop) : ∀ (ds : List D) (k : Nat) (τ : Tn), Iv k τ ->
    (∀ i d τ, ds[i]? = some d -> Iv (k + i) τ -> ∃ τ1 τ2, asg d τ = .ok τ1 /\ (body τ1 = .ok (.nx τ2) \/ body τ1 = .ok (.ct τ2)) /\ Iv (k + i + 1) τ2) -> ∃ τ', forGo asg body ds τ = .ok (.nx τ') /\ Iv (k + ds.length) τ'
  | [], k, τ, h0, _ => ⟨τ, rfl, h0⟩
  | d :: ds, k, τ, h0, hs => by
    obtain ⟨τ1, τ2, e1, e2, h2⟩ := hs 0 d τ rfl h0
    obtain ⟨τ', e3, h3⟩ := forGo_inv Iv ds (k + 1) τ2 (by simpa using h2) fun i d' τ' hd hi => by
      obtain ⟨τ3, τ4, a, b, c⟩ := hs (i + 1) d' τ' (by simpa using hd) (by rw [<- Nat.add_assoc, Nat.add_right_comm]; exact hi)
      have e : k + 1 + i + 1 = k + (i + 1) + 1 := by lia
      exact ⟨τ3, τ4, a, b, e ▸ c⟩
    refine ⟨τ', ?_, by rw [List.length_cons, Nat.add_comm ds.length 1, <- Nat.add_assoc]; exact h3⟩
    unfold forGo
    rw [e1, R.ok_bind]
    rcases e2 with e2 | e2 <;> rw [e2, R.ok_bind] <;> exact e3
theorem compL_enc {α : Type} {enc : α -> D} {f : D -> R (Option D)} {o : α -> Option D} : ∀ {xs : List α}, (∀ x ∈ xs, f (enc x) = .ok (o x)) -> compL f (xs.map enc) = .ok (xs.filterMap o)
  | [], _ => rfl
  | x :: xs, h => by
    rw [List.map_cons]
    unfold compL
    rw [h x List.mem_cons_self, R.ok_bind, compL_enc fun y hy => h y (List.mem_cons_of_mem _ hy), R.ok_bind]
    cases ho : o x with
    | none => simp [List.filterMap_cons, ho]
    | some d => simp [List.filterMap_cons, ho]
theorem compL_rng {f : D -> R (Option D)} {o : Nat -> Option D} {lo : Int} {n : Nat} (h : ∀ i, i < n -> f (.int (lo + i)) = .ok (o i)) : compL f (rng lo n) = .ok ((List.range n).filterMap o) :=
  compL_enc (enc := fun (i : Nat) => .int (lo + i)) fun i hi => h i (List.mem_range.mp hi)
theorem rng_get {lo : Int} {n i : Nat} {d : D} (h : (rng lo n)[i]? = some d) : i < n /\ d = .int (lo + i) := by
  unfold rng at h
  rw [List.getElem?_map] at h
  by_cases hi : i < n
  · rw [List.getElem?_range hi] at h
    exact ⟨hi, (Option.some.inj h).symm⟩
  · rw [List.getElem?_eq_none (by simp; lia)] at h; cases h
theorem rng_len {lo : Int} {n : Nat} : (rng lo n).length = n := by simp [rng]
theorem ev_rng1 {j : Int} (h1 : -(2 ^ 62) <= j) (h2 : j < 2 ^ 62) : rng1 [.int j] = .ok (rng 0 j.toNat) := if_pos ⟨h1, h2⟩
theorem ev_rng2 {i j : Int} (h1 : -(2 ^ 62) <= i) (h2 : i < 2 ^ 62) (h3 : -(2 ^ 62) <= j) (h4 : j < 2 ^ 62) : rng2 [.int i, .int j] = .ok (rng i (j - i).toNat) := if_pos ⟨h1, h2, h3, h4⟩
theorem noErr_ok' {α : Type} (a : α) : noErr (R.ok a) = .ok a := rfl
end L2
set_option maxRecDepth 100000
set_option maxHeartbeats 4000000
namespace L2
open PySem PySem.Spec PyProof.Rows
theorem ev_adds {x y : Str} (h : x.length + y.length <= sizeLine) : addD (.str x) (.str y) = .ok (.str (x ++ y)) := if_pos h
theorem ev_sub {i j : Int} : subD (.int i) (.int j) = .ok (.int (i - j)) := rfl
theorem ev_lt {i j : Int} : ltD (.int i) (.int j) = .ok (.bl (decide (i < j))) := rfl
theorem ev_le {i j : Int} : leD (.int i) (.int j) = .ok (.bl (decide (i <= j))) := rfl
theorem ev_gt {i j : Int} : gtD (.int i) (.int j) = .ok (.bl (decide (j < i))) := rfl
theorem ev_ge {i j : Int} : geD (.int i) (.int j) = .ok (.bl (decide (j <= i))) := rfl
theorem ev_slL {ds : List D} {lo hi : Option Int} (h : D.imms ds = true) : slD (.lst ds) lo hi = .ok (.lst (cutL ds lo hi)) := if_pos h
theorem ev_list1 {ds : List D} (h : D.imms ds = true) : list1D [.lst ds] = .ok (.lst ds) := if_pos h
theorem fm_some {α β : Type} (f : α -> β) (xs : List α) : xs.filterMap (fun x => some (f x)) = xs.map f := by
  induction xs with
  | nil => rfl
  | cons x xs ih => simp
end L2
set_option maxRecDepth 100000
set_option maxHeartbeats 4000000
namespace L2
open PySem PySem.Spec PyProof.Rows
noncomputable def appD (i : Nat) (τ : Tn) (ds : List D) (d : D) : R Fl := if ds.length < sizeLine then .ok (.nx (τ.set i (some (.lst (ds ++ [d]))))) else .bad
noncomputable def appL (i : Nat) (t : Tn -> R D) (τ : Tn) : D -> R Fl
  | .lst ds => (t τ).bind fun d => appD i τ ds d
  | _ => .bad
theorem ev_sApp {i : Nat} {t : Tn -> R D} {τ : Tn} : sApp i t τ = (eVar i τ).bind (appL i t τ) := by
  unfold sApp appL appD
  rfl
theorem ev_appL {i : Nat} {t : Tn -> R D} {τ : Tn} {ds : List D} : appL i t τ (.lst ds) = (t τ).bind fun d => appD i τ ds d := rfl
theorem ev_appD {i : Nat} {τ : Tn} {ds : List D} {d : D} (h : ds.length < 16777216) : appD i τ ds d = .ok (.nx (τ.set i (some (.lst (ds ++ [d]))))) := if_pos (by rw [sizeLine_eq]; exact h)
noncomputable def lstD (ys : List D) : R D := if ys.length <= sizeLine then .ok (.lst ys) else .bad
theorem ev_lstD {ys : List D} (h : ys.length <= 16777216) : lstD ys = .ok (.lst ys) := if_pos (by rw [sizeLine_eq]; exact h)
theorem ev_eComp {fr : List (Option Nat)} {it : Tn -> R (List D)} {g : Tgt} {c : Tn -> R Bool} {e : Tn -> R D} {τ : Tn} : eComp fr it g c e τ = (it τ).bind fun xs => (compL (compF g.asg c e (compT fr τ)) xs).bind lstD := rfl
theorem ev_ctN {τ : Tn} : compT [] τ = [] := rfl
theorem ev_ctO {fr : List (Option Nat)} {τ : Tn} : compT (none :: fr) τ = none :: compT fr τ := rfl
theorem ev_ctS {i : Nat} {fr : List (Option Nat)} {τ : Tn} : compT (some i :: fr) τ = (τ[i]?).join :: compT fr τ := rfl
theorem ev_join {a : Option D} : (some a).join = a := rfl
noncomputable def immD (d : D) : R D := if d.imm = true then .ok d else .bad
theorem ev_eImm {t : Tn -> R D} {τ : Tn} : eImm t τ = (t τ).bind immD := rfl
theorem ev_immI {i : Int} : immD (.int i) = .ok (.int i) := rfl
theorem ev_immS {s : Str} : immD (.str s) = .ok (.str s) := rfl
theorem ev_immT {ds : List D} (h : D.imms ds = true) : immD (.tup ds) = .ok (.tup ds) := if_pos h
theorem ev_imsN : D.imms [] = true := rfl
theorem ev_imsI {i : Int} {ds : List D} : D.imms (.int i :: ds) = D.imms ds := Bool.true_and _
noncomputable def goF (asg : D -> Tn -> R Tn) (body : Tn -> R Fl) (ds : List D) : Fl -> R Fl
  | .nx τ2 => forGo asg body ds τ2
  | .ct τ2 => forGo asg body ds τ2
  | .bk τ2 => .ok (.nx τ2)
  | .rt r => .ok (.rt r)
theorem ev_forC {asg : D -> Tn -> R Tn} {body : Tn -> R Fl} {d : D} {ds : List D} {τ : Tn} : forGo asg body (d :: ds) τ = (asg d τ).bind fun τ1 => (body τ1).bind (goF asg body ds) := rfl
theorem ev_goN {asg : D -> Tn -> R Tn} {body : Tn -> R Fl} {ds : List D} {τ : Tn} : goF asg body ds (.nx τ) = forGo asg body ds τ := rfl
theorem ev_goR {asg : D -> Tn -> R Tn} {body : Tn -> R Fl} {ds : List D} {d : D} : goF asg body ds (.rt d) = .ok (.rt d) := rfl
theorem ev_xl0 {a : D} {ds : List D} : ixD (.lst (a :: ds)) (.int 0) = .ok a := ev_ixl (atI_nat (j := 0) rfl)
theorem ev_for {it : Tn -> R (List D)} {g : Tgt} {B : Tn -> R Fl} {τ : Tn} {ds : List D} {f : R Fl} (h1 : it τ = .ok ds) (h2 : forGo g.asg B ds τ = f) : sFor it g B τ = f := by
  unfold sFor
  rw [h1]
  exact h2
end L2
set_option maxRecDepth 100000
set_option maxHeartbeats 4000000
namespace L2
open PySem PySem.Spec PyProof.Rows
section
variable {X : Cx} {E : XK} {Γ : List Cl} {e : Expr} {t : Tn -> R D} {c : Rc} {pos p2 : Pos}
end
end L2
set_option maxRecDepth 100000
set_option maxHeartbeats 4000000
namespace L2
open PySem PySem.Spec PyProof.Rows
section
variable {X : Cx}
end
noncomputable def bestD (g : List Int -> Int) : List D -> R D
  | [.lst ds] => match intsOf ds with
    | some (n :: ns) => .ok (.int (g (n :: ns)))
    | _ => .bad
  | _ => .bad
end L2
set_option maxRecDepth 100000
set_option maxHeartbeats 4000000
namespace L2
open PySem PySem.Spec PyProof.Rows
section
variable {X : Cx} {tg : Expr}
end
section
variable {X : Cx} {E : XK} {Γ : List Cl} {tg : Expr} {u : Tn -> R (List D)} {c : Rc} {p pos : Pos}
end
end L2
set_option maxRecDepth 100000
set_option maxHeartbeats 4000000
namespace L2
open PySem PySem.Spec PyProof.Rows
end L2
set_option maxRecDepth 100000
set_option maxHeartbeats 4000000
namespace L2
open PySem PySem.Spec PyProof.Rows
noncomputable def tuple1D : List D -> R D
  | [.lst ds] => if D.imms ds = true then .ok (.tup ds) else .bad
  | [.tup ds] => if D.imms ds = true then .ok (.tup ds) else .bad
  | _ => .bad
theorem N_tuple1 : NoErrL tuple1D := fun ds n h => by
  unfold tuple1D at h
  split at h
  · split at h <;> cases h
  · split at h <;> cases h
  · cases h
theorem B_tuple1 {K : PySem.W.Frag} : ClB K (fun xs H Q => ∃ p ys, xs = [.ref p] /\ ((SqL K H p ys /\ ∀ l, H l = none -> Q (.ref l) (upd H l (.tup ys))) \/ (SqT K H p ys /\ Q (.ref p) H))) tuple1D := by
  rintro H xs ds L Q r ⟨d, hg, q⟩
  unfold tuple1D at hg
  split at hg
  · split at hg
    · rename_i ds hz
      cases hg
      obtain ⟨v, rfl, a, vs, L', rfl, ha, _, rs⟩ := reps1 r
      have rs0 := imms_nil rs hz
      refine ⟨a, vs, rfl, .inl ⟨SqL.of ha, fun l hl => q _ _ [] (Same.new hl) ⟨l, vs, rfl, SqT.of upd_same, rs0.same (Same.new hl)⟩ (by simp) (fun a ha => nomatch ha)⟩⟩
    · cases hg
  · split at hg
    · rename_i ds hz
      cases hg
      obtain ⟨v, rfl, a, vs, rfl, ha, rs⟩ := reps1 r
      have rs0 := imms_nil rs hz
      exact ⟨a, vs, rfl, .inr ⟨ha, q _ H [] (Same.refl H) ⟨a, vs, rfl, ha, rs0⟩ (by simp) (fun a ha => nomatch ha)⟩⟩
    · cases hg
  · cases hg
end L2
set_option maxRecDepth 100000
set_option maxHeartbeats 4000000
namespace L2
open PySem PySem.Spec PyProof.Rows
theorem vals_bools : ∀ {bs : List Bool} {us : List Value}, Vals (bs.map V.bl) us -> us = bs.map Value.bool
  | [], us, r => by cases r; rfl
  | b :: bs, _, r => by
    rw [List.map_cons] at r
    cases r with
    | cons r1 r2 =>
      obtain rfl : _ = Value.bool b := r1
      rw [List.map_cons, vals_bools r2]
theorem rangeAll (bs : List Bool) : ((List.range bs.length).all fun i => (bs[i]?).getD true) = bs.all id := by
  rw [Bool.eq_iff_iff, List.all_eq_true, List.all_eq_true]
  constructor
  · intro h b hb
    obtain ⟨i, hi, e⟩ := List.getElem_of_mem hb
    have := h i (List.mem_range.mpr hi)
    rw [List.getElem?_eq_getElem hi, e] at this
    exact this
  · intro h i hi
    have hi := List.mem_range.mp hi
    rw [List.getElem?_eq_getElem hi]
    exact h _ (List.getElem_mem hi)
noncomputable def rAllL (K : PySem.W.Frag) : List V -> Hp -> VK -> Prop := fun xs H Q => ∃ (p : Addr) (bs : List Bool), xs = [.ref p] /\ SqL K H p (bs.map V.bl) /\ Q (.bl (bs.all id)) H
section
variable {X : Cx}
theorem call_allL (hc : X.calm = true) : CallR X (.builtin "all") (rAllL X.K) := by
  intro pins s σ H xs us Q I r h
  obtain ⟨p, bs, rfl, hs, q⟩ := h
  obtain ⟨u, rfl, ru⟩ := vals1 r
  obtain rfl : u = Value.ref p := ru
  obtain ⟨its, rv, pl, hz⟩ := I.list hs
  have e := vals_bools rv
  subst e
  have hl : s.heap.IsList p (bs.map Value.bool).toArray := pl.isList
  have hlt : p < s.heap.objs.size := by obtain ⟨_, e, _⟩ := hl; exact Heap.lt_size e
  refine call_all_walk (wpAny_pyIter_list hl ?_)
  refine ⟨_, _, _, _, _, _, fun i => (bs[i]?).getD true, rfl, Walks.list (A := X.A.in1) (I.ok.hd hc) _ p (Nat.ne_of_lt hlt) (bs.map Value.bool).toArray, ⟨⟨_, Heap.get?_push_size _ rfl, rfl, rfl⟩, hl.push _⟩, fun i v s' Q' E' hP hQ => ?_, fun h' tk hk => ?_⟩
  · have hP : (bs.map Value.bool)[i]? = some v := by simpa using hP
    rw [List.getElem?_map] at hP
    cases hb : bs[i]? with
    | none => rw [hb] at hP; cases hP
    | some b =>
      rw [hb] at hP
      cases hP
      simp only [hb, Option.getD_some] at hQ
      exact wpAny_truthy_bool hQ
  · have e : ((List.range (bs.map Value.bool).toArray.size).all fun i => (bs[i]?).getD true) = bs.all id := by
      rw [List.size_toArray, List.length_map]
      exact rangeAll bs
    rw [e]
    refine ⟨.bl (bs.all id), H, I.kept fun b o eb => hk b o (fun hm => ?_) (Heap.get?_push_of_some _ eb), rfl, q⟩
    rw [List.mem_singleton.mp hm] at eb
    exact Nat.lt_irrefl _ (Heap.lt_size eb)
end
noncomputable def boolsOf : List D -> Option (List Bool)
  | [] => some []
  | .bl b :: ds => (boolsOf ds).map (b :: ·)
  | _ => none
theorem boolsOf_vals {K : PySem.W.Frag} {H : Hp} : ∀ {ds : List D} {bs : List Bool} {vs : List V} {L : List Addr}, Reps K H ds vs L -> boolsOf ds = some bs -> vs = bs.map V.bl
  | [], bs, _, _, hq4, h => by
    obtain ⟨e, _⟩ := hq4
    cases h; exact e
  | .bl b :: ds, bs, _, _, hq4, h => by
    obtain ⟨v, vs', L1, L2, e1, e2, r1, r2⟩ := hq4
    unfold boolsOf at h
    cases hb : boolsOf ds with
    | none => rw [hb] at h; cases h
    | some cs =>
      rw [hb] at h
      cases h
      rw [e1, r1.1, boolsOf_vals r2 hb]
      rfl
  | .non :: _, _, _, _, _, h => by cases h
  | .int _ :: _, _, _, _, _, h => by cases h
  | .str _ :: _, _, _, _, _, h => by cases h
  | .tup _ :: _, _, _, _, _, h => by cases h
  | .lst _ :: _, _, _, _, _, h => by cases h
  | .dic _ _ :: _, _, _, _, _, h => by cases h
  | .frl _ :: _, _, _, _, _, h => by cases h
noncomputable def allD : List D -> R D
  | [.lst ds] => match boolsOf ds with
    | some bs => .ok (.bl (bs.all id))
    | none => .bad
  | _ => .bad
theorem N_all : NoErrL allD := fun ds n h => by
  unfold allD at h
  split at h
  · split at h <;> cases h
  · cases h
theorem B_all {K : PySem.W.Frag} : ClB K (rAllL K) allD := by
  rintro H xs ds L Q r ⟨d, hg, q⟩
  unfold allD at hg
  split at hg
  · split at hg
    · rename_i ds bs hn
      cases hg
      obtain ⟨v, rfl, a, vs, L', rfl, ha, _, rs⟩ := reps1 r
      exact ⟨a, bs, rfl, by rw [<- boolsOf_vals rs hn]; exact SqL.of ha, q _ H [] (Same.refl H) ⟨rfl, rfl⟩ (by simp) (fun a ha => nomatch ha)⟩
    · cases hg
  · cases hg
end L2
set_option maxRecDepth 100000
set_option maxHeartbeats 4000000
namespace L2
open PySem PySem.Spec PyProof.Rows
noncomputable def eSm (g : Str -> List D -> R D) (t : Tn -> R D) (u : Tn -> R (List D)) : Tn -> R D := fun τ => (t τ).bind fun d => match d with
  | .str z => (u τ).bind fun ds => g z ds
  | _ => .bad
noncomputable def SmB (K : PySem.W.Frag) (r : V -> List V -> Hp -> VK -> Prop) (g : Str -> List D -> R D) : Prop :=
  ∀ H z xs ds L (Q : VK), Reps K H ds xs L -> (∃ d, g z ds = .ok d /\ ∀ v H' L', Same H H' -> Rep K H' d v L' -> L'.Nodup -> (∀ a ∈ L', H a = none) -> Q v H') -> r (.str z) xs H Q
section
variable {X : Cx} {E : XK} {Γ : List Cl} {o e : Expr} {es : List Expr} {t : Tn -> R D} {u : Tn -> R (List D)} {c ca : Rc} {name : Str} {apos cpos : Pos} {id : String}
theorem me_sm {r : V -> List V -> Hp -> VK -> Prop} {g : Str -> List D -> R D} (pa : PlainAttrs "str") (slot : Slot "str" name id) (hty : typeOf (.builtin id) = pure (.type "method_descriptor")) (hm : MtR X id r) (hB : SmB X.K r g) (hn : ∀ z, NoErrL (g z)) (ho : ME X E Γ o t c) (ha : MA X E Γ (e :: es) u ca)
    (hbase : autoParam (attributeBase o name X.env (eval o X.env) = eval o X.env) L2.au3._auto_1)
    (hfew : autoParam (((backTo cpos (starEach (e :: es) X.env)).all (fun x => !x.1) && (backToKw cpos (keywordEach [] X.env)).all (fun x => x.1.isSome)
      && decide ((e :: es).length + ([] : List Keyword).length + (if ([] : List Keyword).isEmpty then 0 else 1) < 30)) = true) L2.au3._auto_1)
    (hline : autoParam ((apos.endLine == cpos.line) = true) L2.au3._auto_1) (hs : autoParam (starEach (e :: es) X.env = (false, eval e X.env) :: starEach es X.env) L2.au3._auto_1) (hplain : autoParam ((backTo cpos (starEach es X.env)).any (·.1) = false) L2.au3._auto_1) :
    ME X E Γ (.Call (.Attribute o name apos) (e :: es) [] cpos) (eSm g t u) .fresh := by
  obtain ⟨te, p, q⟩ := ho
  obtain ⟨_, ta', p', q'⟩ := ha
  refine ⟨_, pe_bm pa slot hty hm p p' hbase hfew hline hs hplain, fun O σ H τ Q ok h => ?_⟩
  unfold eSm at h
  refine q O σ H τ _ ok (post.bind h fun d hd h x H1 L1 s1 r1 _ => ?_)
  cases d with
  | str z =>
    obtain ⟨rfl, _⟩ := r1
    refine ⟨rfl, q' O σ H1 τ _ (ok.same s1) ?_⟩
    dsimp only at h
    cases hu : u τ with
    | ok ds =>
      rw [hu, R.ok_bind] at h
      refine fun vs H2 L s2 r2 _ => ?_
      cases hg : g z ds with
      | ok d =>
        rw [hg] at h
        exact hB H2 z vs ds L Q r2 ⟨d, hg, fun v H' L s r n1 n2 => h v H' L ((s1.trans s2).trans s) r ⟨n1, fun a ha => (s1.trans s2).non (n2 a ha)⟩⟩
      | err n => exact absurd hg (hn _ _ _)
      | bad => rw [hg] at h; exact h.elim
    | err n => rw [hu] at h; exact fun C H' e s' => h C H' e (s1.trans s')
    | bad => rw [hu] at h; exact h
  | _ => exact h.elim
end
noncomputable def strsOf : List D -> Option (List Str)
  | [] => some []
  | .str b :: ds => (strsOf ds).map (b :: ·)
  | _ => none
theorem strsOf_vals {K : PySem.W.Frag} {H : Hp} : ∀ {ds : List D} {bs : List Str} {vs : List V} {L : List Addr}, Reps K H ds vs L -> strsOf ds = some bs -> vs = bs.map V.str
  | [], bs, _, _, hq4, h => by
    obtain ⟨e, _⟩ := hq4
    cases h; exact e
  | .str b :: ds, bs, _, _, hq4, h => by
    obtain ⟨v, vs', L1, L2, e1, e2, r1, r2⟩ := hq4
    unfold strsOf at h
    cases hb : strsOf ds with
    | none => rw [hb] at h; cases h
    | some cs =>
      rw [hb] at h
      cases h
      rw [e1, r1.1, strsOf_vals r2 hb]
      rfl
  | .non :: _, _, _, _, _, h => by cases h
  | .int _ :: _, _, _, _, _, h => by cases h
  | .bl _ :: _, _, _, _, _, h => by cases h
  | .tup _ :: _, _, _, _, _, h => by cases h
  | .lst _ :: _, _, _, _, _, h => by cases h
  | .dic _ _ :: _, _, _, _, _, h => by cases h
  | .frl _ :: _, _, _, _, _, h => by cases h
theorem vals_strs : ∀ {ys : List Str} {us : List Value}, Vals (ys.map V.str) us -> StrsAre us ys
  | [], us, r => by cases r; exact .nil
  | y :: ys, _, r => by
    rw [List.map_cons] at r
    cases r with
    | cons r1 r2 =>
      obtain ⟨t, rfl⟩ := r1
      exact .cons y t (vals_strs r2)
noncomputable def rJoin (K : PySem.W.Frag) : V -> List V -> Hp -> VK -> Prop := fun x xs H Q => ∃ z p ys, x = .str z /\ xs = [.ref p] /\ (SqL K H p (ys.map V.str) \/ SqT K H p (ys.map V.str)) /\ (ys.map (·.length)).sum + ys.length * z.length <= 16777216 /\ Q (.str (Txt.join z ys)) H
theorem mt_joinL {X : Cx} : MtR X "str.join" (rJoin X.K) := by
  intro pins s σ H x xs v us Q I rx rs h
  obtain ⟨z, p, ys, rfl, rfl, hq, hz, q⟩ := h
  obtain ⟨t, rfl⟩ := rx
  obtain ⟨u, rfl, ru⟩ := vals1 rs
  obtain rfl : u = Value.ref p := ru
  rcases hq with hq | hq
  · obtain ⟨its, r, pl, _⟩ := I.list hq
    exact join_list pl.isList (by simpa using vals_strs r) hz fun t' k => ⟨.str (Txt.join z ys), H, I.tok _, ⟨t', rfl⟩, q⟩
  · obtain ⟨its, r, pl, _⟩ := I.tuple hq
    exact join_tuple pl (by simpa using vals_strs r) hz fun t' k => ⟨.str (Txt.join z ys), H, I.tok _, ⟨t', rfl⟩, q⟩
noncomputable def joinD (z : Str) : List D -> R D
  | [.lst ds] => match strsOf ds with
    | some ys => if (ys.map (·.length)).sum + ys.length * z.length <= 16777216 then .ok (.str (Txt.join z ys)) else .bad
    | none => .bad
  | [.tup ds] => match strsOf ds with
    | some ys => if (ys.map (·.length)).sum + ys.length * z.length <= 16777216 then .ok (.str (Txt.join z ys)) else .bad
    | none => .bad
  | _ => .bad
theorem N_join (z : Str) : NoErrL (joinD z) := fun ds n h => by
  unfold joinD at h
  split at h
  · split at h
    · split at h <;> cases h
    · cases h
  · split at h
    · split at h <;> cases h
    · cases h
  · cases h
theorem B_join {K : PySem.W.Frag} : SmB K (rJoin K) joinD := by
  rintro H z xs ds L Q r ⟨d, hg, q⟩
  unfold joinD at hg
  split at hg
  · split at hg
    · rename_i ds ys hn
      split at hg
      · rename_i hz
        cases hg
        obtain ⟨v, rfl, a, vs, L', rfl, ha, _, rs⟩ := reps1 r
        exact ⟨z, a, ys, rfl, rfl, .inl (by rw [<- strsOf_vals rs hn]; exact SqL.of ha), hz, q _ H [] (Same.refl H) ⟨rfl, rfl⟩ (by simp) (fun a ha => nomatch ha)⟩
      · cases hg
    · cases hg
  · split at hg
    · rename_i ds ys hn
      split at hg
      · rename_i hz
        cases hg
        obtain ⟨v, rfl, a, vs, rfl, ha, rs⟩ := reps1 r
        exact ⟨z, a, ys, rfl, rfl, .inr (by rw [<- strsOf_vals rs hn]; exact ha), hz, q _ H [] (Same.refl H) ⟨rfl, rfl⟩ (by simp) (fun a ha => nomatch ha)⟩
      · cases hg
    · cases hg
  · cases hg
end L2
set_option maxRecDepth 100000
set_option maxHeartbeats 4000000
namespace L2
open PySem PySem.Spec PyProof.Rows
section
variable {prog : Program} {w : World} {A : Around} {R : Result -> Shared -> Prop}
end
section
variable {prog : Program} {w : World} {A : Around} {E : Value -> Shared -> Prop} {s : Shared}
end
end L2
set_option maxRecDepth 100000
set_option maxHeartbeats 4000000
namespace L2
open PySem PySem.Spec PyProof.Rows
noncomputable def replL {β : Type} : List Key -> List β -> Key -> β -> List β
  | k' :: ks, x :: xs, k, y => (if k' = k then y else x) :: replL ks xs k y
  | _, _, _, _ => []
noncomputable def putP (ks : List Key) (ds : List D) (k : Key) (d : D) : List Key × List D := if k ∈ ks then (ks, replL ks ds k d) else (ks ++ [k], ds ++ [d])
section
variable {K : PySem.W.Frag} {H : Hp}
theorem putK_in : ∀ {kvs : List (Key × V)} {k : Key} {v : V}, k ∈ kvs.map (·.1) -> putK kvs k v = kvs.map (fun kv => if kv.1 = k then (kv.1, v) else kv) := by
  intro kvs k v h
  unfold putK
  rw [if_pos]
  rw [List.any_eq_true]
  obtain ⟨p, hp, e⟩ := List.mem_map.mp h
  exact ⟨p, hp, by simpa using e⟩
theorem repl_fst : ∀ (kvs : List (Key × V)) (k : Key) (v : V), (kvs.map (fun kv => if kv.1 = k then (kv.1, v) else kv)).map (·.1) = kvs.map (·.1)
  | [], _, _ => rfl
  | p :: r, k, v => by
    rw [List.map_cons, List.map_cons, List.map_cons, repl_fst r k v]
    congr 1
    split <;> rfl
theorem repl_snd : ∀ (kvs : List (Key × V)) (k : Key) (v : V), (kvs.map (fun kv => if kv.1 = k then (kv.1, v) else kv)).map (·.2) = replL (kvs.map (·.1)) (kvs.map (·.2)) k v
  | [], _, _ => rfl
  | p :: r, k, v => by
    rw [List.map_cons, List.map_cons, List.map_cons, List.map_cons, repl_snd r k v]
    show _ = (if p.1 = k then v else p.2) :: _
    congr 1
    split <;> rfl
theorem Reps.repl {k : Key} {d : D} {v : V} (rd : Rep K H d v []) : ∀ {ks : List Key} {ds : List D} {vs : List V} {L : List Addr}, Reps K H ds vs L -> ks.length = ds.length -> ∃ L2, Reps K H (replL ks ds k d) (replL ks vs k v) L2 /\ List.Sublist L2 L
  | [], [], _, _, hq4, _ => by
    obtain ⟨e1, e2⟩ := hq4
    exact ⟨[], by subst e1; exact Reps.nil, List.nil_sublist _⟩
  | [], _ :: _, _, _, _, h => by cases h
  | _ :: _, [], _, _, _, h => by cases h
  | k' :: ks, d' :: ds, _, _, hq4, h => by
    obtain ⟨v', vs', L1, L2, e1, e2, h1, h2⟩ := hq4
    subst e1 e2
    obtain ⟨L3, a, b⟩ := Reps.repl (ks := ks) rd h2 (by simpa using h)
    by_cases e : k' = k
    · refine ⟨[] ++ L3, ?_, ?_⟩
      · show Reps K H ((if k' = k then d else d') :: replL ks ds k d) ((if k' = k then v else v') :: replL ks vs' k v) _
        rw [if_pos e, if_pos e]
        exact Reps.cons rd a
      · exact b.trans (List.sublist_append_right _ _)
    · refine ⟨L1 ++ L3, ?_, List.Sublist.append (List.Sublist.refl _) b⟩
      show Reps K H ((if k' = k then d else d') :: replL ks ds k d) ((if k' = k then v else v') :: replL ks vs' k v) _
      rw [if_neg e, if_neg e]
      exact Reps.cons h1 a
theorem rep_put {kvs : List (Key × V)} {ds : List D} {L : List Addr} {k : Key} {d : D} {v : V} (rs : Reps K H ds (kvs.map (·.2)) L) (nd : (kvs.map (·.1)).Nodup) (rd : Rep K H d v []) :
    (putK kvs k v).map (·.1) = (putP (kvs.map (·.1)) ds k d).1 /\ (putP (kvs.map (·.1)) ds k d).1.Nodup /\ ∃ L2, Reps K H (putP (kvs.map (·.1)) ds k d).2 ((putK kvs k v).map (·.2)) L2 /\ List.Sublist L2 L := by
  unfold putP
  by_cases h : k ∈ kvs.map (·.1)
  · rw [if_pos h, putK_in h, repl_fst, repl_snd]
    refine ⟨rfl, nd, Reps.repl rd rs ?_⟩
    rw [<- rs.length, List.length_map, List.length_map]
  · rw [if_neg h, putK_fresh h]
    refine ⟨by rw [List.map_append]; rfl, ?_, L, ?_, List.Sublist.refl _⟩
    · refine List.nodup_append.mpr ⟨nd, by simp, fun a ha b hb z => ?_⟩
      rw [List.mem_singleton] at hb
      subst hb z
      exact h ha
    · rw [List.map_append]
      have := Reps.append rs (Reps.cons rd (Reps.nil (K := K) (H := H)))
      rw [List.append_nil, List.append_nil] at this
      exact this
end
noncomputable def sKPut (i : Nat) (t ti : Tn -> R D) : Tn -> R Fl := fun τ => (t τ).bind fun d => (eVar i τ).bind fun l => (ti τ).bind fun k => match l, keyOf k with
  | .dic ks ds, some k => if d.imm = true /\ ks.length < sizeLine then .ok (.nx (τ.set i (some (.dic (putP ks ds k d).1 (putP ks ds k d).2)))) else .bad
  | _, _ => .bad
section
variable {X : Cx} {E : XK} {Γ Γ1 Γ' Γl : List Cl} {e a b o f : Expr} {es : List Expr} {t t' u v : Tn -> R D} {c ca cb : Rc} {pos : Pos}
theorem kput (i : Nat) {x : Str} {p0 p1 : Pos} {ix : Expr} {ti : Tn -> R D} (hu : X.A.units + 1 < cLine) (h : MV X E Γ e t Γ1) (hi : ME X E Γ1 ix ti c) (hN : autoParam (X.N[i]? = some x) L2.au3._auto_1) (hk : autoParam (Γ1[i]? = some .own) L2.au3._auto_1) (hv : autoParam (Vis X.env.scope x) L2.au5._auto_1) (hb : autoParam ((x == ("__debug__" : Str)) = false) L2.au1._auto_1) (hcd : autoParam ((x == ("__classdict__" : Str)) = false) L2.au1._auto_1)
    (hs : autoParam (swapsWith e (some (.Subscript (.Name x p0) ix p1)) pos.line X.env = pure false) L2.au3._auto_1) :
    MS X E Γl Γ (.Assign [.Subscript (.Name x p0) ix p1] e pos) (sKPut i t ti) Γ1 := by
  obtain ⟨te, p, q⟩ := h
  obtain ⟨te', p', q'⟩ := hi
  refine ⟨_, ps_dput hu (pe_var (pos := p0) hN hv hb hcd) p' p hs, fun B σ H τ Z ok h => q B σ H τ [] _ ok ?_⟩
  unfold sKPut at h
  cases ht : t τ with
  | ok d' =>
    rw [ht, R.ok_bind] at h
    refine fun y H1 Le s1 ry ok1 => ?_
    obtain ⟨v1, d1, L1, q1, q2, r1, n1, n2, _⟩ := ok1.slot hk
    refine ⟨v1, q1, ?_⟩
    have ev : eVar i τ = .ok d1 := by unfold eVar; rw [q2]
    rw [ev, R.ok_bind] at h
    obtain ⟨O, eo, _⟩ := ok1.eok
    refine q' O σ H1 τ _ eo ?_
    cases hk' : ti τ with
    | ok dk =>
      rw [hk', R.ok_bind] at h
      refine fun kv H2 Lk s2 rk _ => ?_
      have ok2 := ok1.same s2
      obtain ⟨v2, d2, L2, q3, q4, r2, m1, m2, fin⟩ := ok2.slot hk
      rw [q1] at q3
      cases q3
      rw [q2] at q4
      cases q4
      cases d1 with
      | dic ks ds =>
        cases hko : keyOf dk with
        | none => rw [hko] at h; exact h.elim
        | some k =>
          rw [hko] at h
          dsimp only at h
          by_cases hz : d'.imm = true /\ ks.length < sizeLine
          · rw [if_pos hz] at h
            obtain ⟨a, kvs, L', rfl, ha2, z2, hks, hnd, rs⟩ := r2
            subst z2
            have mu : (∃ vs, H2 a = some (.lst vs)) \/ ∃ kvs, H2 a = some (.dK kvs) := .inr ⟨_, ha2⟩
            have zL := Rep.imm _ _ _ ry hz.1
            subst zL
            obtain ⟨w1, w2⟩ := List.nodup_cons.mp m1
            have r3 := (ry.same s2).upd (o := .dK (putK kvs k y)) mu (by simp)
            have rs3 := rs.upd (o := .dK (putK kvs k y)) mu w1
            subst hks
            obtain ⟨a1, a2, L3, a3, a4⟩ := rep_put (k := k) rs3 hnd r3
            refine ⟨a, _, rfl, ?_, h _ _ (fin _ _ (a :: L3) [] [] rfl (TF.upd mu) (fun b hb _ => upd_ne fun z => hb (z ▸ List.mem_cons_self)) ⟨a, _, L3, rfl, upd_same, rfl, a1, a2, a3⟩ (fun b hb => ?_) ?_)⟩
            · rw [keyOf_rep hko rk]
              exact DPut.k ha2 (by have := hz.2; rw [List.length_map] at this; exact this)
            · rcases List.mem_cons.mp hb with z | z
              · exact .inl (z ▸ List.mem_cons_self)
              · exact .inl (List.mem_cons_of_mem _ (a4.subset z))
            · exact List.nodup_cons.mpr ⟨fun z => w1 (a4.subset z), w2.sublist a4⟩
          · rw [if_neg hz] at h; exact h.elim
      | _ => exact h.elim
    | err n => rw [hk'] at h; exact fun C H' e s => h C H' e (ok1.ext.trans s)
    | bad => rw [hk'] at h; exact h
  | err n => rw [ht] at h; exact h
  | bad => rw [ht] at h; exact h
end
end L2
set_option maxRecDepth 100000
set_option maxHeartbeats 4000000
namespace L2
open PySem PySem.Spec PyProof.Rows
section
variable {X : Cx}
end
section
variable {X : Cx} {E : XK} {Γ : List Cl} {u : Tn -> R (List D)} {c : Rc} {p pos : Pos}
end
end L2
set_option maxRecDepth 100000
set_option maxHeartbeats 4000000
namespace L2
open PySem PySem.Spec PyProof.Rows
noncomputable def kputD (i : Nat) (τ : Tn) (d : D) : D -> D -> R Fl
  | .dic ks ds, k => (match keyOf k with
    | some k => if d.imm = true /\ ks.length < sizeLine then .ok (.nx (τ.set i (some (.dic (putP ks ds k d).1 (putP ks ds k d).2)))) else .bad
    | none => .bad)
  | _, _ => .bad
theorem ev_sKPut {i : Nat} {t ti : Tn -> R D} {τ : Tn} : sKPut i t ti τ = (t τ).bind fun d => (eVar i τ).bind fun l => (ti τ).bind fun k => kputD i τ d l k := by
  unfold sKPut
  congr 1; funext d; congr 1; funext l; congr 1; funext k
  cases l with
  | dic ks ds =>
    cases h : keyOf k <;> simp only [kputD, h]
  | _ => rfl
theorem ev_kput {i : Nat} {τ : Tn} {d : D} {ks : List Key} {ds : List D} {x : Str} (hd : d.imm = true) (hl : ks.length < 16777216) : kputD i τ d (.dic ks ds) (.str x) = .ok (.nx (τ.set i (some (.dic (putP ks ds (.inr x) d).1 (putP ks ds (.inr x) d).2)))) := if_pos ⟨hd, by rw [sizeLine_eq]; exact hl⟩
noncomputable def smD (g : Str -> List D -> R D) (u : Tn -> R (List D)) (τ : Tn) : D -> R D
  | .str z => (u τ).bind fun ds => g z ds
  | _ => .bad
theorem ev_eSm {g : Str -> List D -> R D} {t : Tn -> R D} {u : Tn -> R (List D)} {τ : Tn} : eSm g t u τ = (t τ).bind (smD g u τ) := by
  unfold eSm
  congr 1
theorem ev_smD {g : Str -> List D -> R D} {u : Tn -> R (List D)} {τ : Tn} {z : Str} : smD g u τ (.str z) = (u τ).bind fun ds => g z ds := rfl
theorem strsOf_map : ∀ ys : List Str, strsOf (ys.map D.str) = some ys
  | [] => rfl
  | y :: ys => by rw [List.map_cons]; show (strsOf (ys.map D.str)).map (y :: ·) = _; rw [strsOf_map ys]; rfl
theorem ev_joinD {z : Str} {ys : List Str} (h : (ys.map (·.length)).sum + ys.length * z.length <= 16777216) : joinD z [.lst (ys.map D.str)] = .ok (.str (Str.join z ys)) := by
  have e : Txt.join z ys = Str.join z ys := eq_of_beq (join_plain_closes z ys)
  simp only [joinD, strsOf_map, if_pos h, e]
theorem app_cps (x y : Str) : (x ++ y).cps.toList = x.cps.toList ++ y.cps.toList := by
  show (x.cps ++ y.cps).toList = _
  simp
theorem ev_tuple1 {ds : List D} (h : D.imms ds = true) : tuple1D [.lst ds] = .ok (.tup ds) := if_pos h
theorem ev_eqne {d : D} (hd : ∀ ks xs, d ≠ .dic ks xs) (h : eqF 12 d d = some true) : eqR true d d = .ok (.bl false) := by
  cases d with
  | dic ks xs => exact absurd rfl (hd ks xs)
  | _ => simp only [eqR, h] <;> rfl
end L2
set_option maxRecDepth 100000
set_option maxHeartbeats 4000000
namespace L2
open PySem PySem.Spec PyProof.Rows
section
variable {prog : Program} {w : World} {A : Around} {R : Result -> Shared -> Prop}
end
section
variable {prog : Program} {w : World} {A : Around} {E : Value -> Shared -> Prop} {s : Shared}
end
section
variable {X : Cx} {E : XK} {Γ : List Cl} {e f : Expr} {t u : Tn -> R D} {ca cb : Rc} {p pos kp : Pos} {te tf : TE}
end
end L2
set_option maxRecDepth 100000
set_option maxHeartbeats 4000000
namespace L2
open PySem PySem.Spec PyProof.Rows
theorem boolsOf_map : ∀ bs : List Bool, boolsOf (bs.map D.bl) = some bs
  | [] => rfl
  | b :: bs => by rw [List.map_cons]; show (boolsOf (bs.map D.bl)).map (b :: ·) = _; rw [boolsOf_map bs]; rfl
theorem ev_allD {bs : List Bool} : allD [.lst (bs.map D.bl)] = .ok (.bl (bs.all id)) := by
  simp only [allD, boolsOf_map]
end L2
set_option maxRecDepth 100000
set_option maxHeartbeats 4000000
namespace L2
open PySem PySem.Spec PyProof.Rows
theorem rcGt_int (A : Around) (s : Shared) (a : Int) (t : Tok) (c : Int) (u : Tok) (prog : Program) (w : World) (E : Value -> Shared -> Prop) (Q : Value -> Shared -> Prop) (h : Q (.bool (decide (a > c))) s) :
    wpAny (model prog w) A (richCompare .Gt (.int a t) (.int c u)) Q E s :=
  CmpOf.ints_gt (P := fun k v => ∃ t, v = .int (if k = 0 then a else c) t) (fun k => if k = 0 then a else c) (fun _ _ h => h) 0 1 (.int a t) (.int c u) _ _ _ ⟨t, rfl⟩ ⟨u, rfl⟩ h
noncomputable def lexG : List Int -> List Int -> Bool
  | [], _ => false
  | _ :: _, [] => true
  | a :: as, b :: bs => if a = b then lexG as bs else decide (a > b)
section
open PySem.SeqAt PySem.MeetsSeq3
open PySem.AutoSeq1 (wpAny_loadPart')
end
end L2
set_option maxRecDepth 100000
set_option maxHeartbeats 4000000
namespace L2
open PySem PySem.Spec PyProof.Rows
section
variable {X : Cx} {E : XK} {Γ Γ1 Γ' Γl : List Cl} {e : Expr} {t : Tn -> R D} {pos : Pos}
end
end L2
set_option maxRecDepth 100000
set_option maxHeartbeats 4000000
namespace L2
open PySem PySem.Spec PyProof.Rows
section
open PySem.SeqAt PySem.MeetsSeq3
open PySem.AutoSeq1 (wpAny_loadPart')
end
section
variable {X : Cx} {pins : List (Addr × Obj)} {σ : St} {H : Hp} {s : Shared}
end
end L2
set_option maxRecDepth 100000
set_option maxHeartbeats 4000000
namespace L2
open PySem PySem.Spec PyProof.Rows
section
variable {prog : Program} {w : World} {A : Around} {E : Value -> Shared -> Prop} {s : Shared}
end
section
variable {prog : Program} {w : World} {A : Around} {E : Value -> Shared -> Prop} {s : Shared}
variable {z TI TO i1 i2 l1 l2 : Addr} {k : Nat} {xs ys : Array Value} {st1 st2 : Nat -> Heap -> Prop} {a b : Value}
end
end L2
set_option maxRecDepth 100000
set_option maxHeartbeats 4000000
namespace L2
open PySem PySem.Spec PyProof.Rows
section
variable {X : Cx} {pins : List (Addr × Obj)} {σ : St} {H : Hp} {s : Shared} {a : Addr} {xs ys : List V} {h' : Heap}
end
end L2
set_option maxRecDepth 100000
set_option maxHeartbeats 4000000
namespace L2
open PySem PySem.Spec PyProof.Rows
section
variable {prog : Program} {w : World} {A : Around} {E : Value -> Shared -> Prop} {s : Shared}
end
section
variable {X : Cx}
end
section
variable {X : Cx} {E : XK} {Γ : List Cl} {u : Tn -> R (List D)} {c : Rc} {p pos : Pos}
end
end L2
set_option maxRecDepth 100000
set_option maxHeartbeats 4000000
namespace L2
open PySem PySem.Spec PyProof.Rows
section
variable {prog : Program} {w : World} {A : Around} {E : Value -> Shared -> Prop} {s : Shared}
end
section
variable {X : Cx} {E : XK} {Γ : List Cl} {e : Expr} {t : Tn -> R D} {c : Rc} {p2 pos : Pos}
end
section
variable {X : Cx} {E : XK} {Γ Γl : List Cl} {pos : Pos}
end
end L2
set_option maxRecDepth 100000
set_option maxHeartbeats 4000000
namespace L2
open PySem PySem.Spec PyProof.Rows
end L2
set_option maxRecDepth 100000
set_option maxHeartbeats 4000000
namespace L2
open PySem PySem.Spec PyProof.Rows
noncomputable def sErr (x : Str) (u : Tn -> R (List D)) : Tn -> R Fl := fun τ => (u τ).bind fun ds => if ds.length <= sizeLine then .err x else .bad
theorem ms_raise {P : Program} {w : World} {K : PySem.W.Frag} {mg : Str -> Option Value} {base : Heap} {N : List Str} {qual : Str} {scope : Scope} {f : Addr} {cd : Value} {A : Around} {outer : List Env} {s : Shared} {H : Hp} {E : XK} {Γ Γl Γ' : List Cl}
    {x : Str} {C : Addr} {e₀ : Expr} {u : Tn -> R (List D)} {c : Rc} {np cpos pos : Pos} (hc : ErrC K x C) (hg : Gl (cxOf (cxx P w) P w K mg base N qual scope f cd A outer s H E) x)
    (ha : MA (cxOf (cxx P w) P w K mg base N qual scope f cd A outer s H E) E Γ [e₀] u c) (hd : autoParam ((x == ("__debug__" : Str)) = false) L2.au1._auto_1)
    (he : autoParam (starEach [e₀] (envOfC qual scope s.heap.objs.size f cd) = (false, eval e₀ (envOfC qual scope s.heap.objs.size f cd)) :: starEach [] (envOfC qual scope s.heap.objs.size f cd)) L2.au3._auto_1) :
    MS (cxOf (cxx P w) P w K mg base N qual scope f cd A outer s H E) E Γl Γ (.Raise (some (.Call (.Name x np) [e₀] [] cpos)) none pos) (sErr x u) Γ' := by
  obtain ⟨_, ta, pa, q⟩ := ha
  refine ⟨tRaise C E ta, fun pins s1 σ H1 D I h => ps_raise (A := A) (show A.handled = none from I.ok.hd rfl) hc hg pa hd he rfl pins s1 σ H1 D I h, fun B σ H1 τ Z ok h => ?_⟩
  obtain ⟨O, eok, _⟩ := ok.eok
  refine q O σ H1 τ _ eok ?_
  unfold sErr at h
  cases hu : u τ with
  | ok ds =>
    rw [hu, R.ok_bind] at h
    refine fun vs H' L s r _ => ?_
    by_cases hz : ds.length <= sizeLine
    · rw [if_pos hz] at h
      exact ⟨by rw [r.length]; exact hz, h C H' hc (ok.ext.trans s)⟩
    · rw [if_neg hz] at h; exact h.elim
  | err n => rw [hu] at h; exact fun C' H' e s => h C' H' e (ok.ext.trans s)
  | bad => rw [hu] at h; exact h.elim
noncomputable def sTryE (F : List D -> R D) (u : Tn -> R (List D)) (g : Str -> Option D) : Tn -> R Fl := fun τ => match u τ with
  | .ok ds => (match F ds with
    | .ok d => .ok (.nx τ)
    | .err m => (match g m with | some d => .ok (.rt d) | none => .bad)
    | .bad => .bad)
  | _ => .bad
noncomputable def Suite (X : Cx) (CS : Addr) (i : Nat) (sts : List Stmt) (g : Str -> Option D) : Prop := ∀ (m : Str) (d : D), g m = some d -> ∀ C, ErrC X.K m C -> PySem.W.exmOne X.K (.ref C) (.ref CS) = some true /\
  ∃ ts : Addr -> Obj -> TS, (∀ e oe, PSs (X.within e oe) sts (ts e oe)) /\ ∀ e oe (Z : Ends) (σ : St) (H : Hp), σ.length = X.N.length -> oe.cls = .ref C -> H e = none -> σ[i]? = some (some (.ref e)) -> (∀ v H', Same H H' -> Rep X.K H' d v [] -> Z.rt v H') -> ts e oe Z σ H
noncomputable def Suite.ts {X : Cx} {CS : Addr} {i : Nat} {sts : List Stmt} {g : Str -> Option D} (hs : Suite X CS i sts g) (e : Addr) (oe : Obj) : TS := fun Z σ H => ∃ (m : Str) (d : L2.D) (hg : g m = some d) (C : Addr) (hC : ErrC X.K m C), Classical.choose (hs m d hg C hC).2 e oe Z σ H
theorem Suite.pss {X : Cx} {CS : Addr} {i : Nat} {sts : List Stmt} {g : Str -> Option D} (hs : Suite X CS i sts g) (e : Addr) (oe : Obj) : PSs (X.within e oe) sts (hs.ts e oe) := by
  intro pins s σ H Z I h
  obtain ⟨m, d, hg, C, hC, z⟩ := h
  exact (Classical.choose_spec (hs m d hg C hC).2).1 e oe pins s σ H Z I z
section
variable {X : Cx} {E : XK} {Γ Γl Γ' : List Cl} {k : Nat} {CS : Addr} {ps : List Str} {F : List D -> R D} {nA : Nat} {x xc n : Str} {p pos pos' pc hpos tpos : Pos} {e : Expr} {es : List Expr} {u : Tn -> R (List D)} {c : Rc} {i : Nat} {b₀ : Stmt} {suite : List Stmt} {g : Str -> Option D}
theorem ms_tryE (O : Own X.prog X.w X.K X.mg X.base x k ps (spM X.K F nA)) (hN : X.N.Nodup) (hr : Room k X.A) (hg : Gl X x) (ha : MA X.nox (fun _ _ _ => False) Γ (e :: es) u c) (hgc : Gl X xc) (hmc : X.mg xc = some (.ref CS)) (hi : X.N[i]? = some n) (hx : X.env.scope.names.lookup n = some .local) (hil : i < X.N.length) (hΓ : Γ.length = X.N.length) (hs : Suite X CS i (b₀ :: suite) g)
    (hst : autoParam (X.stack = X.env :: X.outer) L2.au3._auto_1) (hf : autoParam (X.env.frame = some X.env.locals) L2.au3._auto_1) (hc : autoParam (X.calm = true) L2.au3._auto_1) (hl : autoParam ((e :: es).length = nA) L2.au3._auto_1)
    (hdb : autoParam ((x == ("__debug__" : Str)) = false) L2.au1._auto_1) (hdc : autoParam ((xc == ("__debug__" : Str)) = false) L2.au1._auto_1)
    (he : autoParam (starEach (e :: es) X.env = (false, eval e X.env) :: starEach es X.env) L2.au3._auto_1) (hpl : autoParam ((backTo pos (starEach es X.env)).any (·.1) = false) L2.au3._auto_1)
    (hsw : autoParam (swapsWith (.Call (.Name x p) (e :: es) [] pos) none pos'.line X.env = pure false) L2.au3._auto_1) :
    MS X E Γl Γ (.Try [.Expr (.Call (.Name x p) (e :: es) [] pos) pos'] [.ExceptHandler (some (.Name xc pc)) (some n) (b₀ :: suite) hpos] [] [] tpos) (sTryE F u g) Γ := by
  obtain ⟨hlen, ta, pa, q⟩ := ha
  refine ⟨_, ps_tryO O hst hf hc hN hr hg pa hgc hmc hi hx hs.pss hdb hdc he hpl hsw, fun B σ H τ Z ok h => ?_⟩
  obtain ⟨O', eok, _⟩ := ok.eok
  refine q O' σ H τ _ eok ?_
  unfold sTryE at h
  cases hu : u τ with
  | ok ds =>
    rw [hu] at h
    dsimp only at h
    refine fun vs H1 L s r _ => ?_
    have hv : (vs ++ []).length = nA := by rw [List.append_nil, r.length, hlen τ ds hu]; exact hl
    refine ⟨hv, ds, L, by rw [List.append_nil]; exact r, ?_⟩
    have sB : Same B H1 := ok.ext.trans s
    cases hF : F ds with
    | ok d =>
      rw [hF] at h
      exact fun v H' L' s' r' k' => h σ H' (ok.same (s.trans s'))
    | err m =>
      rw [hF] at h
      dsimp only at h
      cases hgm : g m with
      | some d =>
        rw [hgm] at h
        dsimp only at h
        intro C H' hC s'
        refine ⟨C, rfl, (hs m d hgm C hC).1, fun e1 oe hcls hn => ⟨m, d, hgm, C, hC, ?_⟩⟩
        refine (Classical.choose_spec (hs m d hgm C hC).2).2 e1 oe _ _ H' (by rw [List.length_set, ok.lσ, hΓ]) hcls hn ?_ fun v H2 s2 r2 => h v H2 [] ((sB.trans s').trans s2) r2 List.nodup_nil fun a ha => nomatch ha
        rw [List.getElem?_set_self (by rw [ok.lσ, hΓ]; exact hil)]
      | none => rw [hgm] at h; exact h.elim
    | bad => rw [hF] at h; exact h.elim
  | err m => rw [hu] at h; exact h.elim
  | bad => rw [hu] at h; exact h.elim
end
end L2
set_option maxRecDepth 100000
set_option maxHeartbeats 4000000
namespace L2
open PySem PySem.Spec PyProof.Rows
inductive ClVs : List V -> List Value -> Prop where
  | nil : ClVs [] []
  | cons {c : V} {u : Value} {cs : List V} {us : List Value} (h : ClV c u) (t : ClVs cs us) : ClVs (c :: cs) (u :: us)
theorem ClVs.vals : ∀ {cs : List V} {us its : List Value}, ClVs cs us -> Vals cs its -> its = us
  | _, _, _, .nil, .nil => rfl
  | _, _, _, .cons h t, .cons r rs => by
    rw [ClVs.vals t rs]
    congr 1
    cases h with
    | ref a => exact r
    | ty n => exact r
noncomputable def rIsiT (K : PySem.W.Frag) (pn : List (Addr × Obj)) : List V -> Hp -> VK -> Prop := fun xs H Q => ∃ a oe C tp cs us b, xs = [.ref a, .ref tp] /\ (a, oe) ∈ pn /\ oe.cls = .ref C /\ ErrI K C /\ SqT K H tp cs /\ ClVs cs us /\ PySem.W.kitAny K (.ref C) us = some b /\ Q (.bl b) H
theorem call_isiT {X : Cx} : CallR X (.builtin "isinstance") (rIsiT X.K X.pn) := by
  intro pins s σ H xs us Q I r h
  obtain ⟨a, oe, C, tp, cs, cus, b, rfl, hm, hc, ci, ht, hcl, hk, q⟩ := h
  obtain ⟨u1, u2, rfl, rx, rc⟩ := vals2 r
  obtain rfl : u1 = Value.ref a := rx
  obtain rfl : u2 = Value.ref tp := rc
  obtain ⟨e1, _⟩ := I.pin _ (List.mem_append_left _ hm)
  obtain ⟨its, rv, ⟨o, ho, hcls, n, hd⟩, _⟩ := I.tuple ht
  have e2 := hcl.vals rv
  subst e2
  obtain ⟨cls, dd, data, sl⟩ := o
  have hcls : cls = .type "tuple" := hcls
  have hd : data = .seq its.toArray n := hd
  subst hcls hd
  exact PySem.W.kia_tup (kitx_exc ci) I.kIn ⟨_, e1, hc⟩ ho hk (fun z => by cases z) fun tk => ⟨.bl b, H, I.tok tk, rfl, q⟩
section
variable {X : Cx} {E : XK} {Γ Γl : List Cl} {pos : Pos}
end
end L2
set_option maxRecDepth 100000
set_option maxHeartbeats 4000000
namespace L2
open PySem PySem.Spec PyProof.Rows
theorem ms_raiseE {P : Program} {w : World} {K : PySem.W.Frag} {mg : Str -> Option Value} {base : Heap} {N : List Str} {qual : Str} {scope : Scope} {f : Addr} {cd : Value} {A : Around} {outer : List Env} {s : Shared} {H : Hp} {E : XK} {Γ Γl Γ' : List Cl}
    {x : Str} {e₀ : Expr} {u : Tn -> R (List D)} {c : Rc} {np cpos pos : Pos} (hc : ∃ C, ErrC K x C) (hg : Gl (cxOf (cxx P w) P w K mg base N qual scope f cd A outer s H E) x)
    (ha : MA (cxOf (cxx P w) P w K mg base N qual scope f cd A outer s H E) E Γ [e₀] u c) (hd : autoParam ((x == ("__debug__" : Str)) = false) L2.au1._auto_1)
    (he : autoParam (starEach [e₀] (envOfC qual scope s.heap.objs.size f cd) = (false, eval e₀ (envOfC qual scope s.heap.objs.size f cd)) :: starEach [] (envOfC qual scope s.heap.objs.size f cd)) L2.au3._auto_1) :
    MS (cxOf (cxx P w) P w K mg base N qual scope f cd A outer s H E) E Γl Γ (.Raise (some (.Call (.Name x np) [e₀] [] cpos)) none pos) (sErr x u) Γ' := by
  obtain ⟨C, hc⟩ := hc
  exact ms_raise hc hg ha hd he
section
variable {X : Cx} {E : XK} {Γ Γl Γ' : List Cl} {k : Nat} {ps : List Str} {F : List D -> R D} {nA : Nat} {x xc n : Str} {p pos pos' pc hpos tpos : Pos} {e : Expr} {es : List Expr} {u : Tn -> R (List D)} {c : Rc} {i : Nat} {b₀ : Stmt} {suite : List Stmt} {g : Str -> Option D}
theorem ms_tryEC (O : Own X.prog X.w X.K X.mg X.base x k ps (spM X.K F nA)) (hN : X.N.Nodup) (hr : Room k X.A) (hg : Gl X x) (ha : MA X.nox (fun _ _ _ => False) Γ (e :: es) u c) (hgc : Gl X xc) (hi : X.N[i]? = some n) (hx : X.env.scope.names.lookup n = some .local) (hil : i < X.N.length) (hΓ : Γ.length = X.N.length) (hs : ∃ CS, X.mg xc = some (.ref CS) /\ Suite X CS i (b₀ :: suite) g)
    (hst : autoParam (X.stack = X.env :: X.outer) L2.au3._auto_1) (hf : autoParam (X.env.frame = some X.env.locals) L2.au3._auto_1) (hc : autoParam (X.calm = true) L2.au3._auto_1) (hl : autoParam ((e :: es).length = nA) L2.au3._auto_1)
    (hdb : autoParam ((x == ("__debug__" : Str)) = false) L2.au1._auto_1) (hdc : autoParam ((xc == ("__debug__" : Str)) = false) L2.au1._auto_1)
    (he : autoParam (starEach (e :: es) X.env = (false, eval e X.env) :: starEach es X.env) L2.au3._auto_1) (hpl : autoParam ((backTo pos (starEach es X.env)).any (·.1) = false) L2.au3._auto_1)
    (hsw : autoParam (swapsWith (.Call (.Name x p) (e :: es) [] pos) none pos'.line X.env = pure false) L2.au3._auto_1) :
    MS X E Γl Γ (.Try [.Expr (.Call (.Name x p) (e :: es) [] pos) pos'] [.ExceptHandler (some (.Name xc pc)) (some n) (b₀ :: suite) hpos] [] [] tpos) (sTryE F u g) Γ := by
  obtain ⟨CS, h1, h2⟩ := hs
  exact ms_tryE O hN hr hg ha hgc h1 hi hx hil hΓ h2 hst hf hc hl hdb hdc he hpl hsw
end
end L2
set_option maxRecDepth 100000
set_option maxHeartbeats 4000000
namespace L2
open PySem PySem.Spec PyProof.Rows
section
variable {X : Cx} {pins : List (Addr × Obj)} {σ : St} {H : Hp} {s : Shared} {xc : Str} {N' : List Str} {fr : List (Option Nat)} {scope : Scope} {fp : List Addr}
end
section
variable {X : Cx} {pins : List (Addr × Obj)} {σ τ : St} {H H₃ H5 : Hp} {s₃ s5 : Shared} {xc : Str} {N' : List Str} {scope : Scope} {fp : List Addr}
end
end L2
set_option maxRecDepth 100000
set_option maxHeartbeats 4000000
namespace L2
open PySem PySem.Spec PyProof.Rows
section
variable {X : Cx} {E : XK} {Γ : List Cl} {pos : Pos}
end
theorem lenS {α : Type} {us : List α} {n : Nat} (h : us.length = n + 1) : ∃ a t, us = a :: t /\ t.length = n := by
  cases us with
  | nil => cases h
  | cons a t => exact ⟨a, t, rfl, Nat.succ.inj h⟩
theorem len0 {α : Type} {us : List α} (h : us.length = 0) : us = [] := List.length_eq_zero_iff.mp h
theorem bd1 {α : Type} {P : List α -> Prop} (h : ∀ a, P [a]) : ∀ us : List α, us.length = 1 -> P us := fun us hl => by
  obtain ⟨a, t, rfl, h1⟩ := lenS hl
  cases len0 h1
  exact h a
theorem bd2 {α : Type} {P : List α -> Prop} (h : ∀ a b, P [a, b]) : ∀ us : List α, us.length = 2 -> P us := fun us hl => by
  obtain ⟨a, t, rfl, h1⟩ := lenS hl
  exact bd1 (P := fun t => P (a :: t)) (h a) t h1
theorem bd3 {α : Type} {P : List α -> Prop} (h : ∀ a b c, P [a, b, c]) : ∀ us : List α, us.length = 3 -> P us := fun us hl => by
  obtain ⟨a, t, rfl, h1⟩ := lenS hl
  exact bd2 (P := fun t => P (a :: t)) (h a) t h1
end L2
set_option maxRecDepth 100000
set_option maxHeartbeats 4000000
namespace L2
open PySem PySem.Spec PyProof.Rows
end L2
set_option maxRecDepth 100000
set_option maxHeartbeats 4000000
namespace L2
open PySem PySem.Spec PyProof.Rows
section
variable {X : Cx} {E : XK} {Γ Γl : List Cl} {x1 x2 xr d nm : Str} {F1 F2 : List D -> R D} {es : List Expr} {u : Tn -> R (List D)} {c : Rc} {i k n : Nat} {f1 f2 : Addr} {ps : List Str} {p1 p2 p3 p4 p5 p6 p7 p8 p9 p10 p11 p12 : Pos} {ct : Nat} {jj : _}
end
theorem me_disp0 {X : Cx} {E : XK} {Γ : List Cl} {pos : Pos} : ME X E Γ (.Dict [] [] pos) (eC (.dic [] [])) .fresh :=
  ⟨_, pe_dnewK, fun O σ H τ Q ok h p hp => h (.ref p) _ [p] (Same.new hp) ⟨p, [], [], rfl, upd_same, rfl, rfl, List.nodup_nil, rfl, rfl⟩ ⟨List.nodup_cons.mpr ⟨List.not_mem_nil, List.nodup_nil⟩, fun a ha => by rw [List.mem_singleton.mp ha]; exact hp⟩⟩
end L2
set_option maxRecDepth 100000
set_option maxHeartbeats 4000000
namespace L2
open PySem PySem.Spec PyProof.Rows
section
variable {K : PySem.W.Frag} {Γ : List Cl} {B H : Hp} {σ : St} {τ : Tn} {T T' : List Addr}
theorem SOk.subT (h : SOk K Γ B H σ τ T) (nd : T'.Nodup) (hs : ∀ a ∈ T', a ∈ T) : SOk K Γ B H σ τ T' := by
  obtain ⟨Ls, h1, h2, h3, h4, h5, h6⟩ := h.ex
  exact ⟨h.ext, h.lσ, h.lτ, Ls, h1, h2, h3, nd, fun a ha => h5 a (hs a ha), fun i c e hc a ha hm => h6 i c e hc a ha (hs a hm)⟩
theorem SOk.nodT (h : SOk K Γ B H σ τ T) : T.Nodup := by
  obtain ⟨Ls, h1, h2, h3, h4, h5, h6⟩ := h.ex
  exact h4
end
noncomputable def catD : D -> D -> R D
  | .lst xs, .lst ys => if xs.length + ys.length <= sizeLine then .ok (.lst (xs ++ ys)) else .bad
  | _, _ => .bad
theorem mv_cat {X : Cx} {E : XK} {Γ Γ1 Γ2 : List Cl} {a b : Expr} {ta tb : Tn -> R D} {pos : Pos} (ha : MV X E Γ a ta Γ1) (hb : MV X E Γ1 b tb Γ2) : MV X E Γ (.BinOp a .Add b pos) (eBin catD ta tb) Γ2 := by
  obtain ⟨te1, p1, q1⟩ := ha
  obtain ⟨te2, p2, q2⟩ := hb
  refine ⟨_, pe_op op_cat p1 p2, fun B σ H τ T Q ok h => q1 B σ H τ T _ ok ?_⟩
  unfold eBin at h
  cases h1 : ta τ with
  | err n => rw [h1] at h; exact h
  | bad => rw [h1] at h; exact h
  | ok d1 =>
    rw [h1, R.ok_bind] at h
    refine fun v H1 L s1 r1 ok1 => q2 B σ H1 τ (L ++ T) _ ok1 ?_
    cases h2 : tb τ with
    | err n => rw [h2] at h; exact h
    | bad => rw [h2] at h; exact h
    | ok d2 =>
      rw [h2, R.ok_bind] at h
      refine fun w H2 L2 s2 r2 ok2 => ?_
      have r1 := r1.same s2
      unfold catD at h
      split at h
      · rename_i xs ys
        split at h
        · rename_i hz
          obtain ⟨l, vs, L1', rfl, hl, rfl, rs⟩ := r1
          obtain ⟨b, ws, L2', rfl, hb, rfl, qs⟩ := r2
          refine ⟨l, b, vs, ws, rfl, rfl, hl, hb, by rw [rs.length, qs.length]; exact hz, fun p hp => ?_⟩
          have sn : Same H2 (upd H2 p (.lst (vs ++ ws))) := Same.new hp
          refine h (.ref p) _ (p :: (L1' ++ L2')) ((s1.trans s2).trans sn) ⟨p, vs ++ ws, L1' ++ L2', rfl, upd_same, rfl, Reps.append (rs.same sn) (qs.same sn)⟩ ?_
          have ok3 := ok2.aside (L := [p]) sn (fun a ha => by rw [List.mem_singleton.mp ha, upd_same]; simp) (List.nodup_cons.mpr ⟨List.not_mem_nil, List.nodup_nil⟩) (fun a ha => by rw [List.mem_singleton.mp ha]; exact hp)
          have nd := ok3.nodT
          have pm : List.Perm ([p] ++ ((b :: L2') ++ ((l :: L1') ++ T))) (b :: l :: ((p :: (L1' ++ L2')) ++ T)) := by
            rw [List.perm_iff_count]
            intro a
            simp only [List.count_append, List.count_cons, List.count_nil]
            lia
          have nd2 := (List.nodup_cons.mp (List.nodup_cons.mp (pm.nodup_iff.mp nd)).2).2
          exact ok3.subT nd2 fun a ha => pm.mem_iff.mpr (List.mem_cons_of_mem _ (List.mem_cons_of_mem _ ha))
        · exact h.elim
      · exact h.elim
end L2
set_option maxRecDepth 100000
set_option maxHeartbeats 4000000
namespace L2
open PySem PySem.Spec PyProof.Rows
section
variable {P : Program} {w : World} {K : PySem.W.Frag} {mg : Str -> Option Value} {base : Heap} {x : Str} {st : Stmt} {N ps : List Str} {k : Nat} {t : Tn -> R Fl} {Γ' : List Cl}
end
noncomputable def isB (neg : Bool) : D -> D -> R D
  | .bl c, .bl d => .ok (.bl (if neg = true then c != d else c == d))
  | _, _ => .bad
theorem N_isB {neg : Bool} : NoErr (isB neg) := fun x y n h => by
  unfold isB at h
  split at h <;> cases h
theorem op_isB {X : Cx} : OpR X (compareOp .Is) (fun x y H Q => ∃ c d, x = .bl c /\ y = .bl d /\ Q (.bl (c == d)) H) := by
  intro pins s σ H x y v u Q I rx ry h
  obtain ⟨c, d, rfl, rfl, q⟩ := h
  cases rx
  cases ry
  exact is_bool (fin_bl I q rfl)
theorem op_notB {X : Cx} : OpR X (compareOp .IsNot) (fun x y H Q => ∃ c d, x = .bl c /\ y = .bl d /\ Q (.bl (c != d)) H) := by
  intro pins s σ H x y v u Q I rx ry h
  obtain ⟨c, d, rfl, rfl, q⟩ := h
  cases rx
  cases ry
  exact isnot_bool (fin_bl I q rfl)
theorem B_isB {K : PySem.W.Frag} : OpB K (fun x y H Q => ∃ c d, x = .bl c /\ y = .bl d /\ Q (.bl (c == d)) H) (isB false) := by
  rintro H x y dx dy Lx Ly Q rx ry ⟨d, hg, q⟩
  unfold isB at hg
  split at hg
  · cases hg
    exact ⟨_, _, rx.1, ry.1, q _ H [] (Same.refl H) ⟨rfl, rfl⟩ (by simp) (fun a ha => nomatch ha)⟩
  · cases hg
theorem B_notB {K : PySem.W.Frag} : OpB K (fun x y H Q => ∃ c d, x = .bl c /\ y = .bl d /\ Q (.bl (c != d)) H) (isB true) := by
  rintro H x y dx dy Lx Ly Q rx ry ⟨d, hg, q⟩
  unfold isB at hg
  split at hg
  · cases hg
    exact ⟨_, _, rx.1, ry.1, q _ H [] (Same.refl H) ⟨rfl, rfl⟩ (by simp) (fun a ha => nomatch ha)⟩
  · cases hg
section
variable {K : PySem.W.Frag} {pn : List (Addr × Obj)} {σ : St} {H : Hp} {Q : VK} {e : Addr} {oe : Obj} {C : Addr}
end
end L2
set_option maxRecDepth 100000
set_option maxHeartbeats 4000000
namespace L2
open PySem PySem.Spec PyProof.Rows
section
variable {X : Cx} {E : XK} {Γ Γ1 Γ2 Γa Γb Γl Γ' : List Cl} {pos : Pos}
end
section
variable {X : Cx} {E : XK} {Γ Γl : List Cl} {pos : Pos} {e : Expr} {t : Tn -> R D} {c : Rc}
end
end L2
set_option maxRecDepth 100000
set_option maxHeartbeats 4000000
namespace L2
open PySem PySem.Spec PyProof.Rows
section
open PySem.SeqAt PySem.MeetsSeq3
open PySem.AutoSeq1 (wpAny_loadPart')
end
end L2
set_option maxRecDepth 100000
set_option maxHeartbeats 4000000
namespace L2
open PySem PySem.Spec PyProof.Rows
section
variable {X : Cx} {E : XK} {Γ Γl : List Cl} {pos : Pos} {e : Expr} {t : Tn -> R D} {c : Rc}
end
end L2
set_option maxRecDepth 100000
set_option maxHeartbeats 4000000
namespace L2
open PySem PySem.Spec PyProof.Rows
noncomputable def eSm0 (g : Str -> R D) (t : Tn -> R D) : Tn -> R D := fun τ => (t τ).bind fun d => match d with
  | .str z => g z
  | _ => .bad
section
variable {X : Cx} {E : XK} {Γ : List Cl} {o : Expr} {t : Tn -> R D} {c : Rc} {apos cpos : Pos}
end
end L2
set_option maxRecDepth 100000
set_option maxHeartbeats 4000000
namespace L2
open PySem PySem.Spec PyProof.Rows
section
variable {X : Cx} {E : XK} {Γ : List Cl} {e : Expr} {t : Tn -> R D} {c : Rc}
end
end L2
set_option maxRecDepth 100000
set_option maxHeartbeats 4000000
namespace L2
open PySem PySem.Spec PyProof.Rows
section
variable {X : Cx} {E : XK} {Γ : List Cl} {e : Expr} {t : Tn -> R D} {c : Rc} {p2 p3 p4 pos : Pos} {j : Nat}
end
end L2
set_option maxRecDepth 100000
set_option maxHeartbeats 4000000
namespace L2
open PySem PySem.Spec PyProof.Rows
theorem SOk.slotF {K : PySem.W.Frag} {Γ : List Cl} {B H : Hp} {σ : St} {τ : Tn} {i : Nat} (h : SOk K Γ B H σ τ []) (e : Γ[i]? = some .own) : ∃ v d L, σ[i]? = some (some v) /\ τ[i]? = some (some d) /\ Rep K H d v L /\ L.Nodup /\ (∀ a ∈ L, B a = none) /\
    ∀ (H2 : Hp) (d2 : D) (L2 : List Addr), TF H H2 -> (∀ b, b ∉ L -> H b ≠ none -> H2 b = H b) -> Rep K H2 d2 v L2 -> (∀ a ∈ L2, a ∈ L \/ H a = none) -> L2.Nodup -> SOk K Γ B H2 σ (τ.set i (some d2)) [] := by
  obtain ⟨Ls, h1, h2, h3, h4, h5, h6⟩ := h.ex
  obtain ⟨v, d, e1, e2, r⟩ := h1 i _ e (by simp)
  refine ⟨v, d, Ls i, e1, e2, r, (h2 i e).1, (h2 i e).2, ?_⟩
  intro H2 d2 L2 tf kp r2 sub nd
  have hτ : i < τ.length := (List.getElem?_eq_some_iff.mp e2).1
  have notL : ∀ b, B b ≠ none -> b ∉ Ls i := fun b hb hm => hb ((h2 i e).2 b hm)
  refine ⟨fun b o q => ?_, h.lσ, by rw [List.length_set]; exact h.lτ, putL Ls i L2, fun j c ej hc => ?_, fun j ej => ?_, fun j k c hjk ej ek hc a ha hm => ?_, List.nodup_nil, fun a ha => (nomatch ha), fun j c ej hc a ha hm => (nomatch hm)⟩
  · have hq := h.ext b o q
    rw [kp b (notL b (by rw [q]; simp)) (by rw [hq]; simp)]; exact hq
  · by_cases z : j = i
    · subst z
      refine ⟨v, d2, e1, by rw [List.getElem?_set_self hτ], ?_⟩
      rw [putL_self]; exact r2
    · obtain ⟨v', d', q1, q2, r'⟩ := h1 j c ej hc
      refine ⟨v', d', q1, by rw [List.getElem?_set_ne (Ne.symm z)]; exact q2, ?_⟩
      rw [putL_ne z]
      exact Rep.keep tf d' v' _ r' fun a ha => kp a (fun hm => h3 i j c (Ne.symm z) e ej hc a hm ha) (r'.there ha)
  · by_cases z : j = i
    · subst z
      rw [putL_self]
      refine ⟨nd, fun a ha => ?_⟩
      rcases sub a ha with m | m
      · exact (h2 _ e).2 a m
      · exact h.ext.non m
    · rw [putL_ne z]; exact h2 j ej
  · by_cases z : j = i
    · subst z
      rw [putL_self] at ha
      rw [putL_ne (Ne.symm hjk)] at hm
      rcases sub a ha with m | m
      · exact h3 _ k c hjk e ek hc a m hm
      · obtain ⟨v', d', q1, q2, r'⟩ := h1 k c ek hc
        exact r'.there hm m
    · rw [putL_ne z] at ha
      by_cases z2 : k = i
      · subst z2
        rw [putL_self] at hm
        rcases sub a hm with m | m
        · exact h3 j _ _ hjk ej e (by simp) a ha m
        · obtain ⟨v', d', q1, q2, r'⟩ := h1 j _ ej (by simp)
          exact r'.there ha m
      · rw [putL_ne z2] at hm; exact h3 j k c hjk ej ek hc a ha hm
section
variable {X : Cx} {E : XK} {Γ Γl : List Cl} {pos : Pos} {e : Expr} {t : Tn -> R D} {c : Rc}
end
end L2
set_option maxRecDepth 100000
set_option maxHeartbeats 4000000
namespace L2
open PySem PySem.Spec PyProof.Rows
section
variable {X : Cx} {E : XK} {Γ Γl : List Cl} {pos : Pos} {e : Expr} {t : Tn -> R D} {c : Rc}
end
end L2
set_option maxRecDepth 100000
set_option maxHeartbeats 4000000
namespace L2
open PySem PySem.Spec PyProof.Rows PySem.Builtin.Str
noncomputable def rFind : V -> List V -> Hp -> VK -> Prop := fun x xs H Q => ∃ z y, x = .str z /\ xs = [.str y] /\ Q (.int (Txt.find z y)) H
theorem mt_find1 {X : Cx} : MtR X "str.find" rFind := by
  intro pins s σ H x xs v us Q I rx rs h
  obtain ⟨z, y, rfl, rfl, q⟩ := h
  obtain ⟨t, rfl⟩ := rx
  obtain ⟨u, rfl, ru⟩ := vals1 rs
  obtain ⟨t2, rfl⟩ := ru
  exact SC.find ⟨.int (Txt.find z y), H, I.tok _, ⟨_, rfl⟩, q⟩
noncomputable def findD (z : Str) : List D -> R D
  | [.str y] => .ok (.int (Txt.find z y))
  | _ => .bad
theorem one_str {K : PySem.W.Frag} {H : Hp} {y : Str} {vs : List V} {L : List Addr} (r : Reps K H [.str y] vs L) : vs = [.str y] := by
  obtain ⟨v, vs', L1, L2, e1, _, r1, r2⟩ := r
  rw [e1, r1.1, r2.1]
theorem N_find (z : Str) : NoErrL (findD z) := fun ds n h => by
  unfold findD at h
  split at h <;> cases h
theorem B_find {K : PySem.W.Frag} : SmB K rFind findD := by
  rintro H z xs ds L Q rs ⟨d, hg, q⟩
  unfold findD at hg
  split at hg
  · rename_i y
    cases hg
    exact ⟨z, y, rfl, one_str rs, q _ H [] (Same.refl H) ⟨rfl, rfl⟩ (by simp) (fun a ha => nomatch ha)⟩
  · cases hg
noncomputable def rIndex : V -> List V -> Hp -> VK -> Prop := fun x xs H Q => ∃ z y i rest, x = .str z /\ xs = [.str y] /\ occurrences z y 0 z.length 1 = i :: rest /\ Q (.int (i : Nat)) H
theorem mt_index1 {X : Cx} : MtR X "str.index" rIndex := by
  intro pins s σ H x xs v us Q I rx rs h
  obtain ⟨z, y, i, rest, rfl, rfl, ho, q⟩ := h
  obtain ⟨t, rfl⟩ := rx
  obtain ⟨u, rfl, ru⟩ := vals1 rs
  obtain ⟨t2, rfl⟩ := ru
  exact SC.index ho ⟨.int (i : Nat), H, I.tok _, ⟨_, rfl⟩, q⟩
noncomputable def indexD (z : Str) : List D -> R D
  | [.str y] => match occurrences z y 0 z.length 1 with
    | i :: _ => .ok (.int (i : Nat))
    | [] => .bad
  | _ => .bad
theorem N_index (z : Str) : NoErrL (indexD z) := fun ds n h => by
  unfold indexD at h
  split at h
  · split at h <;> cases h
  · cases h
theorem B_index {K : PySem.W.Frag} : SmB K rIndex indexD := by
  rintro H z xs ds L Q rs ⟨d, hg, q⟩
  unfold indexD at hg
  split at hg
  · rename_i y
    split at hg
    · rename_i i rest ho
      cases hg
      exact ⟨z, y, i, rest, rfl, one_str rs, ho, q _ H [] (Same.refl H) ⟨rfl, rfl⟩ (by simp) (fun a ha => nomatch ha)⟩
    · cases hg
  · cases hg
noncomputable def lowD (z : Str) : R D := if z.length <= 5592405 then .ok (.str (Txt.lower z)) else .bad
noncomputable def rLow : V -> List V -> Hp -> VK -> Prop := fun x xs H Q => ∃ z, x = .str z /\ xs = [] /\ z.length <= 5592405 /\ Q (.str (Txt.lower z)) H
theorem mt_low {X : Cx} : MtR X "str.lower" rLow := by
  intro pins s σ H x xs v us Q I rx rs h
  obtain ⟨z, rfl, rfl, hz, q⟩ := h
  obtain ⟨t, rfl⟩ := rx
  cases rs
  exact SC.lower (fit_lower hz) ⟨.str (Txt.lower z), H, I.tok _, ⟨_, rfl⟩, q⟩
section
variable {X : Cx} {E : XK} {Γ : List Cl} {o : Expr} {t : Tn -> R D} {c : Rc} {apos cpos : Pos}
theorem me_lower (ho : ME X E Γ o t c) (hbase : autoParam (attributeBase o "lower" X.env (eval o X.env) = eval o X.env) L2.au3._auto_1) (hline : autoParam ((apos.endLine == cpos.line) = true) L2.au3._auto_1) :
    ME X E Γ (.Call (.Attribute o "lower" apos) [] [] cpos) (eSm0 lowD t) .fresh := by
  obtain ⟨te, p, q⟩ := ho
  refine ⟨_, pe_bm0 PySem.F.plainAttrs_str PySem.F.slot_str_lower PySem.F.type_str_lower mt_low p hbase hline, fun O σ H τ Q ok h => ?_⟩
  unfold eSm0 at h
  refine q O σ H τ _ ok (post.bind h fun d hd h x H1 L1 s1 r1 _ => ?_)
  cases d with
  | str z =>
    obtain ⟨rfl, _⟩ := r1
    dsimp only at h
    unfold lowD at h
    by_cases hz : z.length <= 5592405
    · rw [if_pos hz] at h
      exact ⟨rfl, z, rfl, rfl, hz, h _ H1 [] s1 ⟨rfl, rfl⟩ ⟨by simp, fun a ha => nomatch ha⟩⟩
    · rw [if_neg hz] at h; exact h.elim
  | _ => exact h.elim
end
noncomputable def inS (a b : Str) : Bool := !(occurrences b a 0 b.length 1).isEmpty
noncomputable def rInS : R2 := fun x y H Q => ∃ a b, x = .str a /\ y = .str b /\ Q (.bl (inS a b)) H
theorem op_inS {X : Cx} : OpR X (compareOp .In) rInS := by
  intro pins s σ H x y v u Q I rx ry h
  obtain ⟨a, b, rfl, rfl, q⟩ := h
  obtain ⟨t, rfl⟩ := rx
  obtain ⟨t', rfl⟩ := ry
  exact in_str ⟨.bl (inS a b), H, I, rfl, q⟩
noncomputable def inSD : D -> D -> R D
  | .str a, .str b => .ok (.bl (inS a b))
  | _, _ => .bad
theorem N_inS : NoErr inSD := fun x y n h => by
  unfold inSD at h
  split at h <;> cases h
theorem B_inS {K : PySem.W.Frag} : OpB K rInS inSD := by
  rintro H x y dx dy Lx Ly Q rx ry ⟨d, hg, q⟩
  unfold inSD at hg
  split at hg
  · cases hg
    exact ⟨_, _, rx.1, ry.1, q _ H [] (Same.refl H) ⟨rfl, rfl⟩ (by simp) (fun a ha => nomatch ha)⟩
  · cases hg
end L2
set_option maxRecDepth 100000
set_option maxHeartbeats 4000000
namespace L2
open PySem PySem.Spec PyProof.Rows
noncomputable def Bump {α : Type} (t : Sem α) : Prop := ∀ (M : Model) (Γ : PySem.Ctx) (Q : α -> Pos -> Shared -> Prop) (E : Value -> Pos -> Shared -> Prop) (p : Pos) (s : Shared), Sem.wp M Γ t Q E p s -> Sem.wp M Γ t (fun a p' s' => 0 < s'.toks /\ Q a p' s') E p s
theorem bump_bind1 {α β : Type} {m : Sem α} {f : α -> Sem β} (h : Bump m) : Bump (m >>= f) := fun M Γ Q E p s hw => by
  rw [Sem.wp_bind'] at hw ⊢
  refine Sem.wp_mono M Γ m (fun a p' s' h' => ?_) (fun _ _ _ h => h) p s (h M Γ _ E p s hw)
  exact Sem.wp_mono M Γ (f a) (fun _ _ _ h => h) (fun _ _ _ h => h.2) p' s' (Sem.wp_toks M Γ 1 (f a) Q E p' s' h'.1 h'.2)
theorem bump_bind2 {α β : Type} {m : Sem α} {f : α -> Sem β} (h : ∀ a, Bump (f a)) : Bump (m >>= f) := fun M Γ Q E p s hw => by
  rw [Sem.wp_bind'] at hw ⊢
  exact Sem.wp_mono M Γ m (fun a p' s' h' => h a M Γ Q E p' s' h') (fun _ _ _ h => h) p s hw
theorem bump_fresh : Bump PySem.fresh := fun M Γ Q E p s hw => ⟨Nat.succ_pos _, hw⟩
theorem bump_nsSet {a : Addr} {x : Str} {v : Value} : Bump (nsSet a x v) := bump_bind2 fun _ => bump_bind1 (bump_bind1 bump_fresh)
theorem bump_store {env : Env} {x : Str} {v : Value} (hk : env.scope.kind = .function) (hl : env.kindOf x = some .local) : Bump (storeName env x v) := by
  have e : storeName env x v = nsSet env.locals x v := by
    unfold storeName
    rw [hl, hk]
    rfl
  rw [e]
  exact bump_nsSet
theorem bump_env {scope : Scope} {globals : Addr} {binds : List (Str × Value)} {qual : Str} {func : Option Addr} {code : Value} {builtins : Addr} (hk : scope.kind = .function) (hx : ∃ x v r, binds = (x, v) :: r /\ scope.names.lookup x = some .local) :
    Bump (newFunctionEnv scope globals [] binds qual func code none builtins) := by
  obtain ⟨x, v, r, rfl, hx⟩ := hx
  simp only [newFunctionEnv, Option.isSome_none, Bool.false_eq_true, if_false]
  refine bump_bind2 fun L => bump_bind2 fun cells => bump_bind1 ?_
  rw [List.forIn_cons]
  exact bump_bind1 (bump_bind1 (bump_store hk hx))
theorem nfe_tok {scope : Scope} {globals : Addr} {binds : List (Str × Value)} {qual : Str} {func : Option Addr} {code : Value} {builtins : Addr} {M : Model} {A : Around} {E : Value -> Shared -> Prop} {s : Shared} {Q : Env -> Shared -> Prop} (hk : scope.kind = .function) (hx : ∃ x v r, binds = (x, v) :: r /\ scope.names.lookup x = some .local)
    (h : wpAny M A (newFunctionEnv scope globals [] binds qual func code none builtins) (fun env s' => 0 < s'.toks -> Q env s') E s) : wpAny M A (newFunctionEnv scope globals [] binds qual func code none builtins) Q E s := fun Γ p hΓ =>
  Sem.wp_mono M Γ _ (fun a p' s' h => h.2 h.1) (fun _ _ _ h => h) p s (bump_env hk hx M Γ _ _ p s (h Γ p hΓ))
noncomputable def PSsT (X : Cx) (st : List Stmt) (t : TS) : Prop :=
  ∀ (pins : List (Addr × Obj)) (s : Shared) (σ : St) (H : Hp) (D : Ends), 0 < s.toks -> Inv X pins σ H s -> t D σ H -> wpAny (model X.prog X.w) X.A (execs st X.env) (SP X pins D) X.xe s
noncomputable def PEp (X : Cx) (e : Expr) (t : TE) : Prop :=
  ∀ (pins : List (Addr × Obj)) (s : Shared) (σ : St) (H : Hp) (Q : VK), 0 < s.toks -> Inv X pins σ H s -> t σ H Q -> wpAny (model X.prog X.w) X.A (eval e X.env) (EP X pins σ Q) X.xe s
theorem PE.p {X : Cx} {e : Expr} {t : TE} (h : PE X e t) : PEp X e t := fun pins s σ H Q _ I => h pins s σ H Q I
theorem PEp.up {X : Cx} {e : Expr} {t : TE} (h : PEp X e t) {pins : List (Addr × Obj)} {s : Shared} {σ : St} {H : Hp} {Q : VK} (hs : 0 < s.toks) (I : Inv X pins σ H s) (ht : t σ H Q) : wpAny (model X.prog X.w) X.A (eval e X.env) (fun v s' => 0 < s'.toks /\ EP X pins σ Q v s') X.xe s :=
  wpAny_mono (wpAny_toks_of (n := 1) hs (h pins s σ H Q hs I ht)) (fun _ _ h => h) fun _ _ h => h.2
section
variable {X : Cx} {o : Expr} {to : TE} {a b : Str} {j1 j2 : Nat} {p1 p2 apos cpos : Pos}
theorem pep_repl (ho : PEp X o to) (hab : (a == b) = false) (hb : b.length <= 14)
    (hbase : autoParam (attributeBase o "replace" X.env (eval o X.env) = eval o X.env) L2.au3._auto_1)
    (hfew : autoParam (((backTo cpos (starEach [.Constant (.str a) j1 p1, .Constant (.str b) j2 p2] X.env)).all (fun x => !x.1) && (backToKw cpos (keywordEach [] X.env)).all (fun x => x.1.isSome)
      && decide ([Expr.Constant (.str a) j1 p1, .Constant (.str b) j2 p2].length + ([] : List Keyword).length + (if ([] : List Keyword).isEmpty then 0 else 1) < 30)) = true) L2.au3._auto_1)
    (hline : autoParam ((apos.endLine == cpos.line) = true) L2.au3._auto_1) (hs : autoParam (starEach [.Constant (.str a) j1 p1, .Constant (.str b) j2 p2] X.env = [(false, eval (.Constant (.str a) j1 p1) X.env), (false, eval (.Constant (.str b) j2 p2) X.env)]) L2.au3._auto_1) :
    PEp X (.Call (.Attribute o "replace" apos) [.Constant (.str a) j1 p1, .Constant (.str b) j2 p2] [] cpos) (fun σ H Q => to σ H fun x H1 => ∃ z, x = .str z /\ z.length <= 1048576 /\ Q (.str (Txt.replace z a b)) H1) := by
  intro pins s σ H Q htk I h
  refine wpAny_Call_method_late hbase hfew hline rfl (thn (ho.up htk I h) fun v s1 h1 => ?_)
  obtain ⟨tk1, x, H1, I1, r1, z, rfl, hz, q1⟩ := h1
  obtain ⟨t, rfl⟩ := r1
  refine ⟨"str", "str.replace", PySem.F.plainAttrs_str, PySem.F.slot_str_replace, PySem.F.type_str_replace, typeIs_str _ _ _, ?_, ?_⟩
  · exact fun y e => by cases e
  rw [hs]
  refine Calls.callWith_builtin rfl (Calls.evalArgs_plain ?_)
  show wpAny _ _ (spliced [(false, eval (.Constant (.str a) j1 p1) X.env), (false, eval (.Constant (.str b) j2 p2) X.env)]) _ _ _
  refine Calls.spliced_cons (Calls.Constant_str (k := j1) (pos := p1) (Calls.spliced_cons (Calls.Constant_str (k := j2) (pos := p2) (Calls.spliced_nil ?_))))
  exact SC.replaceW (by show s1.toks ≠ 0; lia) (by show s1.toks + 1 ≠ 0; lia) (by show s1.toks ≠ s1.toks + 1; lia) hab hz hb fun t' k => ⟨.str (Txt.replace z a b), H1, I1.tok _, ⟨t', rfl⟩, q1⟩
end
section
theorem fn_ofT {CX : CXT} {P : Program} {w : World} {K : PySem.W.Frag} {mg : Str -> Option Value} {base : Heap} {k : Nat} {f : Addr} {name qual : Str} {params : Arguments} {body : List Stmt} {scope : Scope} {dV kV doc pm cdv ct oc : Value} {an od : Option Addr}
    {osl : Array (Option Value)} {N ps : List Str} {sp : Sp} (lk : K.lookup f = some ⟨oc, od, .func (PySem.W.fnOf name qual params body scope dV kV doc pm an cdv ct), osl⟩) (hcd : PySem.W.codeIn K cdv qual = true) (S : FnScope N ps scope)
    (hloc : ∃ x r, ps = x :: r /\ scope.names.lookup x = some .local) (len : ∀ vs H Q E, sp vs H Q E -> vs.length = ps.length)
    (hbody : ∀ (A : Around) (outer : List Env) (s : Shared) (H : Hp) (vs : List V) (Q : VK) (E : XK), Room k (A.deeper (envOfC qual scope s.heap.objs.size f cdv)) -> sp vs H Q E ->
      ∃ t, PSsT (cxOf CX P w K mg base N qual scope f cdv A outer s H E) body t /\ t { nx := fun _ H' => Q .non H', rt := Q } (start N vs) H) :
    FnOk P w K mg base CX (k + 1) f (PySem.W.fnOf name qual params body scope dV kV doc pm an cdv ct) ps sp := by
  refine ⟨len, fun A outer s H args us vs Q E hr e0 hb r hsp => ?_⟩
  have hl := len _ _ _ _ hsp
  have KX : K.In s.heap := e0.mod.kin.keeps fun b o e => (e0.bs b o e).1
  have lim : s.heap.NoLimit := e0.mod.nolimit.keeps fun b o e => (e0.bs b o e).1
  have hkind : ∀ y ∈ ps.zip us, scope.names.lookup y.1 = some .local \/ (scope.names.lookup y.1 = some .cell /\ ((cellsFrom (s.heap.objs.size + 1) scope.names []).lookup y.1).isSome = true) := fun ⟨n, v⟩ hy => by
    rcases S.par n (List.of_mem_zip hy).1 with q | q
    · exact .inl q
    · exact .inr ⟨q, PySem.W.cellsFrom_some _ _ _ (.inl q)⟩
  refine codeAny_call_function hr.depth (KX _ _ lk) rfl S.co S.gen rfl (PySem.W.codeRec_of KX hcd) (hb _ _ _ _ ?_)
  have hlu : us.length = ps.length := by rw [<- r.length, hl]
  refine nfe_tok S.kind (by
    obtain ⟨y, q, rfl, hy⟩ := hloc
    cases us with
    | nil => cases hlu
    | cons u us => exact ⟨y, u, _, rfl, hy⟩) (wpAny_newFunctionEnv_cells S.kind hkind fun env he s1 x htk => ?_)
  subst he
  refine ⟨lim.keeps x.toInCall.keep, codeAny_func ?_⟩
  obtain ⟨t, ht, hq⟩ := hbody A outer s H vs Q E (hr.deeper _) hsp
  have I : Inv (cxOf CX P w K mg base N qual scope f cdv A outer s H E) [] (start N vs) H s1 := inv_start S hr.hd e0 hl r x
  refine wpAny_mono (ht [] s1 (start N vs) H _ htk I hq) (fun fl s' hs => ?_) fun e s' hs => hs
  have fin : ∀ {σ' : St} {H' : Hp} {v : V} {u : Value}, Inv (cxOf CX P w K mg base N qual scope f cdv A outer s H E) [] σ' H' s' -> RelV v u -> Q v H' -> CE outer P w H s Q u s' :=
    fun {σ' H' v u} J rv q => ⟨v, H', J.os, J.bare, J.base, J.hok, rv, q⟩
  cases fl with
  | ret u =>
    obtain ⟨v, σ', H', J, rv, q⟩ := hs
    exact fin J rv q
  | next =>
    obtain ⟨σ', H', J, q⟩ := hs
    exact fin (v := V.non) (u := Value.none) J rfl q
  | brk =>
    obtain ⟨_, _, _, q⟩ := hs
    exact False.elim q
  | cont =>
    obtain ⟨_, _, _, q⟩ := hs
    exact False.elim q
end
end L2
set_option maxRecDepth 100000
set_option maxHeartbeats 4000000
namespace L2
open PySem PySem.Spec PyProof.Rows
noncomputable def MEp (X : Cx) (E : XK) (Γ : List Cl) (e : Expr) (t : Tn -> R D) (c : Rc) : Prop :=
  ∃ te, PEp X e te /\ ∀ O σ H τ Q, EOk X.K Γ O H σ τ -> post X.K E O c H Q (t τ) -> te σ H Q
noncomputable def MSsT (X : Cx) (E : XK) (Γl Γ : List Cl) (s : List Stmt) (t : Tn -> R Fl) (Γ' : List Cl) : Prop :=
  ∃ ts, PSsT X s ts /\ ∀ B σ H τ Z, SOk X.K Γ B H σ τ [] -> postS X.K E B Γl Γ' Z (t τ) -> ts Z σ H
noncomputable def replD (a b : Str) : D -> R D
  | .str z => if z.length <= 1048576 then .ok (.str (Txt.replace z a b)) else .bad
  | _ => .bad
section
variable {X : Cx} {E : XK} {Γ Γ' Γl : List Cl} {e o : Expr} {t : Tn -> R D} {c : Rc} {a b : Str} {j1 j2 : Nat} {p1 p2 apos cpos pos : Pos}
theorem ME.p (h : ME X E Γ e t c) : MEp X E Γ e t c := by
  obtain ⟨te, p, q⟩ := h
  exact ⟨te, p.p, q⟩
theorem mep_repl (ho : MEp X E Γ o t c) (hab : (a == b) = false) (hb : b.length <= 14)
    (hbase : autoParam (attributeBase o "replace" X.env (eval o X.env) = eval o X.env) L2.au3._auto_1)
    (hfew : autoParam (((backTo cpos (starEach [.Constant (.str a) j1 p1, .Constant (.str b) j2 p2] X.env)).all (fun x => !x.1) && (backToKw cpos (keywordEach [] X.env)).all (fun x => x.1.isSome)
      && decide ([Expr.Constant (.str a) j1 p1, .Constant (.str b) j2 p2].length + ([] : List Keyword).length + (if ([] : List Keyword).isEmpty then 0 else 1) < 30)) = true) L2.au3._auto_1)
    (hline : autoParam ((apos.endLine == cpos.line) = true) L2.au3._auto_1) (hs : autoParam (starEach [.Constant (.str a) j1 p1, .Constant (.str b) j2 p2] X.env = [(false, eval (.Constant (.str a) j1 p1) X.env), (false, eval (.Constant (.str b) j2 p2) X.env)]) L2.au3._auto_1) :
    MEp X E Γ (.Call (.Attribute o "replace" apos) [.Constant (.str a) j1 p1, .Constant (.str b) j2 p2] [] cpos) (eUn (replD a b) t) .fresh := by
  obtain ⟨te, p, q⟩ := ho
  refine ⟨_, pep_repl p hab hb hbase hfew hline hs, fun O σ H τ Q ok h => ?_⟩
  unfold eUn at h
  refine q O σ H τ _ ok (post.bind h fun d hd h x H1 L1 s1 r1 _ => ?_)
  cases d with
  | str z =>
    obtain ⟨rfl, _⟩ := r1
    have h : post X.K E O .fresh H Q (if z.length <= 1048576 then .ok (.str (Txt.replace z a b)) else .bad) := h
    by_cases hz : z.length <= 1048576
    · rw [if_pos hz] at h
      exact ⟨z, rfl, hz, h _ H1 [] s1 ⟨rfl, rfl⟩ ⟨by simp, fun a ha => nomatch ha⟩⟩
    · rw [if_neg hz] at h; exact h.elim
  | _ => exact h.elim
theorem msT_ret (h : MEp X E Γ e t .fresh) : MSsT X E Γl Γ [.Return (some e) pos] (sRet t) Γ' := by
  obtain ⟨te, p, q⟩ := h
  refine ⟨tRet te, fun pins s σ H D htk I h => ?_, fun B σ H τ Z ok h => ?_⟩
  · refine wpAny_execs_cons (wpAny_Return_some (thn (p pins s σ H _ htk I h) fun v s1 h1 => ?_))
    obtain ⟨x, H1, I1, r1, q1⟩ := h1
    exact ⟨x, σ, H1, I1, r1, q1⟩
  · obtain ⟨O, eo, _⟩ := ok.eok
    refine q O σ H τ _ eo ?_
    unfold sRet at h
    cases ht : t τ with
    | ok d =>
      rw [ht, R.ok_bind] at h
      exact fun v H' L s r k => h v H' L (ok.ext.trans s) r k.1 fun a ha => ok.ext.non (k.2 a ha)
    | err n => rw [ht] at h; exact fun C H' e s => h C H' e (ok.ext.trans s)
    | bad => rw [ht] at h; exact h
end
section
variable {P : Program} {w : World} {K : PySem.W.Frag} {mg : Str -> Option Value} {base : Heap} {x : Str} {st : Stmt} {N ps : List Str} {k : Nat} {t : Tn -> R Fl} {Γ' : List Cl}
theorem DefIn.mirT (Df : DefIn K mg x st ps) (S : FnScope N ps (defScope st)) (hn : ps.length <= N.length) (hloc : ∃ x r, ps = x :: r /\ (defScope st).names.lookup x = some .local)
    (hbody : ∀ (f : Addr) (cdv : Value) (A : Around) (outer : List Env) (s : Shared) (H : Hp) (E : XK), Room k (A.deeper (envOfC x (defScope st) s.heap.objs.size f cdv)) ->
      MSsT (cxOf (cxx P w) P w K mg base N x (defScope st) f cdv A outer s H E) E [] (prmC N.length ps.length) (defBody st) t Γ') : Own P w K mg base x (k + 1) ps (spM K (runB N.length t) ps.length) := by
  obtain ⟨f, fd, F, hm, hb⟩ := Df.ex
  obtain ⟨oc, od, kV, doc, pm, an, cdv, ct, osl, rfl, lk, hcd⟩ := F.ex
  refine ⟨f, _, fn_ofT lk hcd S hloc (fun vs H Q E h => h.1) fun A outer s H vs Q E hr h => ?_, hm, F.kp, hb⟩
  obtain ⟨hl, ds, L, r, h⟩ := h
  obtain ⟨ts, p, q⟩ := hbody f cdv A outer s H E hr
  refine ⟨ts, p, q H (start N vs) H _ _ (hl ▸ SOk.start r (by lia)) ?_⟩
  unfold runB at h
  cases ht : t (ds.map some ++ List.replicate (N.length - ds.length) none) with
  | ok f =>
    rw [ht] at h
    cases f with
    | nx τ' => exact fun σ' H' ok' => h .non H' [] ok'.ext ⟨rfl, rfl⟩ RcOk.nil
    | rt d => exact fun v H' L s r n1 n2 => h v H' L s r ⟨n1, n2⟩
    | bk τ' => exact h.elim
    | ct τ' => exact h.elim
  | err n => rw [ht] at h; exact fun C H' e s => h C H' e s
  | bad => rw [ht] at h; exact h.elim
end
end L2
set_option maxRecDepth 100000
set_option maxHeartbeats 4000000
namespace L2
open PySem PySem.Spec PyProof.Rows
section
open PySem.SeqAt PySem.MeetsSeq3
open PySem.AutoSeq1 (wpAny_loadPart')
theorem tuple_gt_ints (l b : Addr) (items items2 : Array Value) (n n2 : Nat) (dd dd2 : Option Addr) (sl sl2 : Array (Option Value)) (ns ms : List Int) (hi : IntsAre items.toList ns) (hj : IntsAre items2.toList ms) (hsz : ns.length = ms.length) :
    Meets (Builtin.«tuple.__gt__» ⟨[.ref l, .ref b], []⟩)
      (fun A R s => (s.heap.get? l = some { cls := .type "tuple", dict := dd, data := .seq items n, slots := sl } /\ s.heap.get? b = some { cls := .type "tuple", dict := dd2, data := .seq items2 n2, slots := sl2 }) /\
        R (.ok (.ret (.bool (lexG ns ms)))) s) :=
  .of_wp fun prog w A R s h => by
    have z1 : items.size = ns.length := by have := hi.length; simpa using this
    have z2 : items2.size = ms.length := by have := hj.length; simpa using this
    have at1 : ∀ j, (hlt : j < ns.length) -> ∃ t, items[j]? = some (.int ns[j] t) := fun j hlt => by
      have h0 : j < items.toList.length := by simp; lia
      obtain ⟨t, e⟩ := PyProof.Rows.IntsAre.int_at hi j _ (List.getElem?_eq_getElem h0)
      refine ⟨t, ?_⟩
      rw [<- Array.getElem?_toList, List.getElem?_eq_getElem h0, e, List.getD_eq_getElem?_getD, List.getElem?_eq_getElem hlt]
      rfl
    have at2 : ∀ j, (hlt : j < ms.length) -> ∃ t, items2[j]? = some (.int ms[j] t) := fun j hlt => by
      have h0 : j < items2.toList.length := by simp; lia
      obtain ⟨t, e⟩ := PyProof.Rows.IntsAre.int_at hj j _ (List.getElem?_eq_getElem h0)
      refine ⟨t, ?_⟩
      rw [<- Array.getElem?_toList, List.getElem?_eq_getElem h0, e, List.getD_eq_getElem?_getD, List.getElem?_eq_getElem hlt]
      rfl
    obtain ⟨hp, g, d, tk, os⟩ := s; obtain ⟨⟨hl, hb⟩, h⟩ := h
    have f2 := AutoSeq1.sub_tuple_tuple
    have hZ : (items.toList.zip items2.toList).length = ns.length := by simp; lia
    wp_walk using wpAny_loadPart' hl, wpAny_loadPart' hb, wpAny_forIn_list _ (fun rest b s' => b.1 = none /\ s' = ⟨hp, g, d, tk, os⟩ /\ ∃ i, rest = (items.toList.zip items2.toList).drop i /\ R (.ok (.ret (.bool (lexG (ns.drop i) (ms.drop i))))) ⟨hp, g, d, tk, os⟩) _
    case turn =>
      rintro ⟨x, y⟩ rest b' s' ⟨hb', rfl, i, hz, hR⟩
      have hlt : i < ns.length := by
        rcases Nat.lt_or_ge i (items.toList.zip items2.toList).length with h' | h'
        · lia
        · rw [List.drop_of_length_le h'] at hz; cases hz
      have h2 : i < ms.length := by lia
      rw [List.drop_eq_getElem_cons (by lia)] at hz
      obtain ⟨t, a1⟩ := at1 i hlt
      obtain ⟨u, a2⟩ := at2 i h2
      have e0 : (x, y) = (items.toList.zip items2.toList)[i]'(by lia) := (List.cons.inj hz).1
      have hrest := (List.cons.inj hz).2
      rw [List.getElem_zip] at e0
      have ex : x = .int ns[i] t := by
        have := congrArg Prod.fst e0
        rw [show x = items.toList[i]'(by simp; lia) from this]
        have a1' : items.toList[i]? = some (.int ns[i] t) := by simpa using a1
        rw [List.getElem?_eq_getElem (by simp; lia)] at a1'
        exact Option.some.inj a1'
      have ey : y = .int ms[i] u := by
        have := congrArg Prod.snd e0
        rw [show y = items2.toList[i]'(by simp; lia) from this]
        have a2' : items2.toList[i]? = some (.int ms[i] u) := by simpa using a2
        rw [List.getElem?_eq_getElem (by simp; lia)] at a2'
        exact Option.some.inj a2'
      subst ex ey
      have d1 : ns.drop i = ns[i] :: ns.drop (i + 1) := List.drop_eq_getElem_cons hlt
      have d2 : ms.drop i = ms[i] :: ms.drop (i + 1) := List.drop_eq_getElem_cons h2
      rw [d1, d2] at hR
      refine wpAny_bind ((SeqAt.EqAt.int_int (A := A.in1) (s := ⟨hp, g, d, tk, os⟩) ns[i] t ms[i] u) prog w _ _ ?_)
      by_cases he : ns[i] = ms[i]
      · have hb2 : (ns[i] == ms[i]) = true := by simpa using he
        rw [hb2]
        have hx : lexG (ns[i] :: ns.drop (i + 1)) (ms[i] :: ms.drop (i + 1)) = lexG (ns.drop (i + 1)) (ms.drop (i + 1)) := if_pos he
        rw [hx] at hR
        wp_walk
        exact ⟨rfl, rfl, i + 1, hrest, hR⟩
      · have hb2 : (ns[i] == ms[i]) = false := by simpa using he
        rw [hb2]
        have hx : lexG (ns[i] :: ns.drop (i + 1)) (ms[i] :: ms.drop (i + 1)) = decide (ns[i] > ms[i]) := if_neg he
        rw [hx] at hR
        have hri := rcGt_int A.in1 ⟨hp, g, d, tk, os⟩ ns[i] t ms[i] u prog w
        wp_walk using hri
        exact ⟨_, rfl, hR⟩
    case fin =>
      rintro ⟨b1, b2⟩ s' ⟨hb', rfl, i, hz, hR⟩
      simp only at hb'
      subst hb'
      have hge : ns.length <= i := by
        rcases Nat.lt_or_ge i (items.toList.zip items2.toList).length with h' | h'
        · rw [List.drop_eq_getElem_cons h'] at hz; cases hz
        · lia
      rw [List.drop_of_length_le hge] at hR
      have hR : R (.ok (.ret (.bool false))) ⟨hp, g, d, tk, os⟩ := hR
      wp_walk
      exact ⟨_, rfl, by
        have e : decide (items.size > items2.size) = false := decide_eq_false (by lia)
        simpa [Builtin.Tuple.tupleCompareSizes, e, z1, z2, hsz] using hR⟩
    case h =>
      exact ⟨rfl, rfl, 0, rfl, h⟩
end
noncomputable def rGtT (K : PySem.W.Frag) : R2 := fun x y H Q => ∃ a b ns ms, x = .ref a /\ y = .ref b /\ SqT K H a (ns.map V.int) /\ SqT K H b (ms.map V.int) /\ ns.length = ms.length /\ Q (.bl (lexG ns ms)) H
theorem op_gtT {X : Cx} (hu : X.A.units < cLine) : OpR X (compareOp .Gt) (rGtT X.K) := by
  intro pins s σ H x y v u Q I rx ry h
  obtain ⟨a, b, ns, ms, rfl, rfl, ha, hb, hsz, q⟩ := h
  cases rx
  cases ry
  obtain ⟨its, r1, p1, _⟩ := I.tuple ha
  obtain ⟨its2, r2, p2, _⟩ := I.tuple hb
  have i1 : IntsAre its.toArray.toList ns := intsAre_of r1
  have i2 : IntsAre its2.toArray.toList ms := intsAre_of r2
  obtain ⟨⟨cls, dd, data, sl⟩, ho, hc, n, hd⟩ := p1
  obtain ⟨⟨cls2, dd2, data2, sl2⟩, ho2, hc2, n2, hd2⟩ := p2
  simp only at hc hd hc2 hd2
  subst hc hd hc2 hd2
  exact richCompare_meets_room (op := .Gt) ⟨_, ho, rfl⟩ ⟨_, ho2, rfl⟩ PySem.F.slot_tuple_gt PySem.F.entry_tuple_gt (PySem.F.args_tuple_gt_2 _ _) (tuple_gt_ints a b _ _ n n2 dd dd2 sl sl2 ns ms i1 i2 hsz)
    ⟨⟨ho, ho2⟩, show Value.bool (lexG ns ms) ≠ Value.notImplemented /\ EP X pins σ Q (.bool (lexG ns ms)) s from ⟨(fun x => nomatch x), .bl (lexG ns ms), H, I, rfl, q⟩⟩ hu
noncomputable def gtT : D -> D -> R D
  | .tup ds, .tup es => (match intsOf ds, intsOf es with
    | some ns, some ms => if ns.length = ms.length then .ok (.bl (lexG ns ms)) else .bad
    | _, _ => .bad)
  | _, _ => .bad
theorem N_gtT : NoErr gtT := fun x y n h => by
  unfold gtT at h
  split at h
  · split at h
    · split at h <;> cases h
    · cases h
  · cases h
theorem B_gtT {K : PySem.W.Frag} : OpB K (rGtT K) gtT := by
  rintro H x y dx dy Lx Ly Q rx ry ⟨d, hg, q⟩
  unfold gtT at hg
  split at hg
  · split at hg
    · rename_i ns ms h1 h2
      split at hg
      · rename_i hsz
        cases hg
        obtain ⟨a, vs, rfl, ha, rs⟩ := rx
        obtain ⟨b, vs2, rfl, hb, rs2⟩ := ry
        refine ⟨a, b, ns, ms, rfl, rfl, ?_, ?_, hsz, q _ H [] (Same.refl H) ⟨rfl, rfl⟩ (by simp) (fun a ha => nomatch ha)⟩
        · rw [<- intsOf_vals rs h1]; exact ha
        · rw [<- intsOf_vals rs2 h2]; exact hb
      · cases hg
    · cases hg
  · cases hg
end L2
set_option maxRecDepth 100000
set_option maxHeartbeats 4000000
namespace L2
open PySem PySem.Spec PyProof.Rows
section
open PySem.SeqAt PySem.MeetsSeq PySem.MeetsSeq3
open PySem.AutoSeq1 (wpAny_loadPart')
theorem has_loop (l : Addr) (its : Array Value) (n : Nat) (dd : Option Addr) (sl : Array (Option Value)) (x : Value) (e : Nat -> Bool) (k : Nat) : ∀ i : Nat, its.size - i = k ->
    Meets (Builtin.«list.__contains__.loop» ⟨[.ref l, x, rawInt i], []⟩) (fun A R s => s.heap.get? l = some ⟨.type "list", dd, .seq its n, sl⟩ /\ (∀ j (h : j < its.size), EqAt A.in1 s its[j] x (e j)) /\ R (.ok (.ret (.bool (((List.range its.size).drop i).any e)))) s) := by
  induction k with
  | zero =>
    intro i hk prog w A R s h
    obtain ⟨hp, g, d, tk, os⟩ := s
    obtain ⟨hl, _, h⟩ := h
    wp_walk using wpAny_loadPart' hl
    have hn : its[((i : Nat) : Int).toNat]? = none := by simp; omega
    have hd : (List.range its.size).drop i = [] := by simp; omega
    rw [hd] at h
    rw [hn]
    wp_walk
    exact h
  | succ k ih =>
    intro i hk prog w A R s h
    obtain ⟨hp, g, d, tk, os⟩ := s
    obtain ⟨hl, he, h⟩ := h
    wp_walk using wpAny_loadPart' hl
    have hlt : i < its.size := by omega
    have hs : its[((i : Nat) : Int).toNat]? = some its[i] := by simp [hlt]
    have hd : (List.range its.size).drop i = i :: (List.range its.size).drop (i + 1) := by
      rw [List.drop_eq_getElem_cons (by simpa using hlt)]
      simp
    rw [hd, List.any_cons] at h
    rw [hs]
    refine wpAny_bind (he i hlt prog w _ _ ?_)
    cases hb : e i with
    | true =>
      rw [hb] at h
      wp_walk
      exact h
    | false =>
      rw [hb] at h
      have hc : ((i : Int) + 1) = ((i + 1 : Nat) : Int) := by push_cast; rfl
      wp_walk
      rw [hc]
      exact ⟨plainId_quiet plain_contains_loop _, codeAny_builtin entry_contains_loop (by
        rw [Around.under_plainId plain_contains_loop _]
        exact ih (i + 1) (by omega) prog w A R _ ⟨hl, he, h⟩)⟩
theorem list_has (l : Addr) (its : Array Value) (n : Nat) (dd : Option Addr) (sl : Array (Option Value)) (x : Value) (e : Nat -> Bool) :
    Meets (Builtin.«list.__contains__» ⟨[.ref l, x], []⟩) (fun A R s => s.heap.get? l = some ⟨.type "list", dd, .seq its n, sl⟩ /\ (∀ j (h : j < its.size), EqAt A.in1 s its[j] x (e j)) /\ R (.ok (.ret (.bool ((List.range its.size).any e)))) s) := by
  intro prog w A R s h
  obtain ⟨hp, g, d, tk, os⟩ := s
  obtain ⟨hl, he, h⟩ := h
  wp_walk using wpAny_loadPart' hl
  exact ⟨plainId_quiet plain_contains_loop _, codeAny_builtin entry_contains_loop (by
    rw [Around.under_plainId plain_contains_loop _]
    exact has_loop l its n dd sl x e _ 0 rfl prog w A R _ ⟨hl, he, h⟩)⟩
end
noncomputable def anyE (x : D) : List D -> Option Bool
  | [] => some false
  | d :: ds => match eqF 11 d x, anyE x ds with
    | some a, some b => some (a || b)
    | _, _ => none
theorem anyE_at {x : D} : ∀ {ds : List D} {b : Bool}, anyE x ds = some b -> ∃ e : Nat -> Bool, (∀ j d, ds[j]? = some d -> eqF 11 d x = some (e j)) /\ (List.range ds.length).any e = b
  | [], b, h => ⟨fun _ => false, fun j d z => (nomatch z), by cases h; rfl⟩
  | d :: ds, b, h => by
    unfold anyE at h
    cases h1 : eqF 11 d x with
    | none => rw [h1] at h; cases h
    | some a =>
      rw [h1] at h
      cases h2 : anyE x ds with
      | none => rw [h2] at h; cases h
      | some c =>
        rw [h2] at h
        obtain ⟨e, g1, g2⟩ := anyE_at h2
        refine ⟨fun j => match j with | 0 => a | j + 1 => e j, fun j d' z => ?_, ?_⟩
        · cases j with
          | zero => cases z; exact h1
          | succ j => exact g1 j d' (by simpa using z)
        · rw [List.length_cons, List.range_succ_eq_map, List.any_cons, List.any_map]
          have : (List.range ds.length).any ((fun j => match j with | 0 => a | j + 1 => e j) ∘ Nat.succ) = c := g2
          rw [this]
          exact Option.some.inj h
noncomputable def rInL (K : PySem.W.Frag) (neg : Bool) : R2 := fun x y H Q => ∃ a vs ds L dx Lx b, y = .ref a /\ SqL K H a vs /\ Reps K H ds vs L /\ Rep K H dx x Lx /\ anyE dx ds = some b /\ Q (.bl (if neg = true then !b else b)) H
theorem inL_facts {X : Cx} {pins : List (Addr × Obj)} {σ : St} {H : Hp} {s : Shared} {vs : List V} {ds : List D} {L Lx : List Addr} {x : V} {v : Value} {dx : D} {its : List Value} {e : Nat -> Bool} (I : Inv X pins σ H s) (hu : X.A.units + 12 < cLine) (rs : Reps X.K H ds vs L) (rv : Vals vs its) (rd : Rep X.K H dx x Lx) (rx : RelV x v) (he : ∀ j d, ds[j]? = some d -> eqF 11 d dx = some (e j)) :
    ∀ j (h : j < its.toArray.size), PySem.SeqAt.EqAt X.A.in1 s its.toArray[j] v (e j) := fun j h => by
  have hj : j < its.length := by simpa using h
  have l1 := rv.length
  have l2 := rs.length
  obtain ⟨w, L1, e1, r1, _⟩ := rs.get (List.getElem?_eq_getElem (show j < ds.length by lia))
  obtain ⟨u, e2, ru⟩ := rv.get e1
  have e3 : its.toArray[j] = u := by
    rw [List.getElem?_eq_getElem hj] at e2
    have := Option.some.inj e2
    simpa using this
  rw [e3]
  exact (rc_eq I 11 X.A.in1 _ dx w x L1 Lx u v (e j) (by show X.A.units + 1 + 11 < cLine; lia) (he j _ (List.getElem?_eq_getElem (show j < ds.length by lia))) r1 rd ru rx).2.1
theorem op_notInL {X : Cx} (hu : X.A.units + 12 < cLine) : OpR X (compareOp .NotIn) (rInL X.K true) := by
  intro pins s σ H x y v u Q I rx ry h
  obtain ⟨a, vs, ds, L, dx, Lx, b, rfl, ha, rs, rd, hb, q⟩ := h
  cases ry
  obtain ⟨its, rv, pl, _⟩ := I.list ha
  obtain ⟨e, g1, g2⟩ := anyE_at hb
  obtain ⟨⟨cls, dd, data, sl⟩, ho, hc, n, hd⟩ := pl.isList
  simp only at hc hd
  subst hc hd
  have hz : its.toArray.size = ds.length := by have := rv.length; have := rs.length; simp; lia
  refine PySem.SeqRoads2.notIn_meets ⟨_, ho, rfl⟩ PySem.F.slot_list_contains PySem.F.entry_list_contains (PySem.F.args_list_contains_2 _ _) (list_has a its.toArray n dd sl v e) ⟨ho, inL_facts I hu rs rv rd rx g1, _, rfl, ?_⟩
  rw [hz, g2]
  exact ⟨.bl (!b), H, I, rfl, q⟩
noncomputable def inLD (neg : Bool) (x y : D) : R D := match y with
  | .lst ds => (match anyE x ds with
    | some b => .ok (.bl (if neg = true then !b else b))
    | none => .bad)
  | _ => .bad
theorem N_inL {neg : Bool} : NoErr (inLD neg) := fun x y n h => by
  unfold inLD at h
  split at h
  · split at h <;> cases h
  · cases h
theorem B_inL {K : PySem.W.Frag} {neg : Bool} : OpB K (rInL K neg) (inLD neg) := by
  rintro H x y dx dy Lx Ly Q rx ry ⟨d, hg, q⟩
  unfold inLD at hg
  split at hg
  · rename_i ds
    split at hg
    · rename_i b hb
      cases hg
      obtain ⟨a, vs, L', rfl, ha, _, rs⟩ := ry
      exact ⟨a, vs, ds, L', dx, Lx, b, rfl, SqL.of ha, rs, rx, hb, q _ H [] (Same.refl H) ⟨rfl, rfl⟩ (by simp) (fun a ha => nomatch ha)⟩
    · cases hg
  · cases hg
end L2
set_option maxRecDepth 100000
set_option maxHeartbeats 4000000
namespace L2
open PySem PySem.Spec PyProof.Rows
section
variable {X : Cx} {E : XK} {Γ Γs Γl : List Cl} {x : Str} {k : Nat} {ps : List Str} {F : List D -> R D} {e : Expr} {es : List Expr} {t : Tn -> R D} {u : Tn -> R (List D)} {c : Rc} {p pos : Pos} {n : Nat}
end
end L2
set_option maxRecDepth 100000
set_option maxHeartbeats 4000000
namespace L2
open PySem PySem.Spec PyProof.Rows
section
variable {X : Cx} {E : XK} {Γ Γl : List Cl} {pos : Pos}
noncomputable def sPop0 (i : Nat) : Tn -> R Fl := fun τ => match τ[i]? with
  | some (some (.lst (_ :: ds))) => .ok (.nx (τ.set i (some (.lst ds))))
  | _ => .bad
theorem ix00 {n : Nat} : seqIndex? (0 : Int) (n + 1) = some 0 := by
  have : ixN (n + 1) (0 : Int) = some 0 := by
    unfold ixN
    rw [if_pos (Int.le_refl 0), if_pos (by omega)]
    rfl
  exact (ixN_seq this).1
theorem pop0 (i : Nat) {x : Str} {j : Nat} {p0 p1 p2 p3 : Pos} (hN : autoParam (X.N[i]? = some x) L2.au3._auto_1) (h0 : autoParam (Γ[i]? = some .own) L2.au3._auto_1) (hv : autoParam (Vis X.env.scope x) L2.au5._auto_1) (hb : autoParam ((x == ("__debug__" : Str)) = false) L2.au1._auto_1) (hcd : autoParam ((x == ("__classdict__" : Str)) = false) L2.au1._auto_1)
    (hbase : autoParam (attributeBase (.Name x p0) "pop" X.env (eval (.Name x p0) X.env) = eval (.Name x p0) X.env) L2.au3._auto_1)
    (hfew : autoParam (((backTo p2 (starEach [.Constant (.int 0) j p3] X.env)).all (fun x => !x.1) && (backToKw p2 (keywordEach [] X.env)).all (fun x => x.1.isSome) && decide ([Expr.Constant (.int 0) j p3].length + ([] : List Keyword).length + (if ([] : List Keyword).isEmpty then 0 else 1) < 30)) = true) L2.au3._auto_1)
    (hline : autoParam ((p1.endLine == p2.line) = true) L2.au3._auto_1) (hs : autoParam (starEach [.Constant (.int 0) j p3] X.env = (false, eval (.Constant (.int 0) j p3) X.env) :: starEach [] X.env) L2.au3._auto_1) (hplain : autoParam ((backTo p2 (starEach [] X.env)).any (·.1) = false) L2.au3._auto_1)
    (hsw : autoParam (swapsWith (.Call (.Attribute (.Name x p0) "pop" p1) [.Constant (.int 0) j p3] [] p2) none pos.line X.env = pure false) L2.au3._auto_1) :
    MS X E Γl Γ (.Expr (.Call (.Attribute (.Name x p0) "pop" p1) [.Constant (.int 0) j p3] [] p2) pos) (sPop0 i) Γ := by
  refine ⟨_, ps_expr (pe_bm PySem.F.plainAttrs_list PySem.F.slot_list_pop PySem.F.type_list_pop mt_popAt (pe_var (pos := p0) hN hv hb hcd) (pa_cons pe_int pa_nil hs) hbase hfew hline hs hplain) hsw, fun B σ H τ Z ok h => ?_⟩
  obtain ⟨v, d, L, e1, e2, r, nd, n2, fin⟩ := ok.slotF h0
  unfold sPop0 at h
  rw [e2] at h
  cases d with
  | lst ds =>
    cases ds with
    | nil => exact h.elim
    | cons d0 ds =>
      obtain ⟨a, vs, L', rfl, ha, rfl, rs⟩ := r
      obtain ⟨w, vs', L1, L2, rfl, rfl, r1, r2⟩ := rs
      obtain ⟨m1, m2⟩ := List.nodup_cons.mp nd
      obtain ⟨k1, k2, k3⟩ := List.nodup_append.mp m2
      have mu : (∃ vs, H a = some (.lst vs)) \/ ∃ kvs, H a = some (.dK kvs) := .inl ⟨_, ha⟩
      have na : a ∉ L2 := fun z => m1 (List.mem_append_right _ z)
      refine ⟨_, e1, .inl ⟨rfl, _, SqL.of ha⟩, a, _, 0, 0, w, rfl, rfl, ha, by decide, by decide, ix00, rfl, ?_⟩
      exact h _ _ (fin _ _ (a :: L2) (TF.upd mu) (fun c hc _ => upd_ne fun z => hc (z ▸ List.mem_cons_self)) ⟨a, vs', L2, rfl, upd_same, rfl, r2.upd mu na⟩ (fun c hc => .inl (by
        rcases List.mem_cons.mp hc with z | z
        · exact z ▸ List.mem_cons_self
        · exact List.mem_cons_of_mem _ (List.mem_append_right _ z))) (List.nodup_cons.mpr ⟨na, k2⟩))
  | _ => exact h.elim
end
end L2
set_option maxRecDepth 100000
set_option maxHeartbeats 4000000
namespace L2
open PySem PySem.Spec PyProof.Rows
noncomputable abbrev Cx.errd (X : Cx) (e : Addr) (oe : Obj) : Cx := { X with calm := false, pn := [(e, oe)] }
theorem errPin {e : Addr} {oe : Obj} {s : Shared} {H : Hp} {outer : List Env} {h1 : Heap} (hk : ∀ b o, s.heap.get? b = some o -> h1.get? b = some o) (h : s.heap.get? e = some oe /\ H e = none /\ e ∉ frs outer /\ ∀ v, oe.data ≠ .cell v) :
    ∀ p ∈ [(e, oe)] ++ ([] : List (Addr × Obj)), h1.get? p.1 = some p.2 /\ H p.1 = none /\ p.1 ≠ s.heap.objs.size /\ p.1 ∉ frs outer /\ ∀ v, p.2.data ≠ .cell v := fun p hp => by
  rw [List.append_nil] at hp
  rw [List.mem_singleton.mp hp]
  exact ⟨hk _ _ h.1, h.2.1, Nat.ne_of_lt (Heap.lt_size h.1), h.2.2.1, h.2.2.2⟩
section
theorem inv_startE {e : Addr} {oe : Obj} {CX : CXT} {P : Program} {w : World} {K : PySem.W.Frag} {mg : Str -> Option Value} {base : Heap} {N ps : List Str} {qual : Str} {scope : Scope} {f : Addr} {cd : Value} {A : Around} {outer : List Env} {s s1 : Shared} {H : Hp} {E : XK} {us : List Value} {vs : List V}
    (S : FnScope N ps scope) (hpn : s.heap.get? e = some oe /\ H e = none /\ e ∉ frs outer /\ ∀ v, oe.data ≠ .cell v) (e0 : Env0 P w K mg base A outer s H) (hl : vs.length = ps.length) (r : Vals vs us)
    (x : InCallC s s.heap.objs.size (bindL (envOfC qual scope s.heap.objs.size f cd).kindOf (ps.zip us) fun _ => none) (cellsFrom (s.heap.objs.size + 1) scope.names []) (bindC (envOfC qual scope s.heap.objs.size f cd).kindOf (ps.zip us) fun _ => none) s1) :
    Inv ((cxOf CX P w K mg base N qual scope f cd A outer s H E).errd e oe) [] (start N vs) H s1 := by
  have hpl : ps.length <= N.length := by have := congrArg List.length S.pre; rw [List.length_take] at this; lia
  obtain ⟨h1, tk, rfl, hk⟩ := x.done
  have noA : ∀ b : Addr, b ∉ (cxOf CX P w K mg base N qual scope f cd A outer s H E).ex := fun b z => absurd (show b ∈ ([] : List Addr) from z) (by simp)
  refine ⟨⟨e0.mod, S.kind, rfl, rfl, Nat.le_refl _, fun y z c h1 h2 => ?_, fun y hy => ?_, fun y c _ h => ?_, fun z => Bool.noConfusion z, Around.frames_deeper e0.frames, .inr ⟨rfl, rfl⟩, fun b z => absurd z (noA b), e0.bs, e0.bsz, fun b _ _ => noA b, fun b z => absurd z (noA b), e0.funs, e0.frf⟩,
    rfl, e0.bare, Un.kept hk, ⟨_, x.toInCall.ns, fun i y v h1 h2 h3 => ?_⟩, fun y c h => ⟨_, x.cell y c h⟩, e0.hok.fresh (Nat.le_refl _), fun y c h => ?_, errPin hk hpn, e0.hok.kept hk, ?_⟩
  · exact name_of_addr x.apart (PySem.mem_of_lookup h1) (PySem.mem_of_lookup h2)
  · have hy : scope.names.lookup y = some .cell \/ scope.names.lookup y = some .free := hy
    rcases hy with hy | hy
    · exact cell_has hy
    · exact absurd rfl (S.nofree _ (PySem.mem_of_lookup hy))
  · exact Nat.le_of_lt (x.above y c (PySem.mem_of_lookup h))
  · have hi : i < vs.length := by
      unfold start at h2
      by_cases hi : i < vs.length
      · exact hi
      · rw [List.getElem?_append_right (by simpa using hi)] at h2
        rw [List.getElem?_replicate] at h2
        split at h2 <;> cases h2
    have ha : vs[i]? = some v := by
      unfold start at h2
      rw [List.getElem?_append_left (by simpa using hi), List.getElem?_map] at h2
      cases e : vs[i]? with
      | none => rw [e] at h2; cases h2
      | some a => rw [e] at h2; cases h2; rfl
    obtain ⟨u, hu, rv⟩ := r.get ha
    have hp : ps[i]? = some y := by
      rw [<- S.pre, List.getElem?_take_of_lt (by lia)]; exact h1
    have ndP : ps.Nodup := by rw [<- S.pre]; exact S.nd.sublist (List.take_sublist _ _)
    refine ⟨u, rv, ?_⟩
    rcases S.par y (List.mem_of_getElem? hp) with k | k
    · exact .inl ⟨k, bindL_get ndP hp hu k⟩
    · obtain ⟨c, e⟩ := cell_has (n := s.heap.objs.size + 1) k
      refine .inr ⟨.inl k, c, e, ?_⟩
      have q := x.cell y c e
      rw [bindC_get ndP hp hu (by show scope.names.lookup y ≠ _; rw [k]; decide)] at q
      exact q
  · exact e0.hok.fresh (Nat.le_of_lt (x.above y c (PySem.mem_of_lookup h)))
  · unfold start
    show _ = N.length
    rw [List.length_append, List.length_map, List.length_replicate]
    lia
theorem fn_ofE {e : Addr} {oe : Obj} {CX : CXT} {P : Program} {w : World} {K : PySem.W.Frag} {mg : Str -> Option Value} {base : Heap} {f : Addr} {name qual : Str} {params : Arguments} {body : List Stmt} {scope : Scope} {dV kV doc pm cdv ct oc : Value} {an od : Option Addr}
    {osl : Array (Option Value)} {N ps : List Str} {sp : Sp} (lk : K.lookup f = some ⟨oc, od, .func (PySem.W.fnOf name qual params body scope dV kV doc pm an cdv ct), osl⟩) (hcd : PySem.W.codeIn K cdv qual = true) (S : FnScope N ps scope)
    (len : ∀ vs H Q E, sp vs H Q E -> vs.length = ps.length)
    (hbody : ∀ (A : Around) (outer : List Env) (s : Shared) (H : Hp) (vs : List V) (Q : VK) (E : XK), sp vs H Q E ->
      ∃ t, PSs ((cxOf CX P w K mg base N qual scope f cdv A outer s H E).errd e oe) body t /\ t { nx := fun _ H' => Q .non H', rt := Q } (start N vs) H) :
    ∀ (A : Around) (outer : List Env) (s : Shared) (H : Hp) (args : Args) (us : List Value) (vs : List V) (Q : VK) (E : XK), A.depth < recursionLimit -> Env0 P w K mg base A outer s H -> (s.heap.get? e = some oe /\ H e = none /\ e ∉ frs outer /\ ∀ v, oe.data ≠ .cell v) ->
      BindsTo s (PySem.W.fnOf name qual params body scope dV kV doc pm an cdv ct) args (ps.zip us) -> Vals vs us -> sp vs H Q E -> codeAny (model P w) A (.call (.ref f) args) (CR CX outer P w H s Q E) s := by
  intro A outer s H args us vs Q E hdep e0 hpn hb r hsp
  have hl := len _ _ _ _ hsp
  have KX : K.In s.heap := e0.mod.kin.keeps fun b o e => (e0.bs b o e).1
  have lim : s.heap.NoLimit := e0.mod.nolimit.keeps fun b o e => (e0.bs b o e).1
  have hkind : ∀ y ∈ ps.zip us, scope.names.lookup y.1 = some .local \/ (scope.names.lookup y.1 = some .cell /\ ((cellsFrom (s.heap.objs.size + 1) scope.names []).lookup y.1).isSome = true) := fun ⟨n, v⟩ hy => by
    rcases S.par n (List.of_mem_zip hy).1 with q | q
    · exact .inl q
    · exact .inr ⟨q, PySem.W.cellsFrom_some _ _ _ (.inl q)⟩
  refine codeAny_call_function hdep (KX _ _ lk) rfl S.co S.gen rfl (PySem.W.codeRec_of KX hcd) (hb _ _ _ _ ?_)
  refine wpAny_newFunctionEnv_cells S.kind hkind fun env he s1 x => ?_
  subst he
  refine ⟨lim.keeps x.toInCall.keep, codeAny_func ?_⟩
  obtain ⟨t, ht, hq⟩ := hbody A outer s H vs Q E hsp
  have I : Inv ((cxOf CX P w K mg base N qual scope f cdv A outer s H E).errd e oe) [] (start N vs) H s1 := inv_startE S hpn e0 hl r x
  refine wpAny_mono (ht [] s1 (start N vs) H _ I hq) (fun fl s' hs => ?_) fun e s' hs => hs
  have fin : ∀ {σ' : St} {H' : Hp} {v : V} {u : Value}, Inv ((cxOf CX P w K mg base N qual scope f cdv A outer s H E).errd e oe) [] σ' H' s' -> RelV v u -> Q v H' -> CE outer P w H s Q u s' :=
    fun {σ' H' v u} J rv q => ⟨v, H', J.os, J.bare, J.base, J.hok, rv, q⟩
  cases fl with
  | ret u =>
    obtain ⟨v, σ', H', J, rv, q⟩ := hs
    exact fin J rv q
  | next =>
    obtain ⟨σ', H', J, q⟩ := hs
    exact fin (v := V.non) (u := Value.none) J rfl q
  | brk =>
    obtain ⟨_, _, _, q⟩ := hs
    exact False.elim q
  | cont =>
    obtain ⟨_, _, _, q⟩ := hs
    exact False.elim q
end
theorem pe_errCall {X : Cx} {x q : Str} {st : Stmt} {N : List Str} {e : Addr} {oe : Obj} {a : Expr} {ta : TE} {p pos : Pos} {b : Bool} (Df : DefIn X.K X.mg x st [q]) (S : FnScope N [q] (defScope st)) (hg : Gl X x) (hdep : X.A.depth < recursionLimit) (hm0 : (e, oe) ∈ X.pn) (hloc : ∀ b ∈ frs X.stack, b = X.env.locals \/ b ∈ X.fs)
    (hbody : ∀ (f : Addr) (cdv : Value) (A : Around) (outer : List Env) (s : Shared) (H : Hp) (Q : VK), (∀ H', Same H H' -> Q (.bl b) H') ->
      ∃ t, PSs ((cxOf (cxx X.prog X.w) X.prog X.w X.K X.mg X.base N x (defScope st) f cdv A outer s H (fun _ _ _ => False)).errd e oe) (defBody st) t /\ t { nx := fun _ H' => Q .non H', rt := Q } (start N [.ref e]) H)
    (ha : PE X a ta) (hdb : autoParam ((x == ("__debug__" : Str)) = false) L2.au1._auto_1) (hs : autoParam (starEach [a] X.env = (false, eval a X.env) :: starEach [] X.env) L2.au3._auto_1) (hpl : autoParam ((backTo pos (starEach [] X.env)).any (·.1) = false) L2.au3._auto_1) :
    PE X (.Call (.Name x p) [a] [] pos) (fun σ H Q => tCons ta tNil σ H fun vs H1 => vs = [.ref e] /\ ∀ H2, Same H1 H2 -> Q (.bl b) H2) := by
  intro pins s σ H Q I h
  obtain ⟨f, fd, F, hm, hb⟩ := Df.ex
  obtain ⟨oc, od, kV, doc, pm, an, cdv, ct, osl, rfl, lk, hcd⟩ := F.ex
  refine wpAny_Call_Name_kw (ld_glob I hg hm ?_ hdb)
  refine PySem.W.callWith_K (h₀ := X.base) I.ok.mod.kin F.kp (thn ((pa_cons ha pa_nil hs) pos pins s σ H (fun vs H1 => vs = [.ref e] /\ ∀ H2, Same H1 H2 -> Q (.bl b) H2) I ?_) fun us s1 h1 => ?_) hs hpl
  · exact h
  · obtain ⟨vs, H1, I1, r, rfl, q⟩ := h1
    refine ⟨I1.kIn, ?_⟩
    obtain ⟨g1, g2, g3, g4, g5⟩ := I1.pin _ (List.mem_append_left _ hm0)
    have nf : e ∉ frs X.stack := fun z => by
      rcases hloc e z with w | w
      · exact g3 w
      · exact g4 w
    refine wpAny_call (codeAny_mono (fn_ofE (e := e) (oe := oe) (sp := fun vs H Q E => vs = [.ref e] /\ E = (fun _ _ _ => False) /\ ∀ H', Same H H' -> Q (.bl b) H') (CX := cxx X.prog X.w) lk hcd S (fun vs H Q E h => by rw [h.1]; rfl) (fun A outer s H vs Q E h => ?_) X.A X.stack s1 H1 ⟨us, []⟩ us [.ref e] Q (fun _ _ _ => False) hdep I1.env0 ⟨g1, g2, nf, g5⟩ (by have := hb s1 us I1.kIn (by rw [List.append_nil, <- r.length]; rfl); rw [List.append_nil] at this; exact this) r ⟨rfl, rfl, q⟩) fun rr s' hq => ?_)
    · obtain ⟨rfl, rfl, h⟩ := h
      exact hbody f cdv A outer s H Q h
    · cases rr with
      | error ev => exact (cxx_no hq).elim
      | ok fl =>
        cases fl with
        | ret u => exact I1.after hq
        | next => exact False.elim hq
        | brk => exact False.elim hq
        | cont => exact False.elim hq
end L2
set_option maxRecDepth 100000
set_option maxHeartbeats 4000000
namespace L2
open PySem PySem.Spec PyProof.Rows
section
variable {X : Cx} {E : XK} {Γ Γl Γ' : List Cl} {k : Nat} {CS : Addr} {ps : List Str} {F : List D -> R D} {nA : Nat} {x xc n : Str} {p pos pos' pc hpos tpos : Pos} {e : Expr} {es : List Expr} {u : Tn -> R (List D)} {c : Rc} {i j : Nat} {b₀ : Stmt} {suite : List Stmt} {g : Str -> Option Int}
end
end L2
set_option maxRecDepth 100000
set_option maxHeartbeats 4000000
namespace L2
open PySem PySem.Spec PyProof.Rows
section
variable {X : Cx} {E : XK} {Γ : List Cl} {pos : Pos} {x : Str}
theorem me_globS {z : Str} (h : ∃ t, X.mg x = some (.str z t)) (hg : autoParam (Gl X x) L2.au8._auto_1) (hd : autoParam ((x == ("__debug__" : Str)) = false) L2.au1._auto_1) : ME X E Γ (.Name x pos) (eC (.str z)) .fresh := by
  obtain ⟨t, ht⟩ := h
  exact me_c (pe_glob (v := .str z) hg ht ⟨t, rfl⟩ hd) fun _ => ⟨rfl, rfl⟩
theorem me_globI {i : Int} (h : ∃ t, X.mg x = some (.int i t)) (hg : autoParam (Gl X x) L2.au8._auto_1) (hd : autoParam ((x == ("__debug__" : Str)) = false) L2.au1._auto_1) : ME X E Γ (.Name x pos) (eC (.int i)) .fresh := by
  obtain ⟨t, ht⟩ := h
  exact me_c (pe_glob (v := .int i) hg ht ⟨t, rfl⟩ hd) fun _ => ⟨rfl, rfl⟩
end
noncomputable def ixL (x k : D) : R D := match x with
  | .lst ds => ixD (.lst ds) k
  | _ => .bad
section
variable {X : Cx} {E : XK} {Γ Γl : List Cl} {pos p0 : Pos} {ix : Expr} {ti : Tn -> R D} {c : Rc}
theorem mv_ixN (i : Nat) {x : Str} (hi : ME X E Γ ix ti c) (hpl : PlainIx ix) (hN : autoParam (X.N[i]? = some x) L2.au3._auto_1) (h0 : autoParam (Γ[i]? = some .own) L2.au3._auto_1) (hv : autoParam (Vis X.env.scope x) L2.au5._auto_1) (hb : autoParam ((x == ("__debug__" : Str)) = false) L2.au1._auto_1) (hcd : autoParam ((x == ("__classdict__" : Str)) = false) L2.au1._auto_1) :
    MV X E Γ (.Subscript (.Name x p0) ix pos) (eBin ixL (eVar i) ti) (Γ.set i .dead) := by
  obtain ⟨te, p, q⟩ := hi
  refine ⟨_, pe_ix ix_seq (pe_var (pos := p0) hN hv hb hcd) p hpl, fun B σ H τ T Q ok h => ?_⟩
  obtain ⟨v, d, L, e1, e2, r, ok1⟩ := ok.out h0
  refine ⟨v, e1, ?_⟩
  obtain ⟨O, eo, _⟩ := ok.eok
  refine q O σ H τ _ eo ?_
  have ev : eVar i τ = .ok d := by unfold eVar; rw [e2]
  unfold eBin at h
  rw [ev, R.ok_bind] at h
  cases ht : ti τ with
  | err m => rw [ht] at h; exact fun C H' e s => h C H' e (ok.ext.trans s)
  | bad => rw [ht] at h; exact h
  | ok dk =>
    rw [ht, R.ok_bind] at h
    refine fun y H1 Ly s1 ry _ => ?_
    cases d with
    | lst ds =>
      cases hg : ixD (.lst ds) dk with
      | err m => exact absurd hg (N_ix _ _ _)
      | bad => rw [show ixL (.lst ds) dk = ixD (.lst ds) dk from rfl, hg] at h; exact h.elim
      | ok d2 =>
        rw [show ixL (.lst ds) dk = ixD (.lst ds) dk from rfl, hg] at h
        refine ix_seq_of (by intro ks ds z; cases z) hg (r.same s1) ry fun w L1 g1 g2 => ?_
        have okT := ok1.same s1
        have nd := okT.nodT
        obtain ⟨n1, n2, n3⟩ := List.nodup_append.mp nd
        refine h w H1 L1 s1 g1 (okT.subT (List.nodup_append.mpr ⟨n1.sublist g2, n2, fun a ha b hb' z => n3 a (g2.subset ha) b hb' z⟩) fun a ha => ?_)
        rcases List.mem_append.mp ha with z | z
        · exact List.mem_append_left _ (g2.subset z)
        · exact List.mem_append_right _ z
    | _ => exact h.elim
end
section
variable {X : Cx} {E : XK} {Γ Γl Γ' : List Cl} {k : Nat} {ps : List Str} {F : List D -> R D} {nA : Nat} {x xc n : Str} {p pos pos' pc hpos tpos : Pos} {e : Expr} {es : List Expr} {u : Tn -> R (List D)} {c : Rc} {i j : Nat} {b₀ : Stmt} {suite : List Stmt} {g : Str -> Option Int}
end
end L2
set_option maxRecDepth 100000
set_option maxHeartbeats 4000000
namespace L2
open PySem PySem.Spec PyProof.Rows
section
variable {X : Cx} {E : XK} {Γ Γl : List Cl} {pos : Pos}
end
end L2
set_option maxRecDepth 100000
set_option maxHeartbeats 4000000
namespace L2
open PySem PySem.Spec PyProof.Rows
theorem upT {α : Type} {M : Model} {A : Around} {t : Sem α} {Q : α -> Shared -> Prop} {E : Value -> Shared -> Prop} {s : Shared} (hs : 0 < s.toks) (h : wpAny M A t Q E s) : wpAny M A t (fun v s' => 0 < s'.toks /\ Q v s') E s :=
  wpAny_mono (wpAny_toks_of (n := 1) hs h) (fun _ _ h => h) fun _ _ h => h.2
noncomputable def PST (X : Cx) (st : Stmt) (t : TS) : Prop :=
  ∀ (pins : List (Addr × Obj)) (s : Shared) (σ : St) (H : Hp) (D : Ends), 0 < s.toks -> Inv X pins σ H s -> t D σ H -> wpAny (model X.prog X.w) X.A (exec st X.env) (SP X pins D) X.xe s
theorem PS.tt {X : Cx} {st : Stmt} {t : TS} (h : PS X st t) : PST X st t := fun pins s σ H D _ I => h pins s σ H D I
section
variable {X : Cx} {st : Stmt} {rest : List Stmt} {t u : TS}
theorem psT_cons (h1 : PST X st t) (h2 : PSsT X rest u) : PSsT X (st :: rest) (tSeq t u) := by
  intro pins s σ H D htk I h
  refine wpAny_execs_cons (thn (upT htk (h1 pins s σ H { D with nx := u D } htk I h)) fun f s1 ⟨tk1, q⟩ => ?_)
  cases f with
  | next =>
    obtain ⟨σ', H', I', q⟩ := q
    exact h2 pins s1 σ' H' D tk1 I' q
  | ret v => exact q
  | brk => exact q
  | cont => exact q
theorem psT_one (h1 : PST X st t) : PSsT X [st] t := by
  intro pins s σ H D htk I h
  refine wpAny_execs_cons (thn (h1 pins s σ H D htk I h) fun f s1 q => ?_)
  cases f with
  | next => exact wpAny_execs_nil q
  | ret v => exact q
  | brk => exact q
  | cont => exact q
theorem psT_set {i : Nat} {x : Str} {e : Expr} {te : TE} {pos pos' : Pos} (hN : X.N.Nodup) (hi : X.N[i]? = some x) (hx : Loc X.env.scope x) (he : PEp X e te) (hs : autoParam (swapsWith e (some (.Name x pos')) pos.line X.env = pure false) L2.au3._auto_1) (hf : autoParam (X.fn x = true \/ X.env.scope.names.lookup x = some .local) L2.au0._auto_1) :
    PST X (.Assign [.Name x pos'] e pos) (tAsg te (gName i)) := by
  intro pins s σ H D htk I h
  refine wpAny_Assign_Name (thn (he pins s σ H _ htk I h) fun v s1 ⟨y, H1, I1, r1, q1⟩ => ?_) hs
  exact store_ok I1 hN hi hx r1 (fun s2 I2 => ⟨_, H1, I2, q1⟩) hf
end
section
variable {X : Cx} {tg : Expr}
theorem ps_forT {iter : Expr} {body : List Stmt} {wi : TI} {g : TG} {tb : TS} {pos : Pos} (hp : PassesOwn (model X.prog X.w) X.A X.env X.xe) (hc : X.calm = true) (hi : PI X tg iter wi) (hg : PG X tg g) (hb : PSsT X body tb)
    (hs : autoParam (∀ x, foldedSetIterable iter X.env x = pure x) L2.au2._auto_1) : PST X (.For tg iter body [] pos) (tFor wi g tb) := by
  intro pins s σ H D htk I h
  refine wpAny_For (thn (upT htk (hi pins s σ H _ I h)) fun v s1 h1 => thn (upT h1.1 h1.2) fun itv s2 h2 => ?_) hs
  obtain ⟨tk2, it, fp, tn, J, H2, e, I2, T, st2, f2, W, ⟨m0, w0⟩, turn⟩ := h2
  subst e
  have stat : ∀ {H' : Hp}, (∀ b ∈ fp, H' b = none) -> ∀ b ∈ fp, FpOk X pins H' b := fun hn b hb => ⟨hn b hb, (f2 b hb).2⟩
  refine codeAny_forLoop_any (fun n s' => 0 < s'.toks /\ ∃ i σ' H', Inv X pins σ' H' s' /\ tn i s'.heap /\ (∀ b ∈ fp, H' b = none) /\ W i n σ' H') ?_ m0 ⟨tk2, 0, σ, H2, I2, st2, fun b hb => (f2 b hb).1, w0⟩
  rintro n s3 ⟨tk3, i, σ3, H3, I3, st3, fr3, w3⟩
  rcases turn i n σ3 H3 w3 with ⟨stop, qn⟩ | ⟨go, N, hN, step⟩
  · refine wpAny_passesOwn hp (thn (T.done X rfl rfl rfl hc i pins s3 σ3 H3 X.xe I3 (stat fr3) st3 stop) fun r s4 ⟨hr, I4⟩ => ?_)
    subst hr
    exact wpAny_execs_nil ⟨σ3, H3, I4, qn⟩
  · refine wpAny_passesOwn hp (thn (upT tk3 (T.item X rfl rfl rfl hc i pins s3 σ3 H3 X.xe I3 (stat fr3) st3 go)) fun r s4 ⟨tk4, u, hr, h4⟩ => ?_)
    subst hr
    refine wpAny_passesOwn hp (thn (upT tk4 h4) fun _ s5 ⟨tk5, x, H5, I5, r5, y5, st5, fr5⟩ => ?_)
    have I5' := I5.pinned (stat fr5) (T.obj _ _ st5)
    refine wpAny_passesOwn hp (thn (upT tk5 (hg _ s5 σ3 H5 x u _ I5' r5 (step x H5 y5))) fun _ s6 ⟨tk6, σ6, H6, I6, q6⟩ => ?_)
    refine wpAny_passesOwn hp (thn (upT tk6 (hb _ s6 σ6 H6 _ tk6 I6 q6)) fun f s7 ⟨tk7, q7⟩ => ?_)
    have again : ∀ {σ7 : St} {H7 : Hp}, Inv X (pins ++ pinsAt fp s5.heap) σ7 H7 s7 -> N σ7 H7 -> ∃ m, m < n /\ 0 < s7.toks /\ ∃ i σ' H', Inv X pins σ' H' s7 /\ tn i s7.heap /\ (∀ b ∈ fp, H' b = none) /\ W i m σ' H' := fun {σ7 H7} I7 n7 => by
      obtain ⟨m', hm, w7⟩ := hN σ7 H7 n7
      refine ⟨m', hm, tk7, i + 1, σ7, H7, I7.unpinned, T.keep _ _ _ st5 fun b hb o e => (I7.pin (b, o) (List.mem_append_right _ (List.mem_append_right _ (mem_pinsAt hb e)))).1, fun b hb => ?_, w7⟩
      obtain ⟨o, e, d⟩ := T.obj _ _ st5 b hb
      exact (I7.pin (b, o) (List.mem_append_right _ (List.mem_append_right _ (mem_pinsAt hb e)))).2.1
    cases f with
    | next => obtain ⟨σ7, H7, I7, n7⟩ := q7; exact again I7 n7
    | cont => obtain ⟨σ7, H7, I7, n7⟩ := q7; exact again I7 n7
    | brk => obtain ⟨σ7, H7, I7, q7⟩ := q7; exact ⟨σ7, H7, I7.unpinned, q7⟩
    | ret v => obtain ⟨x7, σ7, H7, I7, r7, q7⟩ := q7; exact ⟨x7, σ7, H7, I7.unpinned, r7, q7⟩
end
noncomputable def MST (X : Cx) (E : XK) (Γl Γ : List Cl) (s : Stmt) (t : Tn -> R Fl) (Γ' : List Cl) : Prop :=
  ∃ ts, PST X s ts /\ ∀ B σ H τ Z, SOk X.K Γ B H σ τ [] -> postS X.K E B Γl Γ' Z (t τ) -> ts Z σ H
section
variable {X : Cx} {E : XK} {Γ Γ1 Γ2 Γ' Γl : List Cl} {pos : Pos} {e : Expr} {t : Tn -> R D} {c : Rc}
theorem MS.tt {s : Stmt} {t : Tn -> R Fl} (h : MS X E Γl Γ s t Γ') : MST X E Γl Γ s t Γ' := by
  obtain ⟨ts, p, q⟩ := h
  exact ⟨ts, p.tt, q⟩
theorem msT_cons {s : Stmt} {r : List Stmt} {t1 t2 : Tn -> R Fl} (h : MST X E Γl Γ s t1 Γ1) (k : MSsT X E Γl Γ1 r t2 Γ') : MSsT X E Γl Γ (s :: r) (sSeq t1 t2) Γ' := by
  obtain ⟨ts, p, q⟩ := h
  obtain ⟨ts', p', q'⟩ := k
  refine ⟨tSeq ts ts', psT_cons p p', fun B σ H τ Z ok h => q B σ H τ _ ok ?_⟩
  unfold sSeq at h
  cases ht : t1 τ with
  | ok f =>
    rw [ht, R.ok_bind] at h
    cases f with
    | nx τ' => exact fun σ' H' ok' => q' B σ' H' τ' Z ok' h
    | rt d => exact h
    | bk τ' => exact h
    | ct τ' => exact h
  | err n => rw [ht] at h; exact h
  | bad => rw [ht] at h; exact h
theorem msT_one {s : Stmt} {t : Tn -> R Fl} (h : MST X E Γl Γ s t Γ') : MSsT X E Γl Γ [s] t Γ' := by
  obtain ⟨ts, p, q⟩ := h
  exact ⟨ts, psT_one p, q⟩
theorem ms_forT {tg iter : Expr} {body : List Stmt} {it : Tn -> R (List D)} {g : Tgt} {tb : Tn -> R Fl} (hp : PassesOwn (model X.prog X.w) X.A X.env X.xe) (hc : X.calm = true) (hi : MI X E Γ tg iter it c) (hcl : c ≠ .bor) (hg : MG X tg g)
    (hn : ∀ i ∈ g.slots, i < Γ.length) (hb : MSsT X E Γ (shrAll Γ g.slots) body tb Γ2) (hw : wk Γ2 Γ = true) (hs : autoParam (∀ x, foldedSetIterable iter X.env x = pure x) L2.au2._auto_1) : MST X E Γl Γ (.For tg iter body [] pos) (sFor it g tb) Γ := by
  obtain ⟨wi, p, q⟩ := hi
  obtain ⟨ts, p', q'⟩ := hb
  exact ⟨_, ps_forT hp hc p hg.pg p' hs, for_q hcl hn hw q q'⟩
theorem stT (i : Nat) {x : Str} {pos' : Pos} (hN : X.N.Nodup) (h : MEp X E Γ e t c) (hc : autoParam (c ≠ .bor) L2.au1._auto_1) (hi : autoParam (X.N[i]? = some x) L2.au3._auto_1) (hl : autoParam (i < Γ.length) L2.au1._auto_1) (hx : autoParam (Loc X.env.scope x) L2.au7._auto_1) (hs : autoParam (swapsWith e (some (.Name x pos')) pos.line X.env = pure false) L2.au3._auto_1) (hf : autoParam (X.fn x = true \/ X.env.scope.names.lookup x = some .local) L2.au0._auto_1) :
    MST X E Γl Γ (.Assign [.Name x pos'] e pos) (sSet i t) (Γ.set i .shr) := by
  obtain ⟨te, p, q⟩ := h
  refine ⟨_, psT_set hN hi hx p hs hf, fun B σ H τ Z ok h => ?_⟩
  obtain ⟨O, eo, hL⟩ := ok.eok
  refine q O σ H τ _ eo ?_
  unfold sSet at h
  cases ht : t τ with
  | ok d =>
    rw [ht, R.ok_bind] at h
    refine fun v H' L s r k => h _ _ ?_
    obtain ⟨Ls, h1, h2, h3, _, _, _, h7⟩ := hL L (k.shr eo.dom hc)
    exact SOk.intoS (ok.ext.trans s) ok.lσ ok.lτ (fun j c e hc => by obtain ⟨v', d', e1, e2, r'⟩ := h1 j c e hc; exact ⟨v', d', e1, e2, r'.same s⟩) h2 h3 h7 r hl
  | err n => rw [ht] at h; exact fun C H' e s => h C H' e (ok.ext.trans s)
  | bad => rw [ht] at h; exact h
end
end L2
set_option maxRecDepth 100000
set_option maxHeartbeats 4000000
namespace L2
open PySem PySem.Spec PyProof.Rows
noncomputable def rInK : R2 := fun x y H Q => ∃ a o, y = .ref a /\ DGet H a x o /\ Q (.bl o.isSome) H
theorem op_inK {X : Cx} (hu : X.A.units + 1 < cLine) : OpR X (compareOp .In) rInK := by
  intro pins s σ H x y v u Q I rx ry h
  obtain ⟨a, o, rfl, g, q⟩ := h
  obtain rfl : u = Value.ref a := ry
  exact d_in hu I g rx fun s3 I3 => ⟨.bl o.isSome, H, I3, rfl, q⟩
noncomputable def inKD (x y : D) : R D := match y with
  | .dic ks ds => (match keyOf x with
    | some k => .ok (.bl (lookD ks ds k).isSome)
    | none => .bad)
  | _ => .bad
theorem N_inK : NoErr inKD := fun x y n h => by
  unfold inKD at h
  split at h
  · split at h <;> cases h
  · cases h
theorem B_inK {K : PySem.W.Frag} : OpB K rInK inKD := by
  rintro H x y dx dy Lx Ly Q rx ry ⟨d, hg, q⟩
  unfold inKD at hg
  split at hg
  · rename_i ks ds
    split at hg
    · rename_i k hk
      cases hg
      obtain ⟨ad, kvs, L', rfl, had, e2, hks, _, rs⟩ := ry
      have e : (valV kvs k).isSome = (lookD ks ds k).isSome := by
        cases hl : lookD ks ds k with
        | some d =>
          rw [<- hks] at hl
          obtain ⟨v, L1, g1, _⟩ := look_some rs hl
          rw [g1]; rfl
        | none =>
          rw [<- hks] at hl
          rw [look_none rs hl]; rfl
      refine ⟨ad, valV kvs k, rfl, ?_, ?_⟩
      · rw [keyOf_rep hk rx]; exact DGet.k had
      · rw [e]
        exact q _ H [] (Same.refl H) ⟨rfl, rfl⟩ (by simp) (fun a ha => nomatch ha)
    · cases hg
  · cases hg
end L2
set_option maxRecDepth 100000
set_option maxHeartbeats 4000000
namespace K04
open PySem PySem.Spec PyProof.Rows L2
noncomputable def top (i : Nat) : Stmt := PySem.Challenge.pw_quirehand_k04_the_joint_that_tells.main.body.getD i (.Pass ⟨0, 0, 0, 0⟩)
section
variable {P : Program} {w : World} {K : PySem.W.Frag} {mg : Str -> Option Value} {base : Heap}
structure Gl0 (K : PySem.W.Frag) (mg : Str -> Option Value) : Prop where
  SMALL : ∃ t, mg "SMALL" = some (.str "abcdefghijklmnopqrstuvwxyz" t)
  LEAST_LETTERS : ∃ t, mg "LEAST_LETTERS" = some (.int 2 t)
  MOST_LETTERS : ∃ t, mg "MOST_LETTERS" = some (.int 8 t)
  MOST_JOINTS : ∃ t, mg "MOST_JOINTS" = some (.int 100 t)
theorem it_of {C : Addr} {bm : List Value} {n : String} (h : PySem.W.excIn K C bm n = true) : (PySem.W.clsIn K C).isSome = true := by
  unfold PySem.W.excIn at h
  split at h
  · rename_i hl
    unfold PySem.W.clsIn
    rw [hl]
    rfl
  · cases h
structure Cls (K : PySem.W.Frag) (mg : Str -> Option Value) : Prop where
  e_BadBook : ∃ C, ErrC K "BadBook" C
  ve : mg "ValueError" = none
  ex : ∃ CS CT c1 c2 c3 c4 c5 c6 c7 c8 c9 : Addr, mg "SetError" = some (.ref CS) /\ ErrC K "BadBook" CT /\ ErrI K CT /\ mg "BadBook" = some (.ref CT) /\ PySem.W.kitOne K (.ref CT) (.type "ValueError") = some true /\ PySem.W.exmOne K (.ref CT) (.ref CS) = some true /\ (mg "BadBlocks" = some (.ref c1) /\ PySem.W.kitOne K (.ref CT) (.ref c1) = some false) /\ (mg "BadBreaks" = some (.ref c2) /\ PySem.W.kitOne K (.ref CT) (.ref c2) = some false) /\ (mg "BadFace" = some (.ref c3) /\ PySem.W.kitOne K (.ref CT) (.ref c3) = some false) /\ (mg "BadRules" = some (.ref c4) /\ PySem.W.kitOne K (.ref CT) (.ref c4) = some false) /\ (mg "BadText" = some (.ref c5) /\ PySem.W.kitOne K (.ref CT) (.ref c5) = some false) /\ (mg "BadWord" = some (.ref c6) /\ PySem.W.kitOne K (.ref CT) (.ref c6) = some false) /\ (mg "NoNote" = some (.ref c7) /\ PySem.W.kitOne K (.ref CT) (.ref c7) = some false) /\ (mg "NoPlace" = some (.ref c8) /\ PySem.W.kitOne K (.ref CT) (.ref c8) = some false) /\ (mg "TooWide" = some (.ref c9) /\ PySem.W.kitOne K (.ref CT) (.ref c9) = some false)
noncomputable def t_mark_at : Tn -> R Fl := (sRet (eL max2D (aCons (eSm findD (eVar 0) (aCons (eC (.str "-")) aNil)) (aCons (eSm findD (eVar 0) (aCons (eC (.str "=")) aNil)) aNil))))
noncomputable def F_mark_at : List D -> R D := runB 1 t_mark_at
theorem sc_mark_at : FnScope ["joint"] ["joint"] (defScope (top 17)) := ⟨rfl, rfl, rfl, by decide +kernel, rfl, by decide +kernel, by decide +kernel⟩
theorem ok_mark_at (Df : DefIn K mg "mark_at" (top 17) ["joint"]) (B : Bl mg) (G : Gl0 K mg) (Cl : Cls K mg)  : Own P w K mg base "mark_at" 1 ["joint"] (spM K F_mark_at 1) :=
  Df.mir (k := 0) (Γ' := [.shr]) sc_mark_at (by decide) fun f cdv A outer s H E hr => (mss_one (ms_ret (mv_fresh (me_callB (call_max2 (by exact rfl)) B_max2 N_max2 (by exact rfl) B.max PyProof.Rows.boot_max (ma_cons (me_sm PySem.F.plainAttrs_str PySem.F.slot_str_find PySem.F.type_str_find mt_find1 B_find N_find (mn 0 .shr) (ma_cons me_str ma_nil)) (ma_cons (me_sm PySem.F.plainAttrs_str PySem.F.slot_str_find PySem.F.type_str_find mt_find1 B_find N_find (mn 0 .shr) (ma_cons me_str ma_nil)) ma_nil))))))
noncomputable def t_letters_of : Tn -> R Fl := (sRet (eUn (replD "=" "") (eUn (replD "-" "") (eVar 0))))
noncomputable def F_letters_of : List D -> R D := runB 1 t_letters_of
theorem sc_letters_of : FnScope ["joint"] ["joint"] (defScope (top 18)) := ⟨rfl, rfl, rfl, by decide +kernel, rfl, by decide +kernel, by decide +kernel⟩
theorem ok_letters_of (Df : DefIn K mg "letters_of" (top 18) ["joint"]) (B : Bl mg) (G : Gl0 K mg) (Cl : Cls K mg)  : Own P w K mg base "letters_of" 1 ["joint"] (spM K F_letters_of 1) :=
  Df.mirT (k := 0) (Γ' := [.shr]) sc_letters_of (by decide) ⟨_, _, rfl, rfl⟩ fun f cdv A outer s H E hr => (msT_ret (mep_repl (mep_repl (ME.p (mn 0 .shr)) (by decide) (by decide)) (by decide) (by decide)))
noncomputable def t_is_joint : Tn -> R Fl := (sSeq (sIf (bOr (bNot (eTest (eUn (isiD "str") (eVar 0)))) (bNot (eTest (eChain ltD leD (eC (.int 2)) (eL lenD (aCons (eVar 0) aNil)) (eBin addD (eC (.int 8)) (eC (.int 1))))))) (sRet (eC (.bl false))) sSkip) (sSeq (sSet 1 (eL F_letters_of (aCons (eVar 0) aNil))) (sSeq (sIf (bOr (eTest (eBin (eqR true) (eL lenD (aCons (eVar 1) aNil)) (eBin subD (eL lenD (aCons (eVar 0) aNil)) (eC (.int 1))))) (bNot (eTest (eChain ltD ltD (eC (.int 0)) (eL F_mark_at (aCons (eVar 0) aNil)) (eBin subD (eL lenD (aCons (eVar 0) aNil)) (eC (.int 1))))))) (sRet (eC (.bl false))) sSkip) (sRet (eL allD (aCons (eComp [none] (iSeq (eVar 1)) (.one 0) (fun _ => .ok true) (eBin inSD (eVar 0) (eC (.str "abcdefghijklmnopqrstuvwxyz")))) aNil))))))
noncomputable def F_is_joint : List D -> R D := runB 2 t_is_joint
theorem sc_is_joint : FnScope ["thing", "letters"] ["thing"] (defScope (top 19)) := ⟨rfl, rfl, rfl, by decide +kernel, rfl, by decide +kernel, by decide +kernel⟩
theorem ok_is_joint (Df : DefIn K mg "is_joint" (top 19) ["thing"]) (B : Bl mg) (G : Gl0 K mg) (Cl : Cls K mg) (O_letters_of : Own P w K mg base "letters_of" 1 ["joint"] (spM K F_letters_of 1)) (O_mark_at : Own P w K mg base "mark_at" 1 ["joint"] (spM K F_mark_at 1)) : Own P w K mg base "is_joint" 2 ["thing"] (spM K F_is_joint 1) :=
  Df.mir (k := 1) (Γ' := [.shr, .dead]) sc_is_joint (by decide) fun f cdv A outer s H E hr => (mss_cons (ms_if (MW.mt (mw_or (mt_not (mt_val (me_isi (T := "str") (by decide) rfl B.isinstance (pe_bltn (v := .ty "str") rfl B.str Boot.«str» rfl) (mn 0 .shr)))) (mw_or1 (mt_not (mt_chain op_lt B_lt N_int op_le B_le N_int (me_globI G.LEAST_LETTERS) (me_callB call_lenA B_len N_len (by exact rfl) B.len PySem.boot_len (ma_cons (mn 0 .shr) ma_nil)) (me_op op_addA B_add N_add (me_globI G.MOST_LETTERS) me_int)))))) (mss_one (ms_ret (mv_fresh me_bl))) mss_nil) (mss_cons (L2.st 1 sc_is_joint.nd (mv_fresh (me_call (O_letters_of.mono (by decide)) hr (by exact rfl) passes_cxx (ma_cons (mn 0 .shr) ma_nil)))) (mss_cons (ms_if (MW.mt (mw_or (mt_cmp (op_neAll hr.u12) B_eq N_eq (me_callB call_lenA B_len N_len (by exact rfl) B.len PySem.boot_len (ma_cons (mn 1 .own) ma_nil)) (me_op op_sub B_sub N_int (me_callB call_lenA B_len N_len (by exact rfl) B.len PySem.boot_len (ma_cons (mn 0 .shr) ma_nil)) me_int) (nomark _)) (mw_or1 (mt_not (mt_chain op_lt B_lt N_int op_lt B_lt N_int me_int (me_call (O_mark_at.mono (by decide)) hr (by exact rfl) passes_cxx (ma_cons (mn 0 .shr) ma_nil)) (me_op op_sub B_sub N_int (me_callB call_lenA B_len N_len (by exact rfl) B.len PySem.boot_len (ma_cons (mn 0 .shr) ma_nil)) me_int)))))) (mss_one (ms_ret (mv_fresh me_bl))) mss_nil) (mss_one (ms_ret (mv_fresh (me_callB (call_allL (by exact rfl)) B_all N_all (by exact rfl) B.all Boot.«all» (ma_cons (me_comp (N' := ["letter"]) (fr := [none]) rfl (cs_def sc_is_joint.nofree (by decide +kernel)) (mi_seq (mn 1 .own)) (fun _ _ _ _ => (mg_one (pgn 0 (show List.Nodup (["letter"] : List Str) from by decide +kernel)))) (fun _ _ _ _ => mts_nil) (fun _ _ _ _ => (me_cmp op_inS B_inS N_inS (mn 0 .brw) (me_globS G.SMALL) (by exact rfl))) (by decide) (by decide)) ma_nil))))))))
noncomputable def t_is_book : Tn -> R Fl := (sSeq (sIf (bOr (bNot (eTest (eUn (isiD "list") (eVar 0)))) (eTest (eBin gtD (eL lenD (aCons (eVar 0) aNil)) (eC (.int 100))))) (sRet (eC (.bl false))) sSkip) (sSeq (sSet 1 (eC (.dic [] []))) (sSeq (sFor (iSeq (eVar 0)) (.one 2) (sSeq (sIf (bNot (eTest (eL F_is_joint (aCons (eVar 2) aNil)))) (sRet (eC (.bl false))) sSkip) (sSeq (sSet 3 (eUn (replD "=" "-") (eVar 2))) (sSeq (sIf (eTest (eBin inKD (eVar 3) (eVar 1))) (sRet (eC (.bl false))) sSkip) (sKPut 1 (eC (.bl true)) (eVar 3)))))) (sRet (eC (.bl true))))))
noncomputable def F_is_book : List D -> R D := runB 4 t_is_book
theorem sc_is_book : FnScope ["thing", "seen", "joint", "place"] ["thing"] (defScope (top 20)) := ⟨rfl, rfl, rfl, by decide +kernel, rfl, by decide +kernel, by decide +kernel⟩
theorem ok_is_book (Df : DefIn K mg "is_book" (top 20) ["thing"]) (B : Bl mg) (G : Gl0 K mg) (Cl : Cls K mg) (O_is_joint : Own P w K mg base "is_joint" 2 ["thing"] (spM K F_is_joint 1)) : Own P w K mg base "is_book" 3 ["thing"] (spM K F_is_book 1) :=
  Df.mirT (k := 2) (Γ' := [.shr, .dead, .dead, .dead]) sc_is_book (by decide) ⟨_, _, rfl, rfl⟩ fun f cdv A outer s H E hr => (msT_cons (MS.tt (ms_if (MW.mt (mw_or (mt_not (mt_val (me_isi (T := "list") (by decide) rfl B.isinstance (pe_bltn (v := .ty "list") rfl B.list Boot.«list» rfl) (mn 0 .shr)))) (mw_or1 (mt_cmp op_gt B_gt N_int (me_callB call_lenA B_len N_len (by exact rfl) B.len PySem.boot_len (ma_cons (mn 0 .shr) ma_nil)) (me_globI G.MOST_JOINTS) (nomark _))))) (mss_one (ms_ret (mv_fresh me_bl))) mss_nil)) (msT_cons (MS.tt (L2.st 1 sc_is_book.nd (mv_fresh me_disp0))) (msT_cons (ms_forT (Γ2 := [.shr, .own, .shr, .shr]) PassesOwn.leaving rfl (mi_seq (mn 0 .shr)) (by decide) (mg_one (pgn 2 sc_is_book.nd)) (by decide) (msT_cons (MS.tt (ms_if (mt_not (mt_val (me_call (O_is_joint.mono (by decide)) hr (by exact rfl) passes_cxx (ma_cons (mn 2 .shr) ma_nil)))) (mss_one (ms_ret (mv_fresh me_bl))) mss_nil)) (msT_cons (stT 3 sc_is_book.nd (mep_repl (ME.p (mn 2 .shr)) (by decide) (by decide))) (msT_cons (MS.tt (ms_if (mt_cmp (op_inK hr.u1) B_inK N_inK (mn 3 .shr) (mn 1 .own) (by exact rfl)) (mss_one (ms_ret (mv_fresh me_bl))) mss_nil)) (msT_one (MS.tt (kput 1 hr.u1 (mv_fresh me_bl) (mn 3 .shr))))))) rfl) (msT_one (MS.tt (ms_ret (mv_fresh me_bl)))))))
noncomputable def t_need_book : Tn -> R Fl := (sSeq (sIf (bNot (eTest (eL F_is_book (aCons (eVar 0) aNil)))) (sErr "BadBook" (aCons (eC (.str "a book is a list of at most 100 joints, each letters and place told once")) aNil)) sSkip) (sRet (eC (.bl true))))
noncomputable def F_need_book : List D -> R D := runB 1 t_need_book
theorem sc_need_book : FnScope ["book"] ["book"] (defScope (top 21)) := ⟨rfl, rfl, rfl, by decide +kernel, rfl, by decide +kernel, by decide +kernel⟩
theorem ok_need_book (Df : DefIn K mg "need_book" (top 21) ["book"]) (B : Bl mg) (G : Gl0 K mg) (Cl : Cls K mg) (O_is_book : Own P w K mg base "is_book" 3 ["thing"] (spM K F_is_book 1)) : Own P w K mg base "need_book" 4 ["book"] (spM K F_need_book 1) :=
  Df.mir (k := 3) (Γ' := [.shr]) sc_need_book (by decide) fun f cdv A outer s H E hr => (mss_cons (ms_if (mt_not (mt_val (me_call (O_is_book.mono (by decide)) hr (by exact rfl) passes_cxx (ma_cons (mn 0 .shr) ma_nil)))) (mss_one (ms_raiseE Cl.e_BadBook rfl (ma_cons me_str ma_nil))) mss_nil) (mss_one (ms_ret (mv_fresh me_bl))))
noncomputable def t_fits : Tn -> R Fl := (sSeq (sSet 3 (eL F_letters_of (aCons (eVar 0) aNil))) (sSeq (sSet 4 (eBin subD (eVar 2) (eL F_mark_at (aCons (eVar 0) aNil)))) (sRet (eAnd (eBin geD (eVar 4) (eC (.int 0))) (eBin (eqR false) (eSm0 lowD (eSl (eVar 1) (oSome (eVar 4)) (oSome (eBin addD (eVar 4) (eL lenD (aCons (eVar 3) aNil)))))) (eVar 3))))))
noncomputable def F_fits : List D -> R D := runB 5 t_fits
theorem sc_fits : FnScope ["joint", "word", "place", "letters", "begin"] ["joint", "word", "place"] (defScope (top 22)) := ⟨rfl, rfl, rfl, by decide +kernel, rfl, by decide +kernel, by decide +kernel⟩
theorem ok_fits (Df : DefIn K mg "fits" (top 22) ["joint", "word", "place"]) (B : Bl mg) (G : Gl0 K mg) (Cl : Cls K mg) (O_letters_of : Own P w K mg base "letters_of" 1 ["joint"] (spM K F_letters_of 1)) (O_mark_at : Own P w K mg base "mark_at" 1 ["joint"] (spM K F_mark_at 1)) : Own P w K mg base "fits" 2 ["joint", "word", "place"] (spM K F_fits 3) :=
  Df.mir (k := 1) (Γ' := [.shr, .shr, .shr, .dead, .dead]) sc_fits (by decide) fun f cdv A outer s H E hr => (mss_cons (L2.st 3 sc_fits.nd (mv_fresh (me_call (O_letters_of.mono (by decide)) hr (by exact rfl) passes_cxx (ma_cons (mn 0 .shr) ma_nil)))) (mss_cons (L2.st 4 sc_fits.nd (mv_fresh (me_op op_sub B_sub N_int (mn 2 .shr) (me_call (O_mark_at.mono (by decide)) hr (by exact rfl) passes_cxx (ma_cons (mn 0 .shr) ma_nil))))) (mss_one (ms_ret (mv_fresh (me_and (me_cmp op_ge B_ge N_int (mn 4 .own) me_int (nomark _)) (me_one (me_cmp (op_eqAll hr.u12) B_eq N_eq (me_lower (me_sl (mn 1 .shr) (mo_some (mn 4 .own)) (mo_some (me_op op_addA B_add N_add (mn 4 .own) (me_callB call_lenA B_len N_len (by exact rfl) B.len PySem.boot_len (ma_cons (mn 3 .own) ma_nil)))))) (mn 3 .own) (nomark _)))))))))
noncomputable def t_rank : Tn -> R Fl := (sRet (eL (fun ds => .ok (.tup ds)) (aCons (eL lenD (aCons (eVar 0) aNil)) (aCons (eL F_mark_at (aCons (eVar 0) aNil)) aNil))))
noncomputable def F_rank : List D -> R D := runB 1 t_rank
theorem sc_rank : FnScope ["joint"] ["joint"] (defScope (top 23)) := ⟨rfl, rfl, rfl, by decide +kernel, rfl, by decide +kernel, by decide +kernel⟩
theorem ok_rank (Df : DefIn K mg "rank" (top 23) ["joint"]) (B : Bl mg) (G : Gl0 K mg) (Cl : Cls K mg) (O_mark_at : Own P w K mg base "mark_at" 1 ["joint"] (spM K F_mark_at 1)) : Own P w K mg base "rank" 2 ["joint"] (spM K F_rank 1) :=
  Df.mir (k := 1) (Γ' := [.shr]) sc_rank (by decide) fun f cdv A outer s H E hr => (mss_one (ms_ret (mv_fresh (me_tup (ma_cons (me_callB call_lenA B_len N_len (by exact rfl) B.len PySem.boot_len (ma_cons (mn 0 .shr) ma_nil)) (ma_cons (me_call (O_mark_at.mono (by decide)) hr (by exact rfl) passes_cxx (ma_cons (mn 0 .shr) ma_nil)) ma_nil))))))
noncomputable def t_telling : Tn -> R Fl := (sSeq (sSet 3 (eC .non)) (sSeq (sFor (iSeq (eVar 0)) (.one 4) (sIf (bAnd (eTest (eL F_fits (aCons (eVar 4) (aCons (eVar 1) (aCons (eVar 2) aNil))))) (bOr (eTest (eBin (isN false) (eVar 3) (eC .non))) (eTest (eBin gtT (eL F_rank (aCons (eVar 4) aNil)) (eL F_rank (aCons (eVar 3) aNil)))))) (sSet 3 (eVar 4)) sSkip)) (sRet (eImm (eVar 3)))))
noncomputable def F_telling : List D -> R D := runB 5 t_telling
theorem sc_telling : FnScope ["book", "word", "place", "best", "joint"] ["book", "word", "place"] (defScope (top 24)) := ⟨rfl, rfl, rfl, by decide +kernel, rfl, by decide +kernel, by decide +kernel⟩
theorem ok_telling (Df : DefIn K mg "telling" (top 24) ["book", "word", "place"]) (B : Bl mg) (G : Gl0 K mg) (Cl : Cls K mg) (O_fits : Own P w K mg base "fits" 2 ["joint", "word", "place"] (spM K F_fits 3)) (O_rank : Own P w K mg base "rank" 2 ["joint"] (spM K F_rank 1)) : Own P w K mg base "telling" 3 ["book", "word", "place"] (spM K F_telling 3) :=
  Df.mir (k := 2) (Γ' := [.shr, .shr, .shr, .dead, .dead]) sc_telling (by decide) fun f cdv A outer s H E hr => (mss_cons (L2.st 3 sc_telling.nd (mv_fresh me_non)) (mss_cons (ms_pre (Γ1 := [.shr, .shr, .shr, .shr, .dead]) (ms_for (Γ2 := [.shr, .shr, .shr, .shr, .shr]) PassesOwn.leaving rfl (mi_seq (mn 0 .shr)) (by decide) (mg_one (pgn 4 sc_telling.nd)) (by decide) (mss_one (ms_if (MW.mt (mw_and (mt_val (me_call (O_fits.mono (by decide)) hr (by exact rfl) passes_cxx (ma_cons (mn 4 .shr) (ma_cons (mn 1 .shr) (ma_cons (mn 2 .shr) ma_nil))))) (mw_and1 (MW.mt (mw_or (mt_cmp op_isN B_isN N_isN (mn 3 .shr) me_non (nomark _)) (mw_or1 (mt_cmp (op_gtT hr.units0) B_gtT N_gtT (me_call (O_rank.mono (by decide)) hr (by exact rfl) passes_cxx (ma_cons (mn 4 .shr) ma_nil)) (me_call (O_rank.mono (by decide)) hr (by exact rfl) passes_cxx (ma_cons (mn 3 .shr) ma_nil)) (nomark _)))))))) (mss_one (stS 3 sc_telling.nd (mn 4 .shr))) mss_nil)) rfl) rfl) (mss_one (ms_ret (mv_fresh (me_imm (mn 3 .shr)))))))
noncomputable def t__law_number : Tn -> R Fl := (sSeq (sSet 2 (eC (.int 0))) (sSeq (sIf (eTest (eBin ltD (eVar 1) (eL lenD (aCons (eVar 0) aNil)))) (sSet 2 (eBin ixD (eVar 0) (eVar 1))) sSkip) (sRet (eBin modD (eBin mulD (eBin addD (eBin addD (eVar 2) (eBin mulD (eC (.int 7919)) (eVar 1))) (eC (.int 17))) (eC (.int 48271))) (eC (.int 2147483647))))))
noncomputable def F__law_number : List D -> R D := runB 3 t__law_number
theorem sc__law_number : FnScope ["_law_script", "_law_k", "_law_base"] ["_law_script", "_law_k"] (defScope (top 26)) := ⟨rfl, rfl, rfl, by decide +kernel, rfl, by decide +kernel, by decide +kernel⟩
theorem ok__law_number (Df : DefIn K mg "_law_number" (top 26) ["_law_script", "_law_k"]) (B : Bl mg) (G : Gl0 K mg) (Cl : Cls K mg)  : Own P w K mg base "_law_number" 1 ["_law_script", "_law_k"] (spM K F__law_number 2) :=
  Df.mir (k := 0) (Γ' := [.shr, .shr, .dead]) sc__law_number (by decide) fun f cdv A outer s H E hr => (mss_cons (L2.st 2 sc__law_number.nd (mv_fresh me_int)) (mss_cons (ms_if (mt_cmp op_lt B_lt N_int (mn 1 .shr) (me_callB call_lenA B_len N_len (by exact rfl) B.len PySem.boot_len (ma_cons (mn 0 .shr) ma_nil)) (nomark _)) (mss_one (stS 2 sc__law_number.nd (me_ix hr.u1 (mn 0 .shr) (mn 1 .shr)))) (mss_weak (Γ' := [.shr, .shr, .shr]) mss_nil rfl)) (mss_one (ms_ret (mv_fresh (me_op op_mod B_mod N_int (me_op op_mulA B_mul N_mul (me_op op_addA B_add N_add (me_op op_addA B_add N_add (mn 2 .shr) (me_op op_mulA B_mul N_mul me_int (mn 1 .shr))) me_int) me_int) me_int))))))
noncomputable def t__law_sign : Tn -> R Fl := (sSeq (sSet 1 (eC (.str "abcdefghijklmnopqrstuvwxyzABCDEFGHIJKLMNOPQRSTUVWXYZ0123456789.,;:!?'\"()-/"))) (sSeq (sIf (eTest (eBin ltD (eBin modD (eVar 0) (eC (.int 16))) (eC (.int 10)))) (sRet (eBin ixD (eC (.str "aabbcABBAb")) (eBin modD (eVar 0) (eC (.int 16))))) sSkip) (sSeq (sIf (eTest (eBin ltD (eBin modD (eVar 0) (eC (.int 16))) (eC (.int 13)))) (sRet (eC (.str "-"))) sSkip) (sRet (eImm (eBin ixD (eVar 1) (eBin modD (eBin fdivD (eVar 0) (eC (.int 16))) (eC (.int 74)))))))))
noncomputable def F__law_sign : List D -> R D := runB 2 t__law_sign
theorem sc__law_sign : FnScope ["_law_number_here", "_law_signs"] ["_law_number_here"] (defScope (top 27)) := ⟨rfl, rfl, rfl, by decide +kernel, rfl, by decide +kernel, by decide +kernel⟩
theorem ok__law_sign (Df : DefIn K mg "_law_sign" (top 27) ["_law_number_here"]) (B : Bl mg) (G : Gl0 K mg) (Cl : Cls K mg)  : Own P w K mg base "_law_sign" 1 ["_law_number_here"] (spM K F__law_sign 1) :=
  Df.mir (k := 0) (Γ' := [.shr, .dead]) sc__law_sign (by decide) fun f cdv A outer s H E hr => (mss_cons (L2.st 1 sc__law_sign.nd (mv_fresh me_str)) (mss_cons (ms_if (mt_cmp op_lt B_lt N_int (me_op op_mod B_mod N_int (mn 0 .shr) me_int) me_int (nomark _)) (mss_one (ms_ret (mv_fresh (me_ix hr.u1 me_str (me_op op_mod B_mod N_int (mn 0 .shr) me_int))))) mss_nil) (mss_cons (ms_if (mt_cmp op_lt B_lt N_int (me_op op_mod B_mod N_int (mn 0 .shr) me_int) me_int (nomark _)) (mss_one (ms_ret (mv_fresh me_str))) mss_nil) (mss_one (ms_ret (mv_fresh (me_imm (me_ix hr.u1 (mn 1 .own) (me_op op_mod B_mod N_int (me_op op_fdiv B_fdiv N_int (mn 0 .shr) me_int) me_int)))))))))
noncomputable def t__law_word : Tn -> R Fl := (sSeq (sSet 2 (eL F__law_number (aCons (eVar 0) (aCons (eVar 1) aNil)))) (sSeq (sSet 3 (eBin addD (eC (.int 1)) (eBin modD (eVar 2) (eC (.int 12))))) (sSeq (sIf (eTest (eBin (eqR false) (eBin modD (eBin fdivD (eVar 2) (eC (.int 12))) (eC (.int 6))) (eC (.int 1)))) (sSet 3 (eBin addD (eC (.int 1)) (eBin modD (eBin fdivD (eVar 2) (eC (.int 72))) (eC (.int 40))))) sSkip) (sSeq (sSet 4 (eL (fun ds => .ok (.lst ds)) aNil)) (sSeq (sFor (iL rng1 (aCons (eVar 3) aNil)) (.one 5) (sSeq (sSet 2 (eBin addD (eL F__law_number (aCons (eVar 0) (aCons (eBin addD (eBin addD (eVar 1) (eC (.int 1))) (eBin modD (eVar 5) (eC (.int 8)))) aNil))) (eBin mulD (eBin mulD (eC (.int 611)) (eVar 5)) (eVar 5)))) (sApp 4 (eL F__law_sign (aCons (eBin fdivD (eVar 2) (eC (.int 5))) aNil))))) (sRet (eSm joinD (eC (.str "")) (aCons (eVar 4) aNil))))))))
noncomputable def F__law_word : List D -> R D := runB 6 t__law_word
theorem sc__law_word : FnScope ["_law_script", "_law_k", "_law_number_here", "_law_size", "_law_signs", "_law_j"] ["_law_script", "_law_k"] (defScope (top 28)) := ⟨rfl, rfl, rfl, by decide +kernel, rfl, by decide +kernel, by decide +kernel⟩
theorem ok__law_word (Df : DefIn K mg "_law_word" (top 28) ["_law_script", "_law_k"]) (B : Bl mg) (G : Gl0 K mg) (Cl : Cls K mg) (O__law_number : Own P w K mg base "_law_number" 1 ["_law_script", "_law_k"] (spM K F__law_number 2)) (O__law_sign : Own P w K mg base "_law_sign" 1 ["_law_number_here"] (spM K F__law_sign 1)) : Own P w K mg base "_law_word" 2 ["_law_script", "_law_k"] (spM K F__law_word 2) :=
  Df.mir (k := 1) (Γ' := [.shr, .shr, .dead, .dead, .dead, .dead]) sc__law_word (by decide) fun f cdv A outer s H E hr => (mss_cons (L2.st 2 sc__law_word.nd (mv_fresh (me_call (O__law_number.mono (by decide)) hr (by exact rfl) passes_cxx (ma_cons (mn 0 .shr) (ma_cons (mn 1 .shr) ma_nil))))) (mss_cons (L2.st 3 sc__law_word.nd (mv_fresh (me_op op_addA B_add N_add me_int (me_op op_mod B_mod N_int (mn 2 .own) me_int)))) (mss_cons (ms_if (mt_cmp (op_eqAll hr.u12) B_eq N_eq (me_op op_mod B_mod N_int (me_op op_fdiv B_fdiv N_int (mn 2 .own) me_int) me_int) me_int (nomark _)) (mss_one (L2.st 3 sc__law_word.nd (mv_fresh (me_op op_addA B_add N_add me_int (me_op op_mod B_mod N_int (me_op op_fdiv B_fdiv N_int (mn 2 .own) me_int) me_int))))) mss_nil) (mss_cons (L2.st 4 sc__law_word.nd (mv_fresh (me_lst ma_nil))) (mss_cons (ms_for (Γ2 := [.shr, .shr, .own, .own, .own, .shr]) PassesOwn.leaving rfl (mi_range1 rfl B.range (ma_cons (mn 3 .own) ma_nil)) (by decide) (mg_one (pgn 5 sc__law_word.nd)) (by decide) (mss_cons (L2.st 2 sc__law_word.nd (mv_fresh (me_op op_addA B_add N_add (me_call (O__law_number.mono (by decide)) hr (by exact rfl) passes_cxx (ma_cons (mn 0 .shr) (ma_cons (me_op op_addA B_add N_add (me_op op_addA B_add N_add (mn 1 .shr) me_int) (me_op op_mod B_mod N_int (mn 5 .shr) me_int)) ma_nil))) (me_op op_mulA B_mul N_mul (me_op op_mulA B_mul N_mul me_int (mn 5 .shr)) (mn 5 .shr))))) (mss_one (app 4 (mv_fresh (me_call (O__law_sign.mono (by decide)) hr (by exact rfl) passes_cxx (ma_cons (me_op op_fdiv B_fdiv N_int (mn 2 .own) me_int) ma_nil)))))) rfl) (mss_one (ms_ret (mv_fresh (me_sm PySem.F.plainAttrs_str PySem.F.slot_str_join PySem.F.type_str_join mt_joinL B_join N_join me_str (ma_cons (mn 4 .own) ma_nil))))))))))
noncomputable def t__law_small : Tn -> R Fl := (sSeq (sSet 1 (eC (.str "ABCDEFGHIJKLMNOPQRSTUVWXYZ"))) (sSeq (sIf (eTest (eBin inSD (eVar 0) (eVar 1))) (sRet (eBin ixD (eC (.str "abcdefghijklmnopqrstuvwxyz")) (eSm indexD (eVar 1) (aCons (eVar 0) aNil)))) sSkip) (sRet (eImm (eVar 0)))))
noncomputable def F__law_small : List D -> R D := runB 2 t__law_small
theorem sc__law_small : FnScope ["_law_sign_here", "_law_great"] ["_law_sign_here"] (defScope (top 29)) := ⟨rfl, rfl, rfl, by decide +kernel, rfl, by decide +kernel, by decide +kernel⟩
theorem ok__law_small (Df : DefIn K mg "_law_small" (top 29) ["_law_sign_here"]) (B : Bl mg) (G : Gl0 K mg) (Cl : Cls K mg)  : Own P w K mg base "_law_small" 1 ["_law_sign_here"] (spM K F__law_small 1) :=
  Df.mir (k := 0) (Γ' := [.shr, .dead]) sc__law_small (by decide) fun f cdv A outer s H E hr => (mss_cons (L2.st 1 sc__law_small.nd (mv_fresh me_str)) (mss_cons (ms_if (mt_cmp op_inS B_inS N_inS (mn 0 .shr) (mn 1 .own) (by exact rfl)) (mss_one (ms_ret (mv_fresh (me_ix hr.u1 me_str (me_sm PySem.F.plainAttrs_str PySem.F.slot_str_index PySem.F.type_str_index mt_index1 B_index N_index (mn 1 .own) (ma_cons (mn 0 .shr) ma_nil)))))) mss_nil) (mss_one (ms_ret (mv_fresh (me_imm (mn 0 .shr)))))))
noncomputable def t__law_letter_by : Tn -> R Fl := (sSeq (sIf (bAnd (eTest (eChain leD ltD (eC (.int 0)) (eVar 2) (eL lenD (aCons (eVar 1) aNil)))) (eTest (eBin inSD (eL F__law_small (aCons (eBin ixD (eVar 1) (eVar 2)) aNil)) (eC (.str "abcdefghijklmnopqrstuvwxyz"))))) (sRet (eL F__law_small (aCons (eBin ixD (eVar 1) (eVar 2)) aNil))) sSkip) (sRet (eBin ixD (eC (.str "abc")) (eBin modD (eBin fdivD (eVar 0) (eBin addD (eC (.int 1)) (eBin mulD (eVar 2) (eVar 2)))) (eC (.int 3))))))
noncomputable def F__law_letter_by : List D -> R D := runB 3 t__law_letter_by
theorem sc__law_letter_by : FnScope ["_law_number_here", "_law_word_here", "_law_spot"] ["_law_number_here", "_law_word_here", "_law_spot"] (defScope (top 30)) := ⟨rfl, rfl, rfl, by decide +kernel, rfl, by decide +kernel, by decide +kernel⟩
theorem ok__law_letter_by (Df : DefIn K mg "_law_letter_by" (top 30) ["_law_number_here", "_law_word_here", "_law_spot"]) (B : Bl mg) (G : Gl0 K mg) (Cl : Cls K mg) (O__law_small : Own P w K mg base "_law_small" 1 ["_law_sign_here"] (spM K F__law_small 1)) : Own P w K mg base "_law_letter_by" 2 ["_law_number_here", "_law_word_here", "_law_spot"] (spM K F__law_letter_by 3) :=
  Df.mir (k := 1) (Γ' := [.shr, .shr, .shr]) sc__law_letter_by (by decide) fun f cdv A outer s H E hr => (mss_cons (ms_if (MW.mt (mw_and (mt_chain op_le B_le N_int op_lt B_lt N_int me_int (mn 2 .shr) (me_callB call_lenA B_len N_len (by exact rfl) B.len PySem.boot_len (ma_cons (mn 1 .shr) ma_nil))) (mw_and1 (mt_cmp op_inS B_inS N_inS (me_call (O__law_small.mono (by decide)) hr (by exact rfl) passes_cxx (ma_cons (me_ix hr.u1 (mn 1 .shr) (mn 2 .shr)) ma_nil)) me_str (by exact rfl))))) (mss_one (ms_ret (mv_fresh (me_call (O__law_small.mono (by decide)) hr (by exact rfl) passes_cxx (ma_cons (me_ix hr.u1 (mn 1 .shr) (mn 2 .shr)) ma_nil))))) mss_nil) (mss_one (ms_ret (mv_fresh (me_ix hr.u1 me_str (me_op op_mod B_mod N_int (me_op op_fdiv B_fdiv N_int (mn 0 .shr) (me_op op_addA B_add N_add me_int (me_op op_mulA B_mul N_mul (mn 2 .shr) (mn 2 .shr)))) me_int))))))
noncomputable def t__law_joint : Tn -> R Fl := (sSeq (sSet 2 (eBin addD (eC (.int 2)) (eBin modD (eVar 0) (eC (.int 3))))) (sSeq (sIf (eTest (eBin (eqR false) (eBin modD (eBin fdivD (eVar 0) (eC (.int 3))) (eC (.int 5))) (eC (.int 1)))) (sSet 2 (eBin addD (eC (.int 2)) (eBin modD (eBin fdivD (eVar 0) (eC (.int 15))) (eC (.int 7))))) sSkip) (sSeq (sSet 3 (eBin addD (eC (.int 1)) (eBin modD (eBin fdivD (eVar 0) (eC (.int 105))) (eBin subD (eVar 2) (eC (.int 1)))))) (sSeq (sSet 4 (eBin modD (eBin fdivD (eVar 0) (eC (.int 21))) (eBin addD (eL lenD (aCons (eVar 1) aNil)) (eC (.int 1))))) (sSeq (sSet 5 (eComp [none, some 0, some 1, some 4, some 3] (iL rng1 (aCons (eVar 2) aNil)) (.one 0) (fun _ => .ok true) (eL F__law_letter_by (aCons (eVar 1) (aCons (eVar 2) (aCons (eBin addD (eBin subD (eVar 3) (eVar 4)) (eVar 0)) aNil)))))) (sSeq (sIf (eTest (eBin (eqR false) (eBin modD (eBin fdivD (eVar 0) (eC (.int 29))) (eC (.int 5))) (eC (.int 1)))) (sSet 5 (eComp [none, some 0] (iL rng1 (aCons (eVar 2) aNil)) (.one 0) (fun _ => .ok true) (eBin ixD (eC (.str "ab")) (eBin modD (eBin fdivD (eVar 1) (eBin mulD (eC (.int 31)) (eBin addD (eC (.int 1)) (eVar 0)))) (eC (.int 2)))))) sSkip) (sSeq (sIf (eTest (eBin (eqR false) (eBin modD (eBin fdivD (eVar 0) (eC (.int 29))) (eC (.int 5))) (eC (.int 2)))) (sPut 5 (eBin ixD (eC (.str "abcz")) (eBin modD (eBin fdivD (eVar 0) (eC (.int 1160))) (eC (.int 4)))) (eBin modD (eBin fdivD (eVar 0) (eC (.int 145))) (eVar 2))) sSkip) (sSeq (sSet 6 (eBin ixD (eC (.str "-=")) (eBin fdivD (eBin modD (eBin fdivD (eVar 0) (eC (.int 37))) (eC (.int 5))) (eC (.int 3))))) (sRet (eBin addD (eBin addD (eSm joinD (eC (.str "")) (aCons (eSl (eVar 5) oNone (oSome (eVar 3))) aNil)) (eVar 6)) (eSm joinD (eC (.str "")) (aCons (eSl (eVar 5) (oSome (eVar 3)) oNone) aNil))))))))))))
noncomputable def F__law_joint : List D -> R D := runB 7 t__law_joint
theorem sc__law_joint : FnScope ["_law_number_here", "_law_word_here", "_law_size", "_law_at", "_law_place", "_law_letters", "_law_mark_here"] ["_law_number_here", "_law_word_here"] (defScope (top 31)) := ⟨rfl, rfl, rfl, by decide +kernel, rfl, by decide +kernel, by decide +kernel⟩
theorem ok__law_joint (Df : DefIn K mg "_law_joint" (top 31) ["_law_number_here", "_law_word_here"]) (B : Bl mg) (G : Gl0 K mg) (Cl : Cls K mg) (O__law_letter_by : Own P w K mg base "_law_letter_by" 2 ["_law_number_here", "_law_word_here", "_law_spot"] (spM K F__law_letter_by 3)) : Own P w K mg base "_law_joint" 3 ["_law_number_here", "_law_word_here"] (spM K F__law_joint 2) :=
  Df.mir (k := 2) (Γ' := [.shr, .shr, .dead, .dead, .dead, .dead, .dead]) sc__law_joint (by decide) fun f cdv A outer s H E hr => (mss_cons (L2.st 2 sc__law_joint.nd (mv_fresh (me_op op_addA B_add N_add me_int (me_op op_mod B_mod N_int (mn 0 .shr) me_int)))) (mss_cons (ms_if (mt_cmp (op_eqAll hr.u12) B_eq N_eq (me_op op_mod B_mod N_int (me_op op_fdiv B_fdiv N_int (mn 0 .shr) me_int) me_int) me_int (nomark _)) (mss_one (L2.st 2 sc__law_joint.nd (mv_fresh (me_op op_addA B_add N_add me_int (me_op op_mod B_mod N_int (me_op op_fdiv B_fdiv N_int (mn 0 .shr) me_int) me_int))))) mss_nil) (mss_cons (L2.st 3 sc__law_joint.nd (mv_fresh (me_op op_addA B_add N_add me_int (me_op op_mod B_mod N_int (me_op op_fdiv B_fdiv N_int (mn 0 .shr) me_int) (me_op op_sub B_sub N_int (mn 2 .own) me_int))))) (mss_cons (L2.st 4 sc__law_joint.nd (mv_fresh (me_op op_mod B_mod N_int (me_op op_fdiv B_fdiv N_int (mn 0 .shr) me_int) (me_op op_addA B_add N_add (me_callB call_lenA B_len N_len (by exact rfl) B.len PySem.boot_len (ma_cons (mn 1 .shr) ma_nil)) me_int)))) (mss_cons (stC 5 (N' := ["_law_j", "_law_number_here", "_law_word_here", "_law_place", "_law_at"]) (fr := [none, some 0, some 1, some 4, some 3]) sc__law_joint.nd rfl (cs_def sc__law_joint.nofree (by decide +kernel)) (mi_range1 rfl B.range (ma_cons (mn 2 .own) ma_nil)) (fun _ _ _ _ => (mg_one (pgn 0 (show List.Nodup (["_law_j", "_law_number_here", "_law_word_here", "_law_place", "_law_at"] : List Str) from by decide +kernel)))) (fun _ _ _ _ => mts_nil) (fun _ _ _ _ => (me_call (O__law_letter_by.mono (by decide)) hr (by exact rfl) passes_no (ma_cons (mn 1 .shr) (ma_cons (mn 2 .shr) (ma_cons (me_op op_addA B_add N_add (me_op op_sub B_sub N_int (mn 3 .brw) (mn 4 .brw)) (mn 0 .shr)) ma_nil))))) (by decide)) (mss_cons (ms_if (mt_cmp (op_eqAll hr.u12) B_eq N_eq (me_op op_mod B_mod N_int (me_op op_fdiv B_fdiv N_int (mn 0 .shr) me_int) me_int) me_int (nomark _)) (mss_one (stC 5 (N' := ["_law_j", "_law_number_here"]) (fr := [none, some 0]) sc__law_joint.nd rfl (cs_def sc__law_joint.nofree (by decide +kernel)) (mi_range1 rfl B.range (ma_cons (mn 2 .own) ma_nil)) (fun _ _ _ _ => (mg_one (pgn 0 (show List.Nodup (["_law_j", "_law_number_here"] : List Str) from by decide +kernel)))) (fun _ _ _ _ => mts_nil) (fun _ _ _ _ => (me_ix hr.u1 me_str (me_op op_mod B_mod N_int (me_op op_fdiv B_fdiv N_int (mn 1 .shr) (me_op op_mulA B_mul N_mul me_int (me_op op_addA B_add N_add me_int (mn 0 .shr)))) me_int))) (by decide))) mss_nil) (mss_cons (ms_if (mt_cmp (op_eqAll hr.u12) B_eq N_eq (me_op op_mod B_mod N_int (me_op op_fdiv B_fdiv N_int (mn 0 .shr) me_int) me_int) me_int (nomark _)) (mss_one (put 5 (mv_fresh (me_ix hr.u1 me_str (me_op op_mod B_mod N_int (me_op op_fdiv B_fdiv N_int (mn 0 .shr) me_int) me_int))) (me_op op_mod B_mod N_int (me_op op_fdiv B_fdiv N_int (mn 0 .shr) me_int) (mn 2 .own)))) mss_nil) (mss_cons (L2.st 6 sc__law_joint.nd (mv_fresh (me_ix hr.u1 me_str (me_op op_fdiv B_fdiv N_int (me_op op_mod B_mod N_int (me_op op_fdiv B_fdiv N_int (mn 0 .shr) me_int) me_int) me_int)))) (mss_one (ms_ret (mv_fresh (me_op op_addA B_add N_add (me_op op_addA B_add N_add (me_sm PySem.F.plainAttrs_str PySem.F.slot_str_join PySem.F.type_str_join mt_joinL B_join N_join me_str (ma_cons (me_sl (mn 5 .own) mo_none (mo_some (mn 3 .own))) ma_nil)) (mn 6 .own)) (me_sm PySem.F.plainAttrs_str PySem.F.slot_str_join PySem.F.type_str_join mt_joinL B_join N_join me_str (ma_cons (me_sl (mn 5 .own) (mo_some (mn 3 .own)) mo_none) ma_nil))))))))))))))
noncomputable def t__law_mark : Tn -> R Fl := (sRet (eImm (eBin ixD (eComp [none, some 0] (iL rng1 (aCons (eL lenD (aCons (eVar 0) aNil)) aNil)) (.one 0) (eTest (eBin inSD (eBin ixD (eVar 1) (eVar 0)) (eC (.str "-=")))) (eVar 0)) (eC (.int 0)))))
noncomputable def F__law_mark : List D -> R D := runB 1 t__law_mark
theorem sc__law_mark : FnScope ["_law_joint_here"] ["_law_joint_here"] (defScope (top 32)) := ⟨rfl, rfl, rfl, by decide +kernel, rfl, by decide +kernel, by decide +kernel⟩
theorem ok__law_mark (Df : DefIn K mg "_law_mark" (top 32) ["_law_joint_here"]) (B : Bl mg) (G : Gl0 K mg) (Cl : Cls K mg)  : Own P w K mg base "_law_mark" 1 ["_law_joint_here"] (spM K F__law_mark 1) :=
  Df.mir (k := 0) (Γ' := [.shr]) sc__law_mark (by decide) fun f cdv A outer s H E hr => (mss_one (ms_ret (mv_fresh (me_imm (me_ix hr.u1 (me_comp (N' := ["_law_k", "_law_joint_here"]) (fr := [none, some 0]) rfl (cs_def sc__law_mark.nofree (by decide +kernel)) (mi_range1 rfl B.range (ma_cons (me_callB call_lenA B_len N_len (by exact rfl) B.len PySem.boot_len (ma_cons (mn 0 .shr) ma_nil)) ma_nil)) (fun _ _ _ _ => (mg_one (pgn 0 (show List.Nodup (["_law_k", "_law_joint_here"] : List Str) from by decide +kernel)))) (fun _ _ _ _ => (mts_one (mt_cmp op_inS B_inS N_inS (me_ix hr.u1 (mn 1 .shr) (mn 0 .shr)) me_str (by exact rfl)))) (fun _ _ _ _ => (mn 0 .shr)) (by decide) (by decide)) me_int)))))
noncomputable def t__law_fits : Tn -> R Fl := (sSeq (sSet 3 (eL F__law_mark (aCons (eVar 0) aNil))) (sSeq (sFor (iL rng1 (aCons (eL lenD (aCons (eVar 0) aNil)) aNil)) (.one 4) (sSeq (sSet 5 (eBin subD (eBin addD (eBin subD (eVar 2) (eVar 3)) (eVar 4)) (eL int1D (aCons (eBin gtD (eVar 4) (eVar 3)) aNil)))) (sSeq (sIf (bAnd (eTest (eBin (eqR true) (eVar 4) (eVar 3))) (bNot (eTest (eChain leD ltD (eC (.int 0)) (eVar 5) (eL lenD (aCons (eVar 1) aNil)))))) (sRet (eC (.bl false))) sSkip) (sIf (bAnd (eTest (eBin (eqR true) (eVar 4) (eVar 3))) (eTest (eBin (eqR true) (eL F__law_small (aCons (eBin ixD (eVar 1) (eVar 5)) aNil)) (eBin ixD (eVar 0) (eVar 4))))) (sRet (eC (.bl false))) sSkip)))) (sRet (eC (.bl true)))))
noncomputable def F__law_fits : List D -> R D := runB 6 t__law_fits
theorem sc__law_fits : FnScope ["_law_joint_here", "_law_word_here", "_law_place", "_law_at", "_law_k", "_law_spot"] ["_law_joint_here", "_law_word_here", "_law_place"] (defScope (top 33)) := ⟨rfl, rfl, rfl, by decide +kernel, rfl, by decide +kernel, by decide +kernel⟩
theorem ok__law_fits (Df : DefIn K mg "_law_fits" (top 33) ["_law_joint_here", "_law_word_here", "_law_place"]) (B : Bl mg) (G : Gl0 K mg) (Cl : Cls K mg) (O__law_mark : Own P w K mg base "_law_mark" 1 ["_law_joint_here"] (spM K F__law_mark 1)) (O__law_small : Own P w K mg base "_law_small" 1 ["_law_sign_here"] (spM K F__law_small 1)) : Own P w K mg base "_law_fits" 2 ["_law_joint_here", "_law_word_here", "_law_place"] (spM K F__law_fits 3) :=
  Df.mir (k := 1) (Γ' := [.shr, .shr, .shr, .dead, .dead, .dead]) sc__law_fits (by decide) fun f cdv A outer s H E hr => (mss_cons (L2.st 3 sc__law_fits.nd (mv_fresh (me_call (O__law_mark.mono (by decide)) hr (by exact rfl) passes_cxx (ma_cons (mn 0 .shr) ma_nil)))) (mss_cons (ms_for (Γ2 := [.shr, .shr, .shr, .own, .shr, .own]) PassesOwn.leaving rfl (mi_range1 rfl B.range (ma_cons (me_callB call_lenA B_len N_len (by exact rfl) B.len PySem.boot_len (ma_cons (mn 0 .shr) ma_nil)) ma_nil)) (by decide) (mg_one (pgn 4 sc__law_fits.nd)) (by decide) (mss_cons (L2.st 5 sc__law_fits.nd (mv_fresh (me_op op_sub B_sub N_int (me_op op_addA B_add N_add (me_op op_sub B_sub N_int (mn 2 .shr) (mn 3 .own)) (mn 4 .shr)) (me_callTy call_int1 B_int1 N_int1 (by exact rfl) B.int Boot.«int» (ma_cons (me_cmp op_gt B_gt N_int (mn 4 .shr) (mn 3 .own) (nomark _)) ma_nil))))) (mss_cons (ms_if (MW.mt (mw_and (mt_cmp (op_neAll hr.u12) B_eq N_eq (mn 4 .shr) (mn 3 .own) (nomark _)) (mw_and1 (mt_not (mt_chain op_le B_le N_int op_lt B_lt N_int me_int (mn 5 .own) (me_callB call_lenA B_len N_len (by exact rfl) B.len PySem.boot_len (ma_cons (mn 1 .shr) ma_nil))))))) (mss_one (ms_ret (mv_fresh me_bl))) mss_nil) (mss_one (ms_if (MW.mt (mw_and (mt_cmp (op_neAll hr.u12) B_eq N_eq (mn 4 .shr) (mn 3 .own) (nomark _)) (mw_and1 (mt_cmp (op_neAll hr.u12) B_eq N_eq (me_call (O__law_small.mono (by decide)) hr (by exact rfl) passes_cxx (ma_cons (me_ix hr.u1 (mn 1 .shr) (mn 5 .own)) ma_nil)) (me_ix hr.u1 (mn 0 .shr) (mn 4 .shr)) (nomark _))))) (mss_one (ms_ret (mv_fresh me_bl))) mss_nil)))) rfl) (mss_one (ms_ret (mv_fresh me_bl)))))
noncomputable def t__law_book : Tn -> R Fl := (sSeq (sSet 3 (eL F__law_number (aCons (eVar 0) (aCons (eVar 1) aNil)))) (sSeq (sSet 4 (eBin modD (eVar 3) (eC (.int 9)))) (sSeq (sIf (bAnd (eTest (eBin (eqR false) (eBin modD (eBin fdivD (eVar 3) (eC (.int 9))) (eC (.int 16))) (eC (.int 1)))) (eTest (eBin ltD (eL lenD (aCons (eVar 2) aNil)) (eC (.int 13))))) (sSet 4 (eBin addD (eC (.int 20)) (eBin modD (eBin fdivD (eVar 3) (eC (.int 144))) (eC (.int 60))))) sSkip) (sSeq (sSet 5 (eL (fun ds => .ok (.lst ds)) aNil)) (sSeq (sSet 6 (eL (fun ds => .ok (.lst ds)) aNil)) (sSeq (sFor (iL rng1 (aCons (eVar 4) aNil)) (.one 7) (sSeq (sSet 3 (eBin addD (eL F__law_number (aCons (eVar 0) (aCons (eBin addD (eBin addD (eVar 1) (eC (.int 1))) (eBin modD (eVar 7) (eC (.int 6)))) aNil))) (eBin mulD (eC (.int 48271)) (eBin fdivD (eVar 7) (eC (.int 6)))))) (sSeq (sSet 8 (eL F__law_joint (aCons (eBin modD (eVar 3) (eC (.int 2147483647))) (aCons (eVar 2) aNil)))) (sSeq (sSet 9 (eL F__law_mark (aCons (eVar 8) aNil))) (sIf (eTest (eBin (inLD true) (eL (fun ds => .ok (.tup ds)) (aCons (eSl (eVar 8) oNone (oSome (eVar 9))) (aCons (eSl (eVar 8) (oSome (eBin addD (eVar 9) (eC (.int 1)))) oNone) aNil))) (eVar 6))) (sSeq (sApp 6 (eL (fun ds => .ok (.tup ds)) (aCons (eSl (eVar 8) oNone (oSome (eVar 9))) (aCons (eSl (eVar 8) (oSome (eBin addD (eVar 9) (eC (.int 1)))) oNone) aNil)))) (sApp 5 (eImm (eVar 8)))) sSkip))))) (sRet (eVar 5))))))))
noncomputable def F__law_book : List D -> R D := runB 10 t__law_book
theorem sc__law_book : FnScope ["_law_script", "_law_k", "_law_word_here", "_law_number_here", "_law_many_here", "_law_book_here", "_law_told_here", "_law_j", "_law_joint_here", "_law_at"] ["_law_script", "_law_k", "_law_word_here"] (defScope (top 34)) := ⟨rfl, rfl, rfl, by decide +kernel, rfl, by decide +kernel, by decide +kernel⟩
theorem ok__law_book (Df : DefIn K mg "_law_book" (top 34) ["_law_script", "_law_k", "_law_word_here"]) (B : Bl mg) (G : Gl0 K mg) (Cl : Cls K mg) (O__law_number : Own P w K mg base "_law_number" 1 ["_law_script", "_law_k"] (spM K F__law_number 2)) (O__law_joint : Own P w K mg base "_law_joint" 3 ["_law_number_here", "_law_word_here"] (spM K F__law_joint 2)) (O__law_mark : Own P w K mg base "_law_mark" 1 ["_law_joint_here"] (spM K F__law_mark 1)) : Own P w K mg base "_law_book" 4 ["_law_script", "_law_k", "_law_word_here"] (spM K F__law_book 3) :=
  Df.mir (k := 3) (Γ' := [.shr, .shr, .shr, .dead, .dead, .dead, .dead, .dead, .dead, .dead]) sc__law_book (by decide) fun f cdv A outer s H E hr => (mss_cons (L2.st 3 sc__law_book.nd (mv_fresh (me_call (O__law_number.mono (by decide)) hr (by exact rfl) passes_cxx (ma_cons (mn 0 .shr) (ma_cons (mn 1 .shr) ma_nil))))) (mss_cons (L2.st 4 sc__law_book.nd (mv_fresh (me_op op_mod B_mod N_int (mn 3 .own) me_int))) (mss_cons (ms_if (MW.mt (mw_and (mt_cmp (op_eqAll hr.u12) B_eq N_eq (me_op op_mod B_mod N_int (me_op op_fdiv B_fdiv N_int (mn 3 .own) me_int) me_int) me_int (nomark _)) (mw_and1 (mt_cmp op_lt B_lt N_int (me_callB call_lenA B_len N_len (by exact rfl) B.len PySem.boot_len (ma_cons (mn 2 .shr) ma_nil)) me_int (nomark _))))) (mss_one (L2.st 4 sc__law_book.nd (mv_fresh (me_op op_addA B_add N_add me_int (me_op op_mod B_mod N_int (me_op op_fdiv B_fdiv N_int (mn 3 .own) me_int) me_int))))) mss_nil) (mss_cons (L2.st 5 sc__law_book.nd (mv_fresh (me_lst ma_nil))) (mss_cons (L2.st 6 sc__law_book.nd (mv_fresh (me_lst ma_nil))) (mss_cons (ms_for (Γ2 := [.shr, .shr, .shr, .own, .own, .own, .own, .shr, .own, .own]) PassesOwn.leaving rfl (mi_range1 rfl B.range (ma_cons (mn 4 .own) ma_nil)) (by decide) (mg_one (pgn 7 sc__law_book.nd)) (by decide) (mss_cons (L2.st 3 sc__law_book.nd (mv_fresh (me_op op_addA B_add N_add (me_call (O__law_number.mono (by decide)) hr (by exact rfl) passes_cxx (ma_cons (mn 0 .shr) (ma_cons (me_op op_addA B_add N_add (me_op op_addA B_add N_add (mn 1 .shr) me_int) (me_op op_mod B_mod N_int (mn 7 .shr) me_int)) ma_nil))) (me_op op_mulA B_mul N_mul me_int (me_op op_fdiv B_fdiv N_int (mn 7 .shr) me_int))))) (mss_cons (L2.st 8 sc__law_book.nd (mv_fresh (me_call (O__law_joint.mono (by decide)) hr (by exact rfl) passes_cxx (ma_cons (me_op op_mod B_mod N_int (mn 3 .own) me_int) (ma_cons (mn 2 .shr) ma_nil))))) (mss_cons (L2.st 9 sc__law_book.nd (mv_fresh (me_call (O__law_mark.mono (by decide)) hr (by exact rfl) passes_cxx (ma_cons (mn 8 .own) ma_nil)))) (mss_one (ms_if (mt_cmp (op_notInL hr.u12) B_inL N_inL (me_tup (ma_cons (me_sl (mn 8 .own) mo_none (mo_some (mn 9 .own))) (ma_cons (me_sl (mn 8 .own) (mo_some (me_op op_addA B_add N_add (mn 9 .own) me_int)) mo_none) ma_nil))) (mn 6 .own) (by exact rfl)) (mss_cons (app 6 (mv_fresh (me_tup (ma_cons (me_sl (mn 8 .own) mo_none (mo_some (mn 9 .own))) (ma_cons (me_sl (mn 8 .own) (mo_some (me_op op_addA B_add N_add (mn 9 .own) me_int)) mo_none) ma_nil))))) (mss_one (app 5 (mv_fresh (me_imm (mn 8 .own)))))) mss_nil))))) rfl) (mss_one (ms_ret (mvn 5)))))))))
noncomputable def t__law_told : Tn -> R Fl := (sSeq (sSet 3 (eC .non)) (sSeq (sSet 4 (eL (fun ds => .ok (.tup ds)) (aCons (eC (.int 0)) (aCons (eC (.int 0)) aNil)))) (sSeq (sFor (iSeq (eVar 0)) (.one 5) (sSeq (sSet 6 (eL (fun ds => .ok (.tup ds)) (aCons (eL lenD (aCons (eVar 5) aNil)) (aCons (eL F__law_mark (aCons (eVar 5) aNil)) aNil)))) (sIf (bAnd (eTest (eBin gtT (eVar 6) (eVar 4))) (eTest (eL F__law_fits (aCons (eVar 5) (aCons (eVar 1) (aCons (eVar 2) aNil)))))) (sSeq (sSet 3 (eVar 5)) (sSet 4 (eImm (eVar 6)))) sSkip))) (sRet (eImm (eVar 3))))))
noncomputable def F__law_told : List D -> R D := runB 7 t__law_told
theorem sc__law_told : FnScope ["_law_book_here", "_law_word_here", "_law_place", "_law_found", "_law_best", "_law_joint_here", "_law_size"] ["_law_book_here", "_law_word_here", "_law_place"] (defScope (top 35)) := ⟨rfl, rfl, rfl, by decide +kernel, rfl, by decide +kernel, by decide +kernel⟩
theorem ok__law_told (Df : DefIn K mg "_law_told" (top 35) ["_law_book_here", "_law_word_here", "_law_place"]) (B : Bl mg) (G : Gl0 K mg) (Cl : Cls K mg) (O__law_mark : Own P w K mg base "_law_mark" 1 ["_law_joint_here"] (spM K F__law_mark 1)) (O__law_fits : Own P w K mg base "_law_fits" 2 ["_law_joint_here", "_law_word_here", "_law_place"] (spM K F__law_fits 3)) : Own P w K mg base "_law_told" 3 ["_law_book_here", "_law_word_here", "_law_place"] (spM K F__law_told 3) :=
  Df.mir (k := 2) (Γ' := [.shr, .shr, .shr, .dead, .dead, .dead, .dead]) sc__law_told (by decide) fun f cdv A outer s H E hr => (mss_cons (L2.st 3 sc__law_told.nd (mv_fresh me_non)) (mss_cons (L2.st 4 sc__law_told.nd (mv_fresh (me_tup (ma_cons me_int (ma_cons me_int ma_nil))))) (mss_cons (ms_pre (Γ1 := [.shr, .shr, .shr, .shr, .own, .dead, .dead]) (ms_for (Γ2 := [.shr, .shr, .shr, .shr, .own, .shr, .own]) PassesOwn.leaving rfl (mi_seq (mn 0 .shr)) (by decide) (mg_one (pgn 5 sc__law_told.nd)) (by decide) (mss_cons (L2.st 6 sc__law_told.nd (mv_fresh (me_tup (ma_cons (me_callB call_lenA B_len N_len (by exact rfl) B.len PySem.boot_len (ma_cons (mn 5 .shr) ma_nil)) (ma_cons (me_call (O__law_mark.mono (by decide)) hr (by exact rfl) passes_cxx (ma_cons (mn 5 .shr) ma_nil)) ma_nil))))) (mss_one (ms_if (MW.mt (mw_and (mt_cmp (op_gtT hr.units0) B_gtT N_gtT (mn 6 .own) (mn 4 .own) (nomark _)) (mw_and1 (mt_val (me_call (O__law_fits.mono (by decide)) hr (by exact rfl) passes_cxx (ma_cons (mn 5 .shr) (ma_cons (mn 1 .shr) (ma_cons (mn 2 .shr) ma_nil)))))))) (mss_cons (stS 3 sc__law_told.nd (mn 5 .shr)) (mss_one (L2.st 4 sc__law_told.nd (mv_fresh (me_imm (mn 6 .own)))))) mss_nil))) rfl) rfl) (mss_one (ms_ret (mv_fresh (me_imm (mn 3 .shr))))))))
noncomputable def t__law_tells : Tn -> R Fl := (sSeq (sSet 2 (eL list1D (aCons (eVar 0) aNil))) (sSeq (sFor (iL rng2 (aCons (eC (.int 1)) (aCons (eL lenD (aCons (eVar 1) aNil)) aNil))) (.one 3) (sIf (bOr (eTest (eBin (eqR true) (eL F_telling (aCons (eVar 2) (aCons (eVar 1) (aCons (eVar 3) aNil)))) (eL F__law_told (aCons (eVar 0) (aCons (eVar 1) (aCons (eVar 3) aNil)))))) (eTest (eBin (eqR true) (eVar 2) (eVar 0)))) (sRet (eC (.bl false))) sSkip)) (sSeq (sIf (eTest (eBin gtD (eL lenD (aCons (eVar 2) aNil)) (eC (.int 0)))) (sPop0 2) sSkip) (sSeq (sFor (iL rng2 (aCons (eC (.int 1)) (aCons (eL lenD (aCons (eVar 1) aNil)) aNil))) (.one 3) (sIf (eTest (eBin (eqR true) (eL F_telling (aCons (eVar 2) (aCons (eVar 1) (aCons (eVar 3) aNil)))) (eL F__law_told (aCons (eSl (eVar 0) (oSome (eC (.int 1))) oNone) (aCons (eVar 1) (aCons (eVar 3) aNil)))))) (sRet (eC (.bl false))) sSkip)) (sRet (eC (.bl true)))))))
noncomputable def F__law_tells : List D -> R D := runB 4 t__law_tells
theorem sc__law_tells : FnScope ["_law_book_here", "_law_word_here", "_law_handed", "_law_place"] ["_law_book_here", "_law_word_here"] (defScope (top 36)) := ⟨rfl, rfl, rfl, by decide +kernel, rfl, by decide +kernel, by decide +kernel⟩
theorem ok__law_tells (Df : DefIn K mg "_law_tells" (top 36) ["_law_book_here", "_law_word_here"]) (B : Bl mg) (G : Gl0 K mg) (Cl : Cls K mg) (O_telling : Own P w K mg base "telling" 3 ["book", "word", "place"] (spM K F_telling 3)) (O__law_told : Own P w K mg base "_law_told" 3 ["_law_book_here", "_law_word_here", "_law_place"] (spM K F__law_told 3)) : Own P w K mg base "_law_tells" 4 ["_law_book_here", "_law_word_here"] (spM K F__law_tells 2) :=
  Df.mir (k := 3) (Γ' := [.shr, .shr, .dead, .dead]) sc__law_tells (by decide) fun f cdv A outer s H E hr => (mss_cons (L2.st 2 sc__law_tells.nd (mv_fresh (me_callTy call_list_of B_list1 N_list1 (by exact rfl) B.list Boot.«list» (ma_cons (mn 0 .shr) ma_nil)))) (mss_cons (ms_for (Γ2 := [.shr, .shr, .own, .shr]) PassesOwn.leaving rfl (mi_range2 rfl B.range (ma_cons me_int (ma_cons (me_callB call_lenA B_len N_len (by exact rfl) B.len PySem.boot_len (ma_cons (mn 1 .shr) ma_nil)) ma_nil))) (by decide) (mg_one (pgn 3 sc__law_tells.nd)) (by decide) (mss_one (ms_if (MW.mt (mw_or (mt_cmp (op_neAll hr.u12) B_eq N_eq (me_call (O_telling.mono (by decide)) hr (by exact rfl) passes_cxx (ma_cons (mn 2 .own) (ma_cons (mn 1 .shr) (ma_cons (mn 3 .shr) ma_nil)))) (me_call (O__law_told.mono (by decide)) hr (by exact rfl) passes_cxx (ma_cons (mn 0 .shr) (ma_cons (mn 1 .shr) (ma_cons (mn 3 .shr) ma_nil)))) (nomark _)) (mw_or1 (mt_cmp (op_neAll hr.u12) B_eq N_eq (mn 2 .own) (mn 0 .shr) (nomark _))))) (mss_one (ms_ret (mv_fresh me_bl))) mss_nil)) rfl) (mss_cons (ms_if (mt_cmp op_gt B_gt N_int (me_callB call_lenA B_len N_len (by exact rfl) B.len PySem.boot_len (ma_cons (mn 2 .own) ma_nil)) me_int (nomark _)) (mss_one (pop0 2)) mss_nil) (mss_cons (ms_for (Γ2 := [.shr, .shr, .own, .shr]) PassesOwn.leaving rfl (mi_range2 rfl B.range (ma_cons me_int (ma_cons (me_callB call_lenA B_len N_len (by exact rfl) B.len PySem.boot_len (ma_cons (mn 1 .shr) ma_nil)) ma_nil))) (by decide) (mg_one (pgn 3 sc__law_tells.nd)) (by decide) (mss_one (ms_if (mt_cmp (op_neAll hr.u12) B_eq N_eq (me_call (O_telling.mono (by decide)) hr (by exact rfl) passes_cxx (ma_cons (mn 2 .own) (ma_cons (mn 1 .shr) (ma_cons (mn 3 .shr) ma_nil)))) (me_call (O__law_told.mono (by decide)) hr (by exact rfl) passes_cxx (ma_cons (me_sl (mn 0 .shr) (mo_some me_int) mo_none) (ma_cons (mn 1 .shr) (ma_cons (mn 3 .shr) ma_nil)))) (nomark _)) (mss_one (ms_ret (mv_fresh me_bl))) mss_nil)) rfl) (mss_one (ms_ret (mv_fresh me_bl)))))))
theorem nd__law_refused : (["_law_book_here", "_law_error"] : List Str).Nodup := by decide +kernel
theorem sc__law_is_another : FnScope ["_law_error"] ["_law_error"] (defScope (top 37)) := ⟨rfl, rfl, rfl, by decide +kernel, rfl, by decide +kernel, by decide +kernel⟩
noncomputable def g__law_refused : Str -> Option D := fun m => if m = "BadBook" then some (.bl true) else none
noncomputable def sts__law_refused : List Stmt := match defBody (top 38) with
  | .Try _ [.ExceptHandler _ _ b _] _ _ _ :: _ => b
  | _ => []
noncomputable abbrev cxR (P : Program) (w : World) (K : PySem.W.Frag) (mg : Str -> Option Value) (base : Heap) (f : Addr) (cdv : Value) (A : Around) (outer : List Env) (s : Shared) (H : Hp) (E : XK) : Cx := cxOf (cxx P w) P w K mg base ["_law_book_here", "_law_error"] "_law_refused" (defScope (top 38)) f cdv A outer s H E
theorem body__law_is_another (Cl : Cls K mg) (B : Bl mg) {e : Addr} {oe : Obj} {C : Addr} (hC : ErrC K "BadBook" C) (hcls : oe.cls = .ref C) (f : Addr) (cdv : Value) (A : Around) (outer : List Env) (s : Shared) (H : Hp) (Q : VK) (h : ∀ H', Same H H' -> Q (.bl false) H') :
    ∃ t, PSs ((cxOf (cxx P w) P w K mg base ["_law_error"] "_law_is_another" (defScope (top 37)) f cdv A outer s H (fun _ _ _ => False)).errd e oe) (defBody (top 37)) t /\ t { nx := fun _ H' => Q .non H', rt := Q } (start ["_law_error"] [.ref e]) H := by
  obtain ⟨CS, CT, c1, c2, c3, c4, c5, c6, c7, c8, c9, hS, eT, iT, mT, kV, xS, ⟨m1, k1⟩, ⟨m2, k2⟩, ⟨m3, k3⟩, ⟨m4, k4⟩, ⟨m5, k5⟩, ⟨m6, k6⟩, ⟨m7, k7⟩, ⟨m8, k8⟩, ⟨m9, k9⟩⟩ := Cl.ex
  have hCT : C = CT := by
    have h1 : PySem.W.nsIn K mainGlobals "BadBook" = some (some (.ref C)) := hC.ns
    rw [eT.ns] at h1
    cases h1
    rfl
  subst hCT
  refine ⟨_, pss_cons (ps_if (pt_val (pe_callB (x := "isinstance") call_isiT rfl B.isinstance Boot.«isinstance» (pa_cons (pv 0) (pa_cons (pe_tup (pa_cons (pe_glob (v := .ref c1) rfl m1 rfl) (pa_cons (pe_glob (v := .ref c2) rfl m2 rfl) (pa_cons (pe_glob (v := .ref c3) rfl m3 rfl) (pa_cons (pe_glob (v := .ref c4) rfl m4 rfl) (pa_cons (pe_glob (v := .ref c5) rfl m5 rfl) pa_nil)))))) pa_nil)))) (pss_one (ps_ret pe_bl)) pss_nil)
    (pss_one (ps_ret (pe_callB (x := "isinstance") call_isiT rfl B.isinstance Boot.«isinstance» (pa_cons (pv 0) (pa_cons (pe_tup (pa_cons (pe_glob (v := .ref c6) rfl m6 rfl) (pa_cons (pe_glob (v := .ref c7) rfl m7 rfl) (pa_cons (pe_glob (v := .ref c8) rfl m8 rfl) (pa_cons (pe_glob (v := .ref c9) rfl m9 rfl) pa_nil))))) pa_nil))))), ?_⟩
  have q1 : PySem.W.kitAny K (.ref C) [.ref c1, .ref c2, .ref c3, .ref c4, .ref c5] = some false := by simp only [PySem.W.kitAny, k1, k2, k3, k4, k5]
  have q2 : PySem.W.kitAny K (.ref C) [.ref c6, .ref c7, .ref c8, .ref c9] = some false := by simp only [PySem.W.kitAny, k6, k7, k8, k9]
  have mem : (e, oe) ∈ ((cxOf (cxx P w) P w K mg base ["_law_error"] "_law_is_another" (defScope (top 37)) f cdv A outer s H (fun _ _ _ => False)).errd e oe).pn := List.mem_singleton.mpr rfl
  refine ⟨_, rfl, by show 5 <= sizeLine; decide, fun p hp => ⟨e, oe, C, p, _, _, false, rfl, mem, hcls, iT, SqT.of upd_same, .cons (.ref _) (.cons (.ref _) (.cons (.ref _) (.cons (.ref _) (.cons (.ref _) .nil)))), q1, ?_⟩⟩
  refine ⟨_, rfl, iteF ⟨_, rfl, by show 4 <= sizeLine; decide, fun p2 hp2 => ⟨e, oe, C, p2, _, _, false, rfl, mem, hcls, iT, SqT.of upd_same, .cons (.ref _) (.cons (.ref _) (.cons (.ref _) (.cons (.ref _) .nil))), q2, ?_⟩⟩⟩
  exact h _ ((Same.new hp).trans (Same.new hp2))
theorem suiteF {X : Cx} {CS : Addr} {i : Nat} {sts : List Stmt} {g : Str -> Option D} (hx : ∀ (m : Str) (d : D), g m = some d -> ∀ C, ErrC X.K m C -> PySem.W.exmOne X.K (.ref C) (.ref CS) = some true)
    (h : ∀ (m : Str) (d : D), g m = some d -> ∀ C, ErrC X.K m C -> ∀ e oe (Z : Ends) (σ : L2.St) (H : Hp), σ.length = X.N.length -> oe.cls = .ref C -> H e = none -> σ[i]? = some (some (.ref e)) -> (∀ v H', Same H H' -> Rep X.K H' d v [] -> Z.rt v H') -> ∃ T, PSs (X.within e oe) sts T /\ T Z σ H) : Suite X CS i sts g := by
  intro m d hg C hC
  refine ⟨hx m d hg C hC, fun e oe Z σ H => ∃ T, PSs (X.within e oe) sts T /\ T Z σ H, fun e oe pins s σ H Z I z => ?_, fun e oe Z σ H h1 h2 h3 h4 h5 => h m d hg C hC e oe Z σ H h1 h2 h3 h4 h5⟩
  obtain ⟨T, hT, z⟩ := z
  exact hT pins s σ H Z I z
theorem suite__law_refused (Cl : Cls K mg) (B : Bl mg) (Dc : DefIn K mg "_law_is_another" (top 37) ["_law_error"]) (f : Addr) (cdv : Value) (A : Around) (outer : List Env) (s : Shared) (H : Hp) (E : XK) (hr : Room 4 (A.deeper (envOfC "_law_refused" (defScope (top 38)) s.heap.objs.size f cdv))) :
    ∃ CS, (cxR P w K mg base f cdv A outer s H E).mg "SetError" = some (.ref CS) /\ Suite (cxR P w K mg base f cdv A outer s H E) CS 1 sts__law_refused g__law_refused := by
  obtain ⟨CS, CT, c1, c2, c3, c4, c5, c6, c7, c8, c9, hS, eT, iT, mT, kV, xS, z⟩ := Cl.ex
  clear z
  refine ⟨CS, hS, ?_⟩
  have hm : ∀ (m : Str) (d : D), g__law_refused m = some d -> m = "BadBook" /\ d = .bl true := by
    intro m d hg
    unfold g__law_refused at hg
    split at hg
    · exact ⟨by assumption, (Option.some.inj hg).symm⟩
    · cases hg
  have hCT : ∀ C, ErrC K "BadBook" C -> C = CT := by
    intro C hC
    have h1 : PySem.W.nsIn K mainGlobals "BadBook" = some (some (.ref C)) := hC.ns
    rw [eT.ns] at h1
    cases h1
    rfl
  refine suiteF (fun m d hg C hC => ?_) fun m d hg C hC e oe Z σ H1 hl hcls hn h1 hz => ?_
  · obtain ⟨rfl, rfl⟩ := hm m d hg
    rw [hCT C hC]
    exact xS
  obtain ⟨rfl, rfl⟩ := hm m d hg
  have hCC := hCT C hC
  subst hCC
  have q3 : PySem.W.kitOne K (.ref C) (.ref C) = some true := by unfold PySem.W.kitOne; rw [if_pos (by simp)]
  have mem : (e, oe) ∈ ((cxR P w K mg base f cdv A outer s H E).within e oe).pn := List.mem_append_right _ (List.mem_singleton.mpr rfl)
  have hloc : ∀ b ∈ frs ((cxR P w K mg base f cdv A outer s H E).within e oe).stack, b = ((cxR P w K mg base f cdv A outer s H E).within e oe).env.locals \/ b ∈ ((cxR P w K mg base f cdv A outer s H E).within e oe).fs := by
    intro b hb
    have hb : b ∈ frs ((cxR P w K mg base f cdv A outer s H E).env :: outer) := hb
    unfold frs at hb
    rw [List.filterMap_cons] at hb
    rcases List.mem_cons.mp hb with q | q
    · exact .inl q
    · exact .inr q
  refine ⟨_, pss_one (ps_ret (pe_and (pe_isi rfl B.isinstance (pv 1) (pe_glob (v := .ref C) rfl mT rfl)) (pe_and (pe_isi rfl B.isinstance (pv 1) (pe_bltn (v := .ty "ValueError") rfl Cl.ve Boot.«ValueError» rfl)) (pe_one (pe_not (pe_errCall (X := (cxR P w K mg base f cdv A outer s H E).within e oe) (b := false) Dc sc__law_is_another rfl hr.depth mem hloc (fun f2 cd2 A2 o2 s2 H2 Q2 h2 => body__law_is_another Cl B hC hcls f2 cd2 A2 o2 s2 H2 Q2 h2) (pv 1))))))), ?_⟩
  refine ⟨_, h1, _, _, _, _, _, rfl, .exc mem hcls iT, .ref _, q3, true, rfl, iteT ⟨_, h1, _, _, _, _, _, rfl, .exc mem hcls iT, .ty _, kV, true, rfl, iteT ⟨_, h1, rfl, fun H2 hs2 => ⟨false, rfl, ?_⟩⟩⟩⟩
  exact hz _ _ hs2 ⟨rfl, rfl⟩
noncomputable def t__law_refused : Tn -> R Fl := (sSeq (sTryE F_need_book (aCons (eVar 0) aNil) g__law_refused) (sRet (eC (.bl false))))
noncomputable def F__law_refused : List D -> R D := runB 2 t__law_refused
theorem sc__law_refused : FnScope ["_law_book_here", "_law_error"] ["_law_book_here"] (defScope (top 38)) := ⟨rfl, rfl, rfl, by decide +kernel, rfl, by decide +kernel, by decide +kernel⟩
theorem ok__law_refused (Df : DefIn K mg "_law_refused" (top 38) ["_law_book_here"]) (B : Bl mg) (G : Gl0 K mg) (Cl : Cls K mg) (O_need_book : Own P w K mg base "need_book" 4 ["book"] (spM K F_need_book 1)) (Dc__law_is_another : DefIn K mg "_law_is_another" (top 37) ["_law_error"]) : Own P w K mg base "_law_refused" 5 ["_law_book_here"] (spM K F__law_refused 1) :=
  Df.mir (k := 4) (Γ' := [.shr, .dead]) sc__law_refused (by decide) fun f cdv A outer s H E hr => (mss_cons (ms_tryEC (O_need_book.mono (by decide)) sc__law_refused.nd hr rfl (ma_cons (mn 0 .shr) ma_nil) rfl rfl rfl (show 1 < 2 by decide) rfl (suite__law_refused Cl B Dc__law_is_another f cdv A outer s H E hr)) (mss_one (ms_ret (mv_fresh me_bl))))
noncomputable def t__law_many : Tn -> R Fl := (sSeq (sSet 1 (eC (.str "abcdefghijklmnopqrstuvwxyz"))) (sRet (eComp [none, some 1] (iL rng1 (aCons (eVar 0) aNil)) (.one 0) (fun _ => .ok true) (eBin addD (eBin addD (eBin addD (eC (.str "q")) (eBin ixD (eVar 1) (eBin fdivD (eVar 0) (eC (.int 26))))) (eBin ixD (eC (.str "-==")) (eBin modD (eVar 0) (eC (.int 3))))) (eBin ixD (eVar 1) (eBin modD (eVar 0) (eC (.int 26))))))))
noncomputable def F__law_many : List D -> R D := runB 2 t__law_many
theorem sc__law_many : FnScope ["_law_size", "_law_some"] ["_law_size"] (defScope (top 39)) := ⟨rfl, rfl, rfl, by decide +kernel, rfl, by decide +kernel, by decide +kernel⟩
theorem ok__law_many (Df : DefIn K mg "_law_many" (top 39) ["_law_size"]) (B : Bl mg) (G : Gl0 K mg) (Cl : Cls K mg)  : Own P w K mg base "_law_many" 1 ["_law_size"] (spM K F__law_many 1) :=
  Df.mir (k := 0) (Γ' := [.shr, .dead]) sc__law_many (by decide) fun f cdv A outer s H E hr => (mss_cons (L2.st 1 sc__law_many.nd (mv_fresh me_str)) (mss_one (ms_ret (mv_fresh (me_comp (N' := ["_law_k", "_law_some"]) (fr := [none, some 1]) rfl (cs_def sc__law_many.nofree (by decide +kernel)) (mi_range1 rfl B.range (ma_cons (mn 0 .shr) ma_nil)) (fun _ _ _ _ => (mg_one (pgn 0 (show List.Nodup (["_law_k", "_law_some"] : List Str) from by decide +kernel)))) (fun _ _ _ _ => mts_nil) (fun _ _ _ _ => (me_op op_addA B_add N_add (me_op op_addA B_add N_add (me_op op_addA B_add N_add me_str (me_ix hr.u1 (mn 1 .brw) (me_op op_fdiv B_fdiv N_int (mn 0 .shr) me_int))) (me_ix hr.u1 me_str (me_op op_mod B_mod N_int (mn 0 .shr) me_int))) (me_ix hr.u1 (mn 1 .brw) (me_op op_mod B_mod N_int (mn 0 .shr) me_int)))) (by decide) (by decide))))))
noncomputable def t__law_spoilt : Tn -> R Fl := (sSeq (sSet 2 (eBin modD (eVar 1) (eC (.int 8)))) (sSeq (sIf (eTest (eBin (eqR false) (eVar 2) (eC (.int 0)))) (sRet (eBin ixD (eL (fun ds => .ok (.lst ds)) (aCons (eL tuple1D (aCons (eVar 0) aNil)) (aCons (eC .non) (aCons (eC (.str "a-b")) (aCons (eC (.int 5)) (aCons (eC (.dic [] [])) aNil)))))) (eBin modD (eBin fdivD (eVar 1) (eC (.int 8))) (eC (.int 5))))) sSkip) (sSeq (sIf (eTest (eBin (eqR false) (eVar 2) (eC (.int 1)))) (sRet (eL F__law_many (aCons (eC (.int 101)) aNil))) sSkip) (sSeq (sSet 3 (eBin modD (eBin fdivD (eVar 1) (eC (.int 8))) (eBin addD (eL lenD (aCons (eVar 0) aNil)) (eC (.int 1))))) (sSeq (sSet 4 (eL (fun ds => .ok (.lst ds)) (aCons (eC (.str "")) (aCons (eC (.str "a")) (aCons (eC (.str "ab")) (aCons (eC (.str "-ab")) (aCons (eC (.str "ab-")) (aCons (eC (.str "a-b-c")) (aCons (eC (.str "a-b=c")) (aCons (eC (.str "Ab-c")) (aCons (eC (.str "ab-C")) (aCons (eC (.str "a1-b")) (aCons (eC (.str "a -b")) (aCons (eC (.str "abcdefgh-i")) (aCons (eC (.str "a-bcdefghi")) aNil))))))))))))))) (sSeq (sSet 4 (eBin catD (eVar 4) (eL (fun ds => .ok (.lst ds)) (aCons (eC .non) (aCons (eC (.int 5)) (aCons (eC (.bl true)) (aCons (eL (fun ds => .ok (.lst ds)) (aCons (eC (.str "a-b")) aNil)) (aCons (eL (fun ds => .ok (.tup ds)) (aCons (eC (.str "a")) (aCons (eC (.str "-")) (aCons (eC (.str "b")) aNil)))) (aCons (eC (.str "a-b\n")) (aCons (eC (.str "=")) aNil)))))))))) (sSeq (sSet 5 (eBin ixL (eVar 4) (eBin modD (eBin fdivD (eVar 1) (eC (.int 500))) (eC (.int 20))))) (sSeq (sIf (bAnd (eTest (eBin gtD (eVar 2) (eC (.int 5)))) (eTest (eBin gtD (eL lenD (aCons (eVar 0) aNil)) (eC (.int 0))))) (sSeq (sSet 6 (eBin ixD (eVar 0) (eBin modD (eBin fdivD (eVar 1) (eC (.int 9))) (eL lenD (aCons (eVar 0) aNil))))) (sSeq (sSet 7 (eL F__law_mark (aCons (eVar 6) aNil))) (sSet 5 (eBin addD (eBin addD (eSl (eVar 6) oNone (oSome (eVar 7))) (eBin ixD (eC (.str "-=")) (eBin modD (eBin fdivD (eVar 1) (eC (.int 8))) (eC (.int 2))))) (eSl (eVar 6) (oSome (eBin addD (eVar 7) (eC (.int 1)))) oNone))))) sSkip) (sRet (eBin catD (eBin catD (eSl (eVar 0) oNone (oSome (eVar 3))) (eL (fun ds => .ok (.lst ds)) (aCons (eVar 5) aNil))) (eSl (eVar 0) (oSome (eVar 3)) oNone)))))))))))
noncomputable def F__law_spoilt : List D -> R D := runB 8 t__law_spoilt
theorem sc__law_spoilt : FnScope ["_law_book_here", "_law_number_here", "_law_way", "_law_at", "_law_odd", "_law_bad", "_law_joint_here", "_law_place"] ["_law_book_here", "_law_number_here"] (defScope (top 40)) := ⟨rfl, rfl, rfl, by decide +kernel, rfl, by decide +kernel, by decide +kernel⟩
theorem ok__law_spoilt (Df : DefIn K mg "_law_spoilt" (top 40) ["_law_book_here", "_law_number_here"]) (B : Bl mg) (G : Gl0 K mg) (Cl : Cls K mg) (O__law_many : Own P w K mg base "_law_many" 1 ["_law_size"] (spM K F__law_many 1)) (O__law_mark : Own P w K mg base "_law_mark" 1 ["_law_joint_here"] (spM K F__law_mark 1)) : Own P w K mg base "_law_spoilt" 2 ["_law_book_here", "_law_number_here"] (spM K F__law_spoilt 2) :=
  Df.mir (k := 1) (Γ' := [.shr, .shr, .dead, .dead, .dead, .dead, .dead, .dead]) sc__law_spoilt (by decide) fun f cdv A outer s H E hr => (mss_cons (L2.st 2 sc__law_spoilt.nd (mv_fresh (me_op op_mod B_mod N_int (mn 1 .shr) me_int))) (mss_cons (ms_if (mt_cmp (op_eqAll hr.u12) B_eq N_eq (mn 2 .own) me_int (nomark _)) (mss_one (ms_ret (mv_fresh (me_ix hr.u1 (me_lst (ma_cons (me_callTy call_tuple_of B_tuple1 N_tuple1 (by exact rfl) B.tuple Boot.«tuple» (ma_cons (mn 0 .shr) ma_nil)) (ma_cons me_non (ma_cons me_str (ma_cons me_int (ma_cons me_disp0 ma_nil)))))) (me_op op_mod B_mod N_int (me_op op_fdiv B_fdiv N_int (mn 1 .shr) me_int) me_int))))) mss_nil) (mss_cons (ms_if (mt_cmp (op_eqAll hr.u12) B_eq N_eq (mn 2 .own) me_int (nomark _)) (mss_one (ms_ret (mv_fresh (me_call (O__law_many.mono (by decide)) hr (by exact rfl) passes_cxx (ma_cons me_int ma_nil))))) mss_nil) (mss_cons (L2.st 3 sc__law_spoilt.nd (mv_fresh (me_op op_mod B_mod N_int (me_op op_fdiv B_fdiv N_int (mn 1 .shr) me_int) (me_op op_addA B_add N_add (me_callB call_lenA B_len N_len (by exact rfl) B.len PySem.boot_len (ma_cons (mn 0 .shr) ma_nil)) me_int)))) (mss_cons (L2.st 4 sc__law_spoilt.nd (mv_fresh (me_lst (ma_cons me_str (ma_cons me_str (ma_cons me_str (ma_cons me_str (ma_cons me_str (ma_cons me_str (ma_cons me_str (ma_cons me_str (ma_cons me_str (ma_cons me_str (ma_cons me_str (ma_cons me_str (ma_cons me_str ma_nil)))))))))))))))) (mss_cons (L2.st 4 sc__law_spoilt.nd (mv_cat (mvn 4) (mv_fresh (me_lst (ma_cons me_non (ma_cons me_int (ma_cons me_bl (ma_cons (me_lst (ma_cons me_str ma_nil)) (ma_cons (me_tup (ma_cons me_str (ma_cons me_str (ma_cons me_str ma_nil)))) (ma_cons me_str (ma_cons me_str ma_nil))))))))))) (mss_cons (L2.st 5 sc__law_spoilt.nd (mv_ixN 4 (me_op op_mod B_mod N_int (me_op op_fdiv B_fdiv N_int (mn 1 .shr) me_int) me_int) (fun _ _ => rfl))) (mss_cons (ms_if (MW.mt (mw_and (mt_cmp op_gt B_gt N_int (mn 2 .own) me_int (nomark _)) (mw_and1 (mt_cmp op_gt B_gt N_int (me_callB call_lenA B_len N_len (by exact rfl) B.len PySem.boot_len (ma_cons (mn 0 .shr) ma_nil)) me_int (nomark _))))) (mss_weak (Γ' := [.shr, .shr, .own, .own, .dead, .own, .dead, .dead]) (mss_cons (stS 6 sc__law_spoilt.nd (me_ix hr.u1 (mn 0 .shr) (me_op op_mod B_mod N_int (me_op op_fdiv B_fdiv N_int (mn 1 .shr) me_int) (me_callB call_lenA B_len N_len (by exact rfl) B.len PySem.boot_len (ma_cons (mn 0 .shr) ma_nil))))) (mss_cons (L2.st 7 sc__law_spoilt.nd (mv_fresh (me_call (O__law_mark.mono (by decide)) hr (by exact rfl) passes_cxx (ma_cons (mn 6 .shr) ma_nil)))) (mss_one (L2.st 5 sc__law_spoilt.nd (mv_fresh (me_op op_addA B_add N_add (me_op op_addA B_add N_add (me_sl (mn 6 .shr) mo_none (mo_some (mn 7 .own))) (me_ix hr.u1 me_str (me_op op_mod B_mod N_int (me_op op_fdiv B_fdiv N_int (mn 1 .shr) me_int) me_int))) (me_sl (mn 6 .shr) (mo_some (me_op op_addA B_add N_add (mn 7 .own) me_int)) mo_none))))))) rfl) mss_nil) (mss_one (ms_ret (mv_cat (mv_cat (mv_fresh (me_sl (mn 0 .shr) mo_none (mo_some (mn 3 .own)))) (mv_lst (mvs_cons (mvn 5) mvs_nil))) (mv_fresh (me_sl (mn 0 .shr) (mo_some (mn 3 .own)) mo_none)))))))))))))
noncomputable def t_law : Tn -> R Fl := (sSeq (sSet 1 (eL F__law_word (aCons (eVar 0) (aCons (eC (.int 0)) aNil)))) (sSeq (sSet 2 (eL F__law_book (aCons (eVar 0) (aCons (eC (.int 9)) (aCons (eVar 1) aNil))))) (sSeq (sSet 3 (eL list1D (aCons (eVar 2) aNil))) (sSeq (sIf (bOr (eTest (eBin (isB true) (eL F_need_book (aCons (eVar 3) aNil)) (eC (.bl true)))) (bOr (eTest (eBin (eqR true) (eVar 3) (eVar 2))) (bNot (eTest (eL F__law_tells (aCons (eVar 2) (aCons (eVar 1) aNil))))))) (sRet (eC (.bl false))) sSkip) (sSeq (sIf (bNot (eTest (eL F__law_refused (aCons (eL F__law_spoilt (aCons (eVar 2) (aCons (eL F__law_number (aCons (eVar 0) (aCons (eC (.int 17)) aNil))) aNil))) aNil)))) (sRet (eC (.bl false))) sSkip) (sRet (eAnd (eBin (isB false) (eL F_need_book (aCons (eL F__law_many (aCons (eC (.int 100)) aNil)) aNil)) (eC (.bl true))) (eBin (isB false) (eL F_need_book (aCons (eL (fun ds => .ok (.lst ds)) (aCons (eC (.str "abcdefg-h")) (aCons (eC (.str "a=bcdefgh")) (aCons (eC (.str "a-b")) aNil)))) aNil)) (eC (.bl true))))))))))
noncomputable def F_law : List D -> R D := runB 4 t_law
theorem sc_law : FnScope ["_law_script", "_law_word_here", "_law_book_here", "_law_handed"] ["_law_script"] (defScope (top 41)) := ⟨rfl, rfl, rfl, by decide +kernel, rfl, by decide +kernel, by decide +kernel⟩
theorem body_law (B : Bl mg) (G : Gl0 K mg) (Cl : Cls K mg) (O__law_word : Own P w K mg base "_law_word" 2 ["_law_script", "_law_k"] (spM K F__law_word 2)) (O__law_book : Own P w K mg base "_law_book" 4 ["_law_script", "_law_k", "_law_word_here"] (spM K F__law_book 3)) (O__law_refused : Own P w K mg base "_law_refused" 5 ["_law_book_here"] (spM K F__law_refused 1)) (O_need_book : Own P w K mg base "need_book" 4 ["book"] (spM K F_need_book 1)) (O__law_tells : Own P w K mg base "_law_tells" 4 ["_law_book_here", "_law_word_here"] (spM K F__law_tells 2)) (O__law_spoilt : Own P w K mg base "_law_spoilt" 2 ["_law_book_here", "_law_number_here"] (spM K F__law_spoilt 2)) (O__law_number : Own P w K mg base "_law_number" 1 ["_law_script", "_law_k"] (spM K F__law_number 2)) (O__law_many : Own P w K mg base "_law_many" 1 ["_law_size"] (spM K F__law_many 1)) : ∀ (f : Addr) (cdv : Value) (A : Around) (outer : List Env) (s : Shared) (H : Hp) (E : XK), Room 5 (A.deeper (envOfC "law" (defScope (top 41)) s.heap.objs.size f cdv)) -> MSs (cxOf (cxx P w) P w K mg base ["_law_script", "_law_word_here", "_law_book_here", "_law_handed"] "law" (defScope (top 41)) f cdv A outer s H E) E [] (prmC 4 1) (defBody (top 41)) t_law [.shr, .dead, .dead, .dead] :=
  fun f cdv A outer s H E hr => (mss_cons (L2.st 1 sc_law.nd (mv_fresh (me_call (O__law_word.mono (by decide)) hr (by exact rfl) passes_cxx (ma_cons (mn 0 .shr) (ma_cons me_int ma_nil))))) (mss_cons (L2.st 2 sc_law.nd (mv_fresh (me_call (O__law_book.mono (by decide)) hr (by exact rfl) passes_cxx (ma_cons (mn 0 .shr) (ma_cons me_int (ma_cons (mn 1 .own) ma_nil)))))) (mss_cons (L2.st 3 sc_law.nd (mv_fresh (me_callTy call_list_of B_list1 N_list1 (by exact rfl) B.list Boot.«list» (ma_cons (mn 2 .own) ma_nil)))) (mss_cons (ms_if (MW.mt (mw_or (mt_cmp op_notB B_notB N_isB (me_call (O_need_book.mono (by decide)) hr (by exact rfl) passes_cxx (ma_cons (mn 3 .own) ma_nil)) me_bl (nomark _)) (mw_or (mt_cmp (op_neAll hr.u12) B_eq N_eq (mn 3 .own) (mn 2 .own) (nomark _)) (mw_or1 (mt_not (mt_val (me_call (O__law_tells.mono (by decide)) hr (by exact rfl) passes_cxx (ma_cons (mn 2 .own) (ma_cons (mn 1 .own) ma_nil))))))))) (mss_one (ms_ret (mv_fresh me_bl))) mss_nil) (mss_cons (ms_if (mt_not (mt_val (me_call (O__law_refused.mono (by decide)) hr (by exact rfl) passes_cxx (ma_cons (me_call (O__law_spoilt.mono (by decide)) hr (by exact rfl) passes_cxx (ma_cons (mn 2 .own) (ma_cons (me_call (O__law_number.mono (by decide)) hr (by exact rfl) passes_cxx (ma_cons (mn 0 .shr) (ma_cons me_int ma_nil))) ma_nil))) ma_nil)))) (mss_one (ms_ret (mv_fresh me_bl))) mss_nil) (mss_one (ms_ret (mv_fresh (me_and (me_cmp op_isB B_isB N_isB (me_call (O_need_book.mono (by decide)) hr (by exact rfl) passes_cxx (ma_cons (me_call (O__law_many.mono (by decide)) hr (by exact rfl) passes_cxx (ma_cons me_int ma_nil)) ma_nil)) me_bl (nomark _)) (me_one (me_cmp op_isB B_isB N_isB (me_call (O_need_book.mono (by decide)) hr (by exact rfl) passes_cxx (ma_cons (me_lst (ma_cons me_str (ma_cons me_str (ma_cons me_str ma_nil)))) ma_nil)) me_bl (nomark _))))))))))))
theorem all_mk {h : Heap} {fa : Addr} (X : K.In h) (G : h.Ns mainGlobals mg) (hfa : mg "law" = some (.ref fa))
    {f_mark_at : Addr} {od_mark_at an_mark_at : Option Addr} {sl_mark_at : Array (Option Value)} {oc_mark_at kV_mark_at dc_mark_at pm_mark_at cd_mark_at ct_mark_at : Value}
    {f_letters_of : Addr} {od_letters_of an_letters_of : Option Addr} {sl_letters_of : Array (Option Value)} {oc_letters_of kV_letters_of dc_letters_of pm_letters_of cd_letters_of ct_letters_of : Value}
    {f_is_joint : Addr} {od_is_joint an_is_joint : Option Addr} {sl_is_joint : Array (Option Value)} {oc_is_joint kV_is_joint dc_is_joint pm_is_joint cd_is_joint ct_is_joint : Value}
    {f_is_book : Addr} {od_is_book an_is_book : Option Addr} {sl_is_book : Array (Option Value)} {oc_is_book kV_is_book dc_is_book pm_is_book cd_is_book ct_is_book : Value}
    {f_need_book : Addr} {od_need_book an_need_book : Option Addr} {sl_need_book : Array (Option Value)} {oc_need_book kV_need_book dc_need_book pm_need_book cd_need_book ct_need_book : Value}
    {f_fits : Addr} {od_fits an_fits : Option Addr} {sl_fits : Array (Option Value)} {oc_fits kV_fits dc_fits pm_fits cd_fits ct_fits : Value}
    {f_rank : Addr} {od_rank an_rank : Option Addr} {sl_rank : Array (Option Value)} {oc_rank kV_rank dc_rank pm_rank cd_rank ct_rank : Value}
    {f_telling : Addr} {od_telling an_telling : Option Addr} {sl_telling : Array (Option Value)} {oc_telling kV_telling dc_telling pm_telling cd_telling ct_telling : Value}
    {f__law_number : Addr} {od__law_number an__law_number : Option Addr} {sl__law_number : Array (Option Value)} {oc__law_number kV__law_number dc__law_number pm__law_number cd__law_number ct__law_number : Value}
    {f__law_sign : Addr} {od__law_sign an__law_sign : Option Addr} {sl__law_sign : Array (Option Value)} {oc__law_sign kV__law_sign dc__law_sign pm__law_sign cd__law_sign ct__law_sign : Value}
    {f__law_word : Addr} {od__law_word an__law_word : Option Addr} {sl__law_word : Array (Option Value)} {oc__law_word kV__law_word dc__law_word pm__law_word cd__law_word ct__law_word : Value}
    {f__law_small : Addr} {od__law_small an__law_small : Option Addr} {sl__law_small : Array (Option Value)} {oc__law_small kV__law_small dc__law_small pm__law_small cd__law_small ct__law_small : Value}
    {f__law_letter_by : Addr} {od__law_letter_by an__law_letter_by : Option Addr} {sl__law_letter_by : Array (Option Value)} {oc__law_letter_by kV__law_letter_by dc__law_letter_by pm__law_letter_by cd__law_letter_by ct__law_letter_by : Value}
    {f__law_joint : Addr} {od__law_joint an__law_joint : Option Addr} {sl__law_joint : Array (Option Value)} {oc__law_joint kV__law_joint dc__law_joint pm__law_joint cd__law_joint ct__law_joint : Value}
    {f__law_mark : Addr} {od__law_mark an__law_mark : Option Addr} {sl__law_mark : Array (Option Value)} {oc__law_mark kV__law_mark dc__law_mark pm__law_mark cd__law_mark ct__law_mark : Value}
    {f__law_fits : Addr} {od__law_fits an__law_fits : Option Addr} {sl__law_fits : Array (Option Value)} {oc__law_fits kV__law_fits dc__law_fits pm__law_fits cd__law_fits ct__law_fits : Value}
    {f__law_book : Addr} {od__law_book an__law_book : Option Addr} {sl__law_book : Array (Option Value)} {oc__law_book kV__law_book dc__law_book pm__law_book cd__law_book ct__law_book : Value}
    {f__law_told : Addr} {od__law_told an__law_told : Option Addr} {sl__law_told : Array (Option Value)} {oc__law_told kV__law_told dc__law_told pm__law_told cd__law_told ct__law_told : Value}
    {f__law_tells : Addr} {od__law_tells an__law_tells : Option Addr} {sl__law_tells : Array (Option Value)} {oc__law_tells kV__law_tells dc__law_tells pm__law_tells cd__law_tells ct__law_tells : Value}
    {f__law_is_another : Addr} {od__law_is_another an__law_is_another : Option Addr} {sl__law_is_another : Array (Option Value)} {oc__law_is_another kV__law_is_another dc__law_is_another pm__law_is_another cd__law_is_another ct__law_is_another : Value}
    {f__law_refused : Addr} {od__law_refused an__law_refused : Option Addr} {sl__law_refused : Array (Option Value)} {oc__law_refused kV__law_refused dc__law_refused pm__law_refused cd__law_refused ct__law_refused : Value}
    {f__law_many : Addr} {od__law_many an__law_many : Option Addr} {sl__law_many : Array (Option Value)} {oc__law_many kV__law_many dc__law_many pm__law_many cd__law_many ct__law_many : Value}
    {f__law_spoilt : Addr} {od__law_spoilt an__law_spoilt : Option Addr} {sl__law_spoilt : Array (Option Value)} {oc__law_spoilt kV__law_spoilt dc__law_spoilt pm__law_spoilt cd__law_spoilt ct__law_spoilt : Value}
    {f_law : Addr} {od_law an_law : Option Addr} {sl_law : Array (Option Value)} {oc_law kV_law dc_law pm_law cd_law ct_law : Value}
    {tk_SMALL : Tok}
    {tk_LEAST_LETTERS : Tok}
    {tk_MOST_LETTERS : Tok}
    {tk_MOST_JOINTS : Tok}
    {CS CT c1 c2 c3 c4 c5 c6 c7 c8 c9 : Addr}
    (a_mark_at : PySem.W.nsIn K mainGlobals "mark_at" = some (some (.ref f_mark_at))) (l_mark_at : K.lookup f_mark_at = some ⟨oc_mark_at, od_mark_at, .func (PySem.W.fnOf "mark_at" "mark_at" (defArgs (top 17)) (defBody (top 17)) (defScope (top 17)) .none kV_mark_at dc_mark_at pm_mark_at an_mark_at cd_mark_at ct_mark_at), sl_mark_at⟩) (c_mark_at : PySem.W.codeIn K cd_mark_at "mark_at" = true) (k_mark_at : PySem.W.keepIn K (.ref f_mark_at) = true)
    (a_letters_of : PySem.W.nsIn K mainGlobals "letters_of" = some (some (.ref f_letters_of))) (l_letters_of : K.lookup f_letters_of = some ⟨oc_letters_of, od_letters_of, .func (PySem.W.fnOf "letters_of" "letters_of" (defArgs (top 18)) (defBody (top 18)) (defScope (top 18)) .none kV_letters_of dc_letters_of pm_letters_of an_letters_of cd_letters_of ct_letters_of), sl_letters_of⟩) (c_letters_of : PySem.W.codeIn K cd_letters_of "letters_of" = true) (k_letters_of : PySem.W.keepIn K (.ref f_letters_of) = true)
    (a_is_joint : PySem.W.nsIn K mainGlobals "is_joint" = some (some (.ref f_is_joint))) (l_is_joint : K.lookup f_is_joint = some ⟨oc_is_joint, od_is_joint, .func (PySem.W.fnOf "is_joint" "is_joint" (defArgs (top 19)) (defBody (top 19)) (defScope (top 19)) .none kV_is_joint dc_is_joint pm_is_joint an_is_joint cd_is_joint ct_is_joint), sl_is_joint⟩) (c_is_joint : PySem.W.codeIn K cd_is_joint "is_joint" = true) (k_is_joint : PySem.W.keepIn K (.ref f_is_joint) = true)
    (a_is_book : PySem.W.nsIn K mainGlobals "is_book" = some (some (.ref f_is_book))) (l_is_book : K.lookup f_is_book = some ⟨oc_is_book, od_is_book, .func (PySem.W.fnOf "is_book" "is_book" (defArgs (top 20)) (defBody (top 20)) (defScope (top 20)) .none kV_is_book dc_is_book pm_is_book an_is_book cd_is_book ct_is_book), sl_is_book⟩) (c_is_book : PySem.W.codeIn K cd_is_book "is_book" = true) (k_is_book : PySem.W.keepIn K (.ref f_is_book) = true)
    (a_need_book : PySem.W.nsIn K mainGlobals "need_book" = some (some (.ref f_need_book))) (l_need_book : K.lookup f_need_book = some ⟨oc_need_book, od_need_book, .func (PySem.W.fnOf "need_book" "need_book" (defArgs (top 21)) (defBody (top 21)) (defScope (top 21)) .none kV_need_book dc_need_book pm_need_book an_need_book cd_need_book ct_need_book), sl_need_book⟩) (c_need_book : PySem.W.codeIn K cd_need_book "need_book" = true) (k_need_book : PySem.W.keepIn K (.ref f_need_book) = true)
    (a_fits : PySem.W.nsIn K mainGlobals "fits" = some (some (.ref f_fits))) (l_fits : K.lookup f_fits = some ⟨oc_fits, od_fits, .func (PySem.W.fnOf "fits" "fits" (defArgs (top 22)) (defBody (top 22)) (defScope (top 22)) .none kV_fits dc_fits pm_fits an_fits cd_fits ct_fits), sl_fits⟩) (c_fits : PySem.W.codeIn K cd_fits "fits" = true) (k_fits : PySem.W.keepIn K (.ref f_fits) = true)
    (a_rank : PySem.W.nsIn K mainGlobals "rank" = some (some (.ref f_rank))) (l_rank : K.lookup f_rank = some ⟨oc_rank, od_rank, .func (PySem.W.fnOf "rank" "rank" (defArgs (top 23)) (defBody (top 23)) (defScope (top 23)) .none kV_rank dc_rank pm_rank an_rank cd_rank ct_rank), sl_rank⟩) (c_rank : PySem.W.codeIn K cd_rank "rank" = true) (k_rank : PySem.W.keepIn K (.ref f_rank) = true)
    (a_telling : PySem.W.nsIn K mainGlobals "telling" = some (some (.ref f_telling))) (l_telling : K.lookup f_telling = some ⟨oc_telling, od_telling, .func (PySem.W.fnOf "telling" "telling" (defArgs (top 24)) (defBody (top 24)) (defScope (top 24)) .none kV_telling dc_telling pm_telling an_telling cd_telling ct_telling), sl_telling⟩) (c_telling : PySem.W.codeIn K cd_telling "telling" = true) (k_telling : PySem.W.keepIn K (.ref f_telling) = true)
    (a__law_number : PySem.W.nsIn K mainGlobals "_law_number" = some (some (.ref f__law_number))) (l__law_number : K.lookup f__law_number = some ⟨oc__law_number, od__law_number, .func (PySem.W.fnOf "_law_number" "_law_number" (defArgs (top 26)) (defBody (top 26)) (defScope (top 26)) .none kV__law_number dc__law_number pm__law_number an__law_number cd__law_number ct__law_number), sl__law_number⟩) (c__law_number : PySem.W.codeIn K cd__law_number "_law_number" = true) (k__law_number : PySem.W.keepIn K (.ref f__law_number) = true)
    (a__law_sign : PySem.W.nsIn K mainGlobals "_law_sign" = some (some (.ref f__law_sign))) (l__law_sign : K.lookup f__law_sign = some ⟨oc__law_sign, od__law_sign, .func (PySem.W.fnOf "_law_sign" "_law_sign" (defArgs (top 27)) (defBody (top 27)) (defScope (top 27)) .none kV__law_sign dc__law_sign pm__law_sign an__law_sign cd__law_sign ct__law_sign), sl__law_sign⟩) (c__law_sign : PySem.W.codeIn K cd__law_sign "_law_sign" = true) (k__law_sign : PySem.W.keepIn K (.ref f__law_sign) = true)
    (a__law_word : PySem.W.nsIn K mainGlobals "_law_word" = some (some (.ref f__law_word))) (l__law_word : K.lookup f__law_word = some ⟨oc__law_word, od__law_word, .func (PySem.W.fnOf "_law_word" "_law_word" (defArgs (top 28)) (defBody (top 28)) (defScope (top 28)) .none kV__law_word dc__law_word pm__law_word an__law_word cd__law_word ct__law_word), sl__law_word⟩) (c__law_word : PySem.W.codeIn K cd__law_word "_law_word" = true) (k__law_word : PySem.W.keepIn K (.ref f__law_word) = true)
    (a__law_small : PySem.W.nsIn K mainGlobals "_law_small" = some (some (.ref f__law_small))) (l__law_small : K.lookup f__law_small = some ⟨oc__law_small, od__law_small, .func (PySem.W.fnOf "_law_small" "_law_small" (defArgs (top 29)) (defBody (top 29)) (defScope (top 29)) .none kV__law_small dc__law_small pm__law_small an__law_small cd__law_small ct__law_small), sl__law_small⟩) (c__law_small : PySem.W.codeIn K cd__law_small "_law_small" = true) (k__law_small : PySem.W.keepIn K (.ref f__law_small) = true)
    (a__law_letter_by : PySem.W.nsIn K mainGlobals "_law_letter_by" = some (some (.ref f__law_letter_by))) (l__law_letter_by : K.lookup f__law_letter_by = some ⟨oc__law_letter_by, od__law_letter_by, .func (PySem.W.fnOf "_law_letter_by" "_law_letter_by" (defArgs (top 30)) (defBody (top 30)) (defScope (top 30)) .none kV__law_letter_by dc__law_letter_by pm__law_letter_by an__law_letter_by cd__law_letter_by ct__law_letter_by), sl__law_letter_by⟩) (c__law_letter_by : PySem.W.codeIn K cd__law_letter_by "_law_letter_by" = true) (k__law_letter_by : PySem.W.keepIn K (.ref f__law_letter_by) = true)
    (a__law_joint : PySem.W.nsIn K mainGlobals "_law_joint" = some (some (.ref f__law_joint))) (l__law_joint : K.lookup f__law_joint = some ⟨oc__law_joint, od__law_joint, .func (PySem.W.fnOf "_law_joint" "_law_joint" (defArgs (top 31)) (defBody (top 31)) (defScope (top 31)) .none kV__law_joint dc__law_joint pm__law_joint an__law_joint cd__law_joint ct__law_joint), sl__law_joint⟩) (c__law_joint : PySem.W.codeIn K cd__law_joint "_law_joint" = true) (k__law_joint : PySem.W.keepIn K (.ref f__law_joint) = true)
    (a__law_mark : PySem.W.nsIn K mainGlobals "_law_mark" = some (some (.ref f__law_mark))) (l__law_mark : K.lookup f__law_mark = some ⟨oc__law_mark, od__law_mark, .func (PySem.W.fnOf "_law_mark" "_law_mark" (defArgs (top 32)) (defBody (top 32)) (defScope (top 32)) .none kV__law_mark dc__law_mark pm__law_mark an__law_mark cd__law_mark ct__law_mark), sl__law_mark⟩) (c__law_mark : PySem.W.codeIn K cd__law_mark "_law_mark" = true) (k__law_mark : PySem.W.keepIn K (.ref f__law_mark) = true)
    (a__law_fits : PySem.W.nsIn K mainGlobals "_law_fits" = some (some (.ref f__law_fits))) (l__law_fits : K.lookup f__law_fits = some ⟨oc__law_fits, od__law_fits, .func (PySem.W.fnOf "_law_fits" "_law_fits" (defArgs (top 33)) (defBody (top 33)) (defScope (top 33)) .none kV__law_fits dc__law_fits pm__law_fits an__law_fits cd__law_fits ct__law_fits), sl__law_fits⟩) (c__law_fits : PySem.W.codeIn K cd__law_fits "_law_fits" = true) (k__law_fits : PySem.W.keepIn K (.ref f__law_fits) = true)
    (a__law_book : PySem.W.nsIn K mainGlobals "_law_book" = some (some (.ref f__law_book))) (l__law_book : K.lookup f__law_book = some ⟨oc__law_book, od__law_book, .func (PySem.W.fnOf "_law_book" "_law_book" (defArgs (top 34)) (defBody (top 34)) (defScope (top 34)) .none kV__law_book dc__law_book pm__law_book an__law_book cd__law_book ct__law_book), sl__law_book⟩) (c__law_book : PySem.W.codeIn K cd__law_book "_law_book" = true) (k__law_book : PySem.W.keepIn K (.ref f__law_book) = true)
    (a__law_told : PySem.W.nsIn K mainGlobals "_law_told" = some (some (.ref f__law_told))) (l__law_told : K.lookup f__law_told = some ⟨oc__law_told, od__law_told, .func (PySem.W.fnOf "_law_told" "_law_told" (defArgs (top 35)) (defBody (top 35)) (defScope (top 35)) .none kV__law_told dc__law_told pm__law_told an__law_told cd__law_told ct__law_told), sl__law_told⟩) (c__law_told : PySem.W.codeIn K cd__law_told "_law_told" = true) (k__law_told : PySem.W.keepIn K (.ref f__law_told) = true)
    (a__law_tells : PySem.W.nsIn K mainGlobals "_law_tells" = some (some (.ref f__law_tells))) (l__law_tells : K.lookup f__law_tells = some ⟨oc__law_tells, od__law_tells, .func (PySem.W.fnOf "_law_tells" "_law_tells" (defArgs (top 36)) (defBody (top 36)) (defScope (top 36)) .none kV__law_tells dc__law_tells pm__law_tells an__law_tells cd__law_tells ct__law_tells), sl__law_tells⟩) (c__law_tells : PySem.W.codeIn K cd__law_tells "_law_tells" = true) (k__law_tells : PySem.W.keepIn K (.ref f__law_tells) = true)
    (a__law_is_another : PySem.W.nsIn K mainGlobals "_law_is_another" = some (some (.ref f__law_is_another))) (l__law_is_another : K.lookup f__law_is_another = some ⟨oc__law_is_another, od__law_is_another, .func (PySem.W.fnOf "_law_is_another" "_law_is_another" (defArgs (top 37)) (defBody (top 37)) (defScope (top 37)) .none kV__law_is_another dc__law_is_another pm__law_is_another an__law_is_another cd__law_is_another ct__law_is_another), sl__law_is_another⟩) (c__law_is_another : PySem.W.codeIn K cd__law_is_another "_law_is_another" = true) (k__law_is_another : PySem.W.keepIn K (.ref f__law_is_another) = true)
    (a__law_refused : PySem.W.nsIn K mainGlobals "_law_refused" = some (some (.ref f__law_refused))) (l__law_refused : K.lookup f__law_refused = some ⟨oc__law_refused, od__law_refused, .func (PySem.W.fnOf "_law_refused" "_law_refused" (defArgs (top 38)) (defBody (top 38)) (defScope (top 38)) .none kV__law_refused dc__law_refused pm__law_refused an__law_refused cd__law_refused ct__law_refused), sl__law_refused⟩) (c__law_refused : PySem.W.codeIn K cd__law_refused "_law_refused" = true) (k__law_refused : PySem.W.keepIn K (.ref f__law_refused) = true)
    (a__law_many : PySem.W.nsIn K mainGlobals "_law_many" = some (some (.ref f__law_many))) (l__law_many : K.lookup f__law_many = some ⟨oc__law_many, od__law_many, .func (PySem.W.fnOf "_law_many" "_law_many" (defArgs (top 39)) (defBody (top 39)) (defScope (top 39)) .none kV__law_many dc__law_many pm__law_many an__law_many cd__law_many ct__law_many), sl__law_many⟩) (c__law_many : PySem.W.codeIn K cd__law_many "_law_many" = true) (k__law_many : PySem.W.keepIn K (.ref f__law_many) = true)
    (a__law_spoilt : PySem.W.nsIn K mainGlobals "_law_spoilt" = some (some (.ref f__law_spoilt))) (l__law_spoilt : K.lookup f__law_spoilt = some ⟨oc__law_spoilt, od__law_spoilt, .func (PySem.W.fnOf "_law_spoilt" "_law_spoilt" (defArgs (top 40)) (defBody (top 40)) (defScope (top 40)) .none kV__law_spoilt dc__law_spoilt pm__law_spoilt an__law_spoilt cd__law_spoilt ct__law_spoilt), sl__law_spoilt⟩) (c__law_spoilt : PySem.W.codeIn K cd__law_spoilt "_law_spoilt" = true) (k__law_spoilt : PySem.W.keepIn K (.ref f__law_spoilt) = true)
    (a_law : PySem.W.nsIn K mainGlobals "law" = some (some (.ref f_law))) (l_law : K.lookup f_law = some ⟨oc_law, od_law, .func (PySem.W.fnOf "law" "law" (defArgs (top 41)) (defBody (top 41)) (defScope (top 41)) .none kV_law dc_law pm_law an_law cd_law ct_law), sl_law⟩) (c_law : PySem.W.codeIn K cd_law "law" = true) (k_law : PySem.W.keepIn K (.ref f_law) = true)
    (z_isinstance : PySem.W.nsIn K mainGlobals "isinstance" = some none)
    (z_int : PySem.W.nsIn K mainGlobals "int" = some none)
    (z_bool : PySem.W.nsIn K mainGlobals "bool" = some none)
    (z_str : PySem.W.nsIn K mainGlobals "str" = some none)
    (z_dict : PySem.W.nsIn K mainGlobals "dict" = some none)
    (z_list : PySem.W.nsIn K mainGlobals "list" = some none)
    (z_tuple : PySem.W.nsIn K mainGlobals "tuple" = some none)
    (z_len : PySem.W.nsIn K mainGlobals "len" = some none)
    (z_sum : PySem.W.nsIn K mainGlobals "sum" = some none)
    (z_max : PySem.W.nsIn K mainGlobals "max" = some none)
    (z_min : PySem.W.nsIn K mainGlobals "min" = some none)
    (z_all : PySem.W.nsIn K mainGlobals "all" = some none)
    (z_range : PySem.W.nsIn K mainGlobals "range" = some none)
    (z_enumerate : PySem.W.nsIn K mainGlobals "enumerate" = some none)
    (z_zip : PySem.W.nsIn K mainGlobals "zip" = some none)
    (gv_SMALL : PySem.W.nsIn K mainGlobals "SMALL" = some (some (.str "abcdefghijklmnopqrstuvwxyz" tk_SMALL)))
    (gv_LEAST_LETTERS : PySem.W.nsIn K mainGlobals "LEAST_LETTERS" = some (some (.int 2 tk_LEAST_LETTERS)))
    (gv_MOST_LETTERS : PySem.W.nsIn K mainGlobals "MOST_LETTERS" = some (some (.int 8 tk_MOST_LETTERS)))
    (gv_MOST_JOINTS : PySem.W.nsIn K mainGlobals "MOST_JOINTS" = some (some (.int 100 tk_MOST_JOINTS)))
    (y_S : PySem.W.nsIn K mainGlobals "SetError" = some (some (.ref CS)))
    (y_T : PySem.W.nsIn K mainGlobals "BadBook" = some (some (.ref CT)))
    (y_X : PySem.W.excIn K CT [.type "ValueError", .type "Exception", .type "BaseException", .type "object"] "ValueError.__new__" = true)
    (y_V : PySem.W.nsIn K mainGlobals "ValueError" = some none)
    (y_ga : PySem.W.findIn K (.ref CT) "__getattribute__" = some (some (.builtin "BaseException.__getattribute__")))
    (y_gt : PySem.W.findIn K (.ref CT) "__getattr__" = some none)
    (y_cl : PySem.W.findIn K (.ref CT) "__class__" = some (some (.builtin "object.__class__")))
    (y_sp : PySem.W.specialIn K (.builtin "object.__class__") "__get__" = some (some (.builtin "getset_descriptor.__get__")))
    (y_tk : PySem.W.takesIn K (.builtin "object.__class__") = some true)
    (y_mo : PySem.W.mroIn K CT (.type "object") = some true)
    (y_mb : PySem.W.mroIn K CT (.type "BaseException") = some true)
    (y_kV : PySem.W.kitOne K (.ref CT) (.type "ValueError") = some true)
    (y_xS : PySem.W.exmOne K (.ref CT) (.ref CS) = some true)
    (y_m1 : PySem.W.nsIn K mainGlobals "BadBlocks" = some (some (.ref c1)))
    (y_k1 : PySem.W.kitOne K (.ref CT) (.ref c1) = some false)
    (y_m2 : PySem.W.nsIn K mainGlobals "BadBreaks" = some (some (.ref c2)))
    (y_k2 : PySem.W.kitOne K (.ref CT) (.ref c2) = some false)
    (y_m3 : PySem.W.nsIn K mainGlobals "BadFace" = some (some (.ref c3)))
    (y_k3 : PySem.W.kitOne K (.ref CT) (.ref c3) = some false)
    (y_m4 : PySem.W.nsIn K mainGlobals "BadRules" = some (some (.ref c4)))
    (y_k4 : PySem.W.kitOne K (.ref CT) (.ref c4) = some false)
    (y_m5 : PySem.W.nsIn K mainGlobals "BadText" = some (some (.ref c5)))
    (y_k5 : PySem.W.kitOne K (.ref CT) (.ref c5) = some false)
    (y_m6 : PySem.W.nsIn K mainGlobals "BadWord" = some (some (.ref c6)))
    (y_k6 : PySem.W.kitOne K (.ref CT) (.ref c6) = some false)
    (y_m7 : PySem.W.nsIn K mainGlobals "NoNote" = some (some (.ref c7)))
    (y_k7 : PySem.W.kitOne K (.ref CT) (.ref c7) = some false)
    (y_m8 : PySem.W.nsIn K mainGlobals "NoPlace" = some (some (.ref c8)))
    (y_k8 : PySem.W.kitOne K (.ref CT) (.ref c8) = some false)
    (y_m9 : PySem.W.nsIn K mainGlobals "TooWide" = some (some (.ref c9)))
    (y_k9 : PySem.W.kitOne K (.ref CT) (.ref c9) = some false) :
    ∃ fd : FuncData, (∀ (s : Shared) (v : Value), BindsTo s fd ⟨[v], []⟩ [("_law_script", v)]) /\ ∀ base : Heap, K.In base -> base.Ns mainGlobals mg -> FnOk P w K mg base (cxx P w) 6 fa fd ["_law_script"] (spM K F_law 1) := by
  have e := hfa.symm.trans (PySem.W.mg_of X G a_law)
  cases e
  have B : Bl mg := ⟨PySem.W.mg_none_of X G z_isinstance, PySem.W.mg_none_of X G z_int, PySem.W.mg_none_of X G z_bool, PySem.W.mg_none_of X G z_str, PySem.W.mg_none_of X G z_dict, PySem.W.mg_none_of X G z_list, PySem.W.mg_none_of X G z_tuple, PySem.W.mg_none_of X G z_len, PySem.W.mg_none_of X G z_sum, PySem.W.mg_none_of X G z_max, PySem.W.mg_none_of X G z_min, PySem.W.mg_none_of X G z_all, PySem.W.mg_none_of X G z_range, PySem.W.mg_none_of X G z_enumerate, PySem.W.mg_none_of X G z_zip⟩
  have Gv : Gl0 K mg := ⟨⟨_, PySem.W.mg_of X G gv_SMALL⟩, ⟨_, PySem.W.mg_of X G gv_LEAST_LETTERS⟩, ⟨_, PySem.W.mg_of X G gv_MOST_LETTERS⟩, ⟨_, PySem.W.mg_of X G gv_MOST_JOINTS⟩⟩
  have Cl : Cls K mg := ⟨⟨CT, y_T, y_X⟩, PySem.W.mg_none_of X G y_V, CS, CT, c1, c2, c3, c4, c5, c6, c7, c8, c9, PySem.W.mg_of X G y_S, ⟨y_T, y_X⟩, ⟨y_ga, y_gt, y_cl, y_sp, y_tk, y_mo, y_mb, it_of y_X⟩, PySem.W.mg_of X G y_T, y_kV, y_xS, ⟨PySem.W.mg_of X G y_m1, y_k1⟩, ⟨PySem.W.mg_of X G y_m2, y_k2⟩, ⟨PySem.W.mg_of X G y_m3, y_k3⟩, ⟨PySem.W.mg_of X G y_m4, y_k4⟩, ⟨PySem.W.mg_of X G y_m5, y_k5⟩, ⟨PySem.W.mg_of X G y_m6, y_k6⟩, ⟨PySem.W.mg_of X G y_m7, y_k7⟩, ⟨PySem.W.mg_of X G y_m8, y_k8⟩, ⟨PySem.W.mg_of X G y_m9, y_k9⟩⟩
  refine ⟨PySem.W.fnOf "law" "law" (defArgs (top 41)) (defBody (top 41)) (defScope (top 41)) .none kV_law dc_law pm_law an_law cd_law ct_law, fun s v => .of_eq rfl, fun base _ _ => ?_⟩
  have D_mark_at : DefIn K mg "mark_at" (top 17) ["joint"] := defIn_mk X G (fun _ _ _ _ _ _ => bd1 fun _ => rfl) a_mark_at l_mark_at c_mark_at k_mark_at
  have O_mark_at := ok_mark_at (P := P) (w := w) (base := base) D_mark_at B Gv Cl 
  have D_letters_of : DefIn K mg "letters_of" (top 18) ["joint"] := defIn_mk X G (fun _ _ _ _ _ _ => bd1 fun _ => rfl) a_letters_of l_letters_of c_letters_of k_letters_of
  have O_letters_of := ok_letters_of (P := P) (w := w) (base := base) D_letters_of B Gv Cl 
  have D_is_joint : DefIn K mg "is_joint" (top 19) ["thing"] := defIn_mk X G (fun _ _ _ _ _ _ => bd1 fun _ => rfl) a_is_joint l_is_joint c_is_joint k_is_joint
  have O_is_joint := ok_is_joint (P := P) (w := w) (base := base) D_is_joint B Gv Cl O_letters_of O_mark_at
  have D_is_book : DefIn K mg "is_book" (top 20) ["thing"] := defIn_mk X G (fun _ _ _ _ _ _ => bd1 fun _ => rfl) a_is_book l_is_book c_is_book k_is_book
  have O_is_book := ok_is_book (P := P) (w := w) (base := base) D_is_book B Gv Cl O_is_joint
  have D_need_book : DefIn K mg "need_book" (top 21) ["book"] := defIn_mk X G (fun _ _ _ _ _ _ => bd1 fun _ => rfl) a_need_book l_need_book c_need_book k_need_book
  have O_need_book := ok_need_book (P := P) (w := w) (base := base) D_need_book B Gv Cl O_is_book
  have D_fits : DefIn K mg "fits" (top 22) ["joint", "word", "place"] := defIn_mk X G (fun _ _ _ _ _ _ => bd3 fun _ _ _ => rfl) a_fits l_fits c_fits k_fits
  have O_fits := ok_fits (P := P) (w := w) (base := base) D_fits B Gv Cl O_letters_of O_mark_at
  have D_rank : DefIn K mg "rank" (top 23) ["joint"] := defIn_mk X G (fun _ _ _ _ _ _ => bd1 fun _ => rfl) a_rank l_rank c_rank k_rank
  have O_rank := ok_rank (P := P) (w := w) (base := base) D_rank B Gv Cl O_mark_at
  have D_telling : DefIn K mg "telling" (top 24) ["book", "word", "place"] := defIn_mk X G (fun _ _ _ _ _ _ => bd3 fun _ _ _ => rfl) a_telling l_telling c_telling k_telling
  have O_telling := ok_telling (P := P) (w := w) (base := base) D_telling B Gv Cl O_fits O_rank
  have D__law_number : DefIn K mg "_law_number" (top 26) ["_law_script", "_law_k"] := defIn_mk X G (fun _ _ _ _ _ _ => bd2 fun _ _ => rfl) a__law_number l__law_number c__law_number k__law_number
  have O__law_number := ok__law_number (P := P) (w := w) (base := base) D__law_number B Gv Cl 
  have D__law_sign : DefIn K mg "_law_sign" (top 27) ["_law_number_here"] := defIn_mk X G (fun _ _ _ _ _ _ => bd1 fun _ => rfl) a__law_sign l__law_sign c__law_sign k__law_sign
  have O__law_sign := ok__law_sign (P := P) (w := w) (base := base) D__law_sign B Gv Cl 
  have D__law_word : DefIn K mg "_law_word" (top 28) ["_law_script", "_law_k"] := defIn_mk X G (fun _ _ _ _ _ _ => bd2 fun _ _ => rfl) a__law_word l__law_word c__law_word k__law_word
  have O__law_word := ok__law_word (P := P) (w := w) (base := base) D__law_word B Gv Cl O__law_number O__law_sign
  have D__law_small : DefIn K mg "_law_small" (top 29) ["_law_sign_here"] := defIn_mk X G (fun _ _ _ _ _ _ => bd1 fun _ => rfl) a__law_small l__law_small c__law_small k__law_small
  have O__law_small := ok__law_small (P := P) (w := w) (base := base) D__law_small B Gv Cl 
  have D__law_letter_by : DefIn K mg "_law_letter_by" (top 30) ["_law_number_here", "_law_word_here", "_law_spot"] := defIn_mk X G (fun _ _ _ _ _ _ => bd3 fun _ _ _ => rfl) a__law_letter_by l__law_letter_by c__law_letter_by k__law_letter_by
  have O__law_letter_by := ok__law_letter_by (P := P) (w := w) (base := base) D__law_letter_by B Gv Cl O__law_small
  have D__law_joint : DefIn K mg "_law_joint" (top 31) ["_law_number_here", "_law_word_here"] := defIn_mk X G (fun _ _ _ _ _ _ => bd2 fun _ _ => rfl) a__law_joint l__law_joint c__law_joint k__law_joint
  have O__law_joint := ok__law_joint (P := P) (w := w) (base := base) D__law_joint B Gv Cl O__law_letter_by
  have D__law_mark : DefIn K mg "_law_mark" (top 32) ["_law_joint_here"] := defIn_mk X G (fun _ _ _ _ _ _ => bd1 fun _ => rfl) a__law_mark l__law_mark c__law_mark k__law_mark
  have O__law_mark := ok__law_mark (P := P) (w := w) (base := base) D__law_mark B Gv Cl 
  have D__law_fits : DefIn K mg "_law_fits" (top 33) ["_law_joint_here", "_law_word_here", "_law_place"] := defIn_mk X G (fun _ _ _ _ _ _ => bd3 fun _ _ _ => rfl) a__law_fits l__law_fits c__law_fits k__law_fits
  have O__law_fits := ok__law_fits (P := P) (w := w) (base := base) D__law_fits B Gv Cl O__law_mark O__law_small
  have D__law_book : DefIn K mg "_law_book" (top 34) ["_law_script", "_law_k", "_law_word_here"] := defIn_mk X G (fun _ _ _ _ _ _ => bd3 fun _ _ _ => rfl) a__law_book l__law_book c__law_book k__law_book
  have O__law_book := ok__law_book (P := P) (w := w) (base := base) D__law_book B Gv Cl O__law_number O__law_joint O__law_mark
  have D__law_told : DefIn K mg "_law_told" (top 35) ["_law_book_here", "_law_word_here", "_law_place"] := defIn_mk X G (fun _ _ _ _ _ _ => bd3 fun _ _ _ => rfl) a__law_told l__law_told c__law_told k__law_told
  have O__law_told := ok__law_told (P := P) (w := w) (base := base) D__law_told B Gv Cl O__law_mark O__law_fits
  have D__law_tells : DefIn K mg "_law_tells" (top 36) ["_law_book_here", "_law_word_here"] := defIn_mk X G (fun _ _ _ _ _ _ => bd2 fun _ _ => rfl) a__law_tells l__law_tells c__law_tells k__law_tells
  have O__law_tells := ok__law_tells (P := P) (w := w) (base := base) D__law_tells B Gv Cl O_telling O__law_told
  have D__law_is_another : DefIn K mg "_law_is_another" (top 37) ["_law_error"] := defIn_mk X G (fun _ _ _ _ _ _ => bd1 fun _ => rfl) a__law_is_another l__law_is_another c__law_is_another k__law_is_another
  have D__law_refused : DefIn K mg "_law_refused" (top 38) ["_law_book_here"] := defIn_mk X G (fun _ _ _ _ _ _ => bd1 fun _ => rfl) a__law_refused l__law_refused c__law_refused k__law_refused
  have O__law_refused := ok__law_refused (P := P) (w := w) (base := base) D__law_refused B Gv Cl O_need_book D__law_is_another
  have D__law_many : DefIn K mg "_law_many" (top 39) ["_law_size"] := defIn_mk X G (fun _ _ _ _ _ _ => bd1 fun _ => rfl) a__law_many l__law_many c__law_many k__law_many
  have O__law_many := ok__law_many (P := P) (w := w) (base := base) D__law_many B Gv Cl 
  have D__law_spoilt : DefIn K mg "_law_spoilt" (top 40) ["_law_book_here", "_law_number_here"] := defIn_mk X G (fun _ _ _ _ _ _ => bd2 fun _ _ => rfl) a__law_spoilt l__law_spoilt c__law_spoilt k__law_spoilt
  have O__law_spoilt := ok__law_spoilt (P := P) (w := w) (base := base) D__law_spoilt B Gv Cl O__law_many O__law_mark
  exact mir_fn l_law c_law sc_law (by decide) (body_law B Gv Cl O__law_word O__law_book O__law_refused O_need_book O__law_tells O__law_spoilt O__law_number O__law_many)
end
end K04

set_option maxRecDepth 100000
set_option maxHeartbeats 4000000
namespace K04
open PySem PyProof.Rows L2
noncomputable def bW : Tn -> R Fl := (sSeq (sSet 2 (eBin addD (eL F__law_number (aCons (eVar 0) (aCons (eBin addD (eBin addD (eVar 1) (eC (.int 1))) (eBin modD (eVar 5) (eC (.int 8)))) aNil))) (eBin mulD (eBin mulD (eC (.int 611)) (eVar 5)) (eVar 5)))) (sApp 4 (eL F__law_sign (aCons (eBin fdivD (eVar 2) (eC (.int 5))) aNil))))
noncomputable def IFW : Tn -> R Fl := (sIf (eTest (eBin (eqR false) (eBin modD (eBin fdivD (eVar 2) (eC (.int 12))) (eC (.int 6))) (eC (.int 1)))) (sSet 3 (eBin addD (eC (.int 1)) (eBin modD (eBin fdivD (eVar 2) (eC (.int 72))) (eC (.int 40))))) sSkip)
noncomputable def TW : Tn -> R Fl := (sSeq (sSet 2 (eL F__law_number (aCons (eVar 0) (aCons (eVar 1) aNil)))) (sSeq (sSet 3 (eBin addD (eC (.int 1)) (eBin modD (eVar 2) (eC (.int 12))))) (sSeq IFW (sSeq (sSet 4 (eL (fun ds => .ok (.lst ds)) aNil)) (sSeq (sFor (iL rng1 (aCons (eVar 3) aNil)) (.one 5) bW) (sRet (eSm joinD (eC (.str "")) (aCons (eVar 4) aNil))))))))
theorem tW : F__law_word = runB 6 TW := rfl
noncomputable def S (l : List Nat) : Str := ⟨l.toArray⟩
theorem S_len (l : List Nat) : (S l).length = l.length := List.size_toArray
theorem S_cps (l : List Nat) : (S l).cps.toList = l := List.toList_toArray
theorem str_S (z : Str) : z = S z.cps.toList := by
  obtain ⟨a⟩ := z
  show (⟨a⟩ : Str) = ⟨a.toList.toArray⟩
  rw [Array.toArray_toList]
theorem S_app (a b : List Nat) : S a ++ S b = S (a ++ b) := by
  rw [str_S (S a ++ S b), app_cps, S_cps, S_cps]
theorem S_inj {a b : List Nat} (h : S a = S b) : a = b := by
  have := congrArg (fun z : Str => z.cps.toList) h
  rw [S_cps, S_cps] at this
  exact this
theorem S_eq (a b : List Nat) : (S a == S b) = decide (a = b) := by
  by_cases h : a = b
  · subst h; simp
  · rw [decide_eq_false h]
    exact beq_false_of_ne fun z => h (S_inj z)
theorem join_cons (x : Str) : ∀ ys : List Str, Str.join "" (x :: ys) = x ++ Str.join "" ys
  | [] => (Str.append_empty x).symm
  | y :: ys => by
    show x ++ "" ++ Str.join "" (y :: ys) = x ++ Str.join "" (y :: ys)
    have : (x ++ ("" : Str)) = x := Str.append_empty x
    rw [this]
noncomputable def one (c : Nat) : Str := S [c]
theorem join_one : ∀ cs : List Nat, Str.join "" (cs.map one) = S cs
  | [] => rfl
  | c :: cs => by
    rw [List.map_cons, join_cons, join_one cs]
    exact S_app [c] cs
theorem sum_one (cs : List Nat) : ((cs.map one).map (·.length)).sum = cs.length := by
  induction cs with
  | nil => rfl
  | cons c cs ih => rw [List.map_cons, List.map_cons, List.sum_cons, ih, List.length_cons]; show 1 + _ = _; lia
theorem join_ok (cs : List Nat) (h : cs.length <= 1000) : joinD "" [.lst (cs.map fun c => D.str (one c))] = .ok (.str (S cs)) := by
  have e : (cs.map fun c => D.str (one c)) = (cs.map one).map D.str := by rw [List.map_map]; rfl
  have e0 : Str.length "" = 0 := by decide
  rw [e, ev_joinD (by rw [sum_one, e0, List.length_map]; lia), join_one]
theorem ix_at {cs : List Nat} {i : Int} {c : Nat} (hl : cs.length <= 1000) (h0 : 0 <= i) (h : cs[i.toNat]? = some c) : ixD (.str (S cs)) (.int i) = .ok (.str (one c)) :=
  ev_ixs (by rw [S_len, sizeLine_eq]; lia) (atI_ok h0 (by rw [S_cps]; exact h))
theorem pickS {z : Str} {i : Int} {p : Nat -> Prop} (hz : z.length <= 1000) (h0 : 0 <= i) (h1 : i < z.length) (hp : ∀ c ∈ z.cps.toList, p c) : ∃ c, ixD (.str z) (.int i) = .ok (.str (one c)) /\ p c := by
  have hl : z.cps.toList.length = z.length := by simp [Str.length]
  have hi : i.toNat < z.cps.toList.length := by lia
  refine ⟨z.cps.toList[i.toNat], ?_, hp _ (List.getElem_mem hi)⟩
  have := ix_at (cs := z.cps.toList) (i := i) (by lia) h0 (List.getElem?_eq_getElem hi)
  rw [<- str_S z] at this
  exact this
theorem number (ns : List Int) (k : Int) (hk : 0 <= k) (hl : ns.length <= 63) : ∃ v, F__law_number [.frl (ns.map .int), .int k] = .ok (.int v) := by
  by_cases h : k < (ns.length : Int)
  · have hm : k.toNat < ns.length := by lia
    have hix : ixD (.frl (ns.map .int)) (.int k) = .ok (.int ns[k.toNat]) := ev_ixf (atI_ok hk (by rw [List.getElem?_map, List.getElem?_eq_getElem hm]; rfl))
    have e1 : decide (k < (ns.length : Int)) = true := decide_eq_true h
    refine ⟨(ns[k.toNat] + 7919 * k + 17) * 48271 % 2147483647, ?_⟩
    generalize ns[k.toNat] = v at *
    simp only [F__law_number, t__law_number, sSkip, runB, sSeq, sSet, sRet, sIf, eVar, eC, eBin, eL, aNil, aCons, eTest, asB, R.ok_bind, List.map_cons, List.map_nil, List.length_cons, List.length_nil, List.replicate_succ, List.replicate_zero, List.cons_append, List.nil_append, List.getElem?_cons_zero, List.getElem?_cons_succ, List.set_cons_zero, List.set_cons_succ, Nat.reduceAdd, Nat.reduceSub, Nat.zero_add, ev_add, ev_lt, ev_mod, ev_lenf, if_true, Int.reduceLT, Int.reduceNeg, List.length_map, e1, hix, ev_mulL, ev_mulR]
  · have e1 : decide (k < (ns.length : Int)) = false := decide_eq_false h
    refine ⟨(0 + 7919 * k + 17) * 48271 % 2147483647, ?_⟩
    simp only [F__law_number, t__law_number, sSkip, runB, sSeq, sSet, sRet, sIf, eVar, eC, eBin, eL, aNil, aCons, eTest, asB, R.ok_bind, List.map_cons, List.map_nil, List.length_cons, List.length_nil, List.replicate_succ, List.replicate_zero, List.cons_append, List.nil_append, List.getElem?_cons_zero, List.getElem?_cons_succ, List.set_cons_zero, List.set_cons_succ, Nat.reduceAdd, Nat.reduceSub, Nat.zero_add, ev_add, ev_lt, ev_mod, ev_lenf, if_false, Bool.false_eq_true, Int.reduceLT, Int.reduceNeg, List.length_map, e1, ev_mulL, ev_mulR]
noncomputable abbrev Z1 : Str := "aabbcABBAb"
noncomputable abbrev Z2 : Str := "abcdefghijklmnopqrstuvwxyzABCDEFGHIJKLMNOPQRSTUVWXYZ0123456789.,;:!?'\"()-/"
noncomputable def okS (c : Nat) : Prop := c ∈ Z2.cps.toList
theorem z1_len : Z1.length = 10 := by decide +kernel
theorem z2_len : Z2.length = 74 := by decide +kernel
theorem z1_lt : ∀ c ∈ Z1.cps.toList, okS c := by unfold okS; decide +kernel
theorem okS.lt {c : Nat} (h : okS c) : c < 128 := by
  have : ∀ c ∈ Z2.cps.toList, c < 128 := by decide +kernel
  exact this c h
theorem z2_lt : ∀ c ∈ Z2.cps.toList, okS c := fun _ h => h
theorem sign_g (A B : Str) (hA : A.length = 10) (hB : B.length = 74) (pA : ∀ c ∈ A.cps.toList, okS c) (pB : ∀ c ∈ B.cps.toList, okS c) (n : Int) : ∃ c, runB 2 (sSeq (sSet 1 (eC (.str B))) (sSeq (sIf (eTest (eBin ltD (eBin modD (eVar 0) (eC (.int 16))) (eC (.int 10)))) (sRet (eBin ixD (eC (.str A)) (eBin modD (eVar 0) (eC (.int 16))))) sSkip) (sSeq (sIf (eTest (eBin ltD (eBin modD (eVar 0) (eC (.int 16))) (eC (.int 13)))) (sRet (eC (.str "-"))) sSkip) (sRet (eImm (eBin ixD (eVar 1) (eBin modD (eBin fdivD (eVar 0) (eC (.int 16))) (eC (.int 74))))))))) [.int n] = .ok (.str (one c)) /\ okS c := by
  have m16 : modD (.int n) (.int 16) = .ok (.int (n % 16)) := ev_mod (by decide)
  by_cases h : n % 16 < 10
  · obtain ⟨c, e, hc⟩ := pickS (z := A) (i := n % 16) (p := fun c => okS c) (by lia) (by lia) (by lia) pA
    have e1 : decide (n % 16 < 10) = true := decide_eq_true h
    refine ⟨c, ?_, hc⟩
    generalize n % 16 = y at *
    simp only [ev_eImm, sSkip, runB, sSeq, sSet, sRet, sIf, eVar, eC, eBin, eTest, asB, R.ok_bind, List.map_cons, List.map_nil, List.length_cons, List.length_nil, List.replicate_succ, List.replicate_zero, List.cons_append, List.nil_append, List.getElem?_cons_zero, List.set_cons_zero, List.set_cons_succ, Nat.reduceSub, Nat.zero_add, ev_lt, if_true, m16, e1, e]
  · have e1 : decide (n % 16 < 10) = false := decide_eq_false h
    by_cases h2 : n % 16 < 13
    · have e2 : decide (n % 16 < 13) = true := decide_eq_true h2
      refine ⟨45, ?_, by unfold okS; decide +kernel⟩
      show _ = R.ok (D.str "-")
      generalize n % 16 = y at *
      simp only [ev_eImm, sSkip, runB, sSeq, sSet, sRet, sIf, eVar, eC, eBin, eTest, asB, R.ok_bind, List.map_cons, List.map_nil, List.length_cons, List.length_nil, List.replicate_succ, List.replicate_zero, List.cons_append, List.nil_append, List.getElem?_cons_zero, List.set_cons_zero, List.set_cons_succ, Nat.reduceSub, Nat.zero_add, ev_lt, if_true, if_false, Bool.false_eq_true, m16, e1, e2]
    · have e2 : decide (n % 16 < 13) = false := decide_eq_false h2
      have d16 : fdivD (.int n) (.int 16) = .ok (.int (n / 16)) := ev_fdiv (by decide) (by decide)
      have m74 : modD (.int (n / 16)) (.int 74) = .ok (.int (n / 16 % 74)) := ev_mod (by decide)
      obtain ⟨c, e, hc⟩ := pickS (z := B) (i := n / 16 % 74) (p := fun c => okS c) (by lia) (by lia) (by lia) pB
      refine ⟨c, ?_, hc⟩
      generalize n % 16 = y at *
      generalize n / 16 % 74 = y2 at *
      simp only [ev_eImm, ev_immS, sSkip, runB, sSeq, sSet, sRet, sIf, eVar, eC, eBin, eTest, asB, R.ok_bind, List.map_cons, List.map_nil, List.length_cons, List.length_nil, List.replicate_succ, List.replicate_zero, List.cons_append, List.nil_append, List.getElem?_cons_zero, List.getElem?_cons_succ, List.set_cons_zero, List.set_cons_succ, Nat.reduceSub, Nat.zero_add, ev_lt, if_false, Bool.false_eq_true, m16, e1, e2, d16, m74, e]
theorem sign (n : Int) : ∃ c, F__law_sign [.int n] = .ok (.str (one c)) /\ okS c := sign_g Z1 Z2 z1_len z2_len z1_lt z2_lt n
theorem bW_ok (S0 : D) (v j : Int) (L : List D) (x2 x3 : Option D) (c : D) (h1 : F__law_number [S0, .int (0 + 1 + j % 8)] = .ok (.int v)) (h2 : F__law_sign [.int ((v + 611 * j * j) / 5)] = .ok c) (hL : L.length < 16777216) (j0 : 0 <= j) (j1 : j < 100) :
    bW [some S0, some (.int 0), x2, x3, some (.lst L), some (.int j)] = .ok (.nx [some S0, some (.int 0), some (.int (v + 611 * j * j)), x3, some (.lst (L ++ [c])), some (.int j)]) := by
  have b0 : -18446744073709551616 < j := by omega
  have b1 : j < 18446744073709551616 := by omega
  have d5 : fdivD (.int (v + 611 * j * j)) (.int 5) = .ok (.int ((v + 611 * j * j) / 5)) := ev_fdiv (by decide) (by decide)
  have m8 : modD (.int j) (.int 8) = .ok (.int (j % 8)) := ev_mod (by decide)
  have e1 : (0 : Int) + 1 = 1 := rfl
  rw [e1] at h1
  simp only [bW, ev_sApp, ev_appL, ev_appD, sSeq, sSet, eVar, eC, eBin, eL, aNil, aCons, R.ok_bind, List.getElem?_cons_zero, List.getElem?_cons_succ, List.set_cons_zero, List.set_cons_succ, ev_add, m8, e1, h1, ev_mulR b0 b1, d5, h2, hL]
theorem lW_ok (ns : List Int) (hl : ns.length <= 63) (m : Nat) (hm : m <= 40) (x2 x3 x5 : Option D) : ∃ (cs : List Nat) (y2 y5 : Option D), cs.length = m /\ (∀ c ∈ cs, okS c) /\
    forGo (Tgt.one 5).asg bW (rng 0 m) [some (.frl (ns.map .int)), some (.int 0), x2, x3, some (.lst []), x5] = .ok (.nx [some (.frl (ns.map .int)), some (.int 0), y2, x3, some (.lst (cs.map fun c => D.str (one c))), y5]) := by
  obtain ⟨τ', e2, cs, y2, y5, g1, g2, h⟩ := forGo_inv (asg := (Tgt.one 5).asg) (body := bW)
    (fun i τ => ∃ (cs : List Nat) (y2 y5 : Option D), cs.length = i /\ (∀ c ∈ cs, okS c) /\ τ = [some (.frl (ns.map .int)), some (.int 0), y2, x3, some (.lst (cs.map fun c => D.str (one c))), y5]) (rng 0 m) 0
    [some (.frl (ns.map .int)), some (.int 0), x2, x3, some (.lst []), x5] ⟨[], x2, x5, rfl, fun c hc => (nomatch hc), rfl⟩ (fun i q τ hd ⟨cs, y2, y5, l1, l2, h⟩ => by
      obtain ⟨hi, rfl⟩ := rng_get hd
      subst h
      obtain ⟨v, hv⟩ := number ns (0 + 1 + ((0 : Int) + (i : Nat)) % 8) (by lia) hl
      obtain ⟨c, hc, cl⟩ := sign ((v + 611 * ((0 : Int) + (i : Nat)) * ((0 : Int) + (i : Nat))) / 5)
      have hb := bW_ok (.frl (ns.map .int)) v ((0 : Int) + (i : Nat)) (cs.map fun c => D.str (one c)) y2 x3 (.str (one c)) hv hc (by rw [List.length_map]; lia) (by lia) (by lia)
      refine ⟨_, _, rfl, .inl hb, cs ++ [c], some (.int (v + 611 * ((0 : Int) + (i : Nat)) * ((0 : Int) + (i : Nat)))), some (.int ((0 : Int) + (i : Nat))), by rw [List.length_append, l1]; rfl, fun x hx => ?_, by rw [List.map_append]; rfl⟩
      rcases List.mem_append.mp hx with z | z
      · exact l2 x z
      · rw [List.mem_singleton.mp z]; exact cl)
  exact ⟨cs, y2, y5, by rw [g1, rng_len]; lia, g2, by rw [e2, h]⟩
theorem word (ns : List Int) (hl : ns.length <= 63) : ∃ cs : List Nat, F__law_word [.frl (ns.map .int), .int 0] = .ok (.str (S cs)) /\ (∀ c ∈ cs, okS c) /\ 1 <= cs.length /\ cs.length <= 40 := by
  obtain ⟨v, hv⟩ := number ns 0 (by decide) hl
  have d12 : fdivD (.int v) (.int 12) = .ok (.int (v / 12)) := ev_fdiv (by decide) (by decide)
  have d72 : fdivD (.int v) (.int 72) = .ok (.int (v / 72)) := ev_fdiv (by decide) (by decide)
  have m12 : modD (.int v) (.int 12) = .ok (.int (v % 12)) := ev_mod (by decide)
  have m6 : modD (.int (v / 12)) (.int 6) = .ok (.int (v / 12 % 6)) := ev_mod (by decide)
  have m40 : modD (.int (v / 72)) (.int 40) = .ok (.int (v / 72 % 40)) := ev_mod (by decide)
  obtain ⟨sz, hs, s0, s1⟩ : ∃ sz : Int, IFW [some (.frl (ns.map .int)), some (.int 0), some (.int v), some (.int (1 + v % 12)), none, none] = .ok (.nx [some (.frl (ns.map .int)), some (.int 0), some (.int v), some (.int sz), none, none]) /\ 1 <= sz /\ sz <= 40 := by
    generalize D.frl (ns.map .int) = S0 at *
    by_cases hq : v / 12 % 6 = 1
    · have z : (v / 12 % 6 == 1) = true := beq_iff_eq.mpr hq
      refine ⟨1 + v / 72 % 40, ?_, by lia, by lia⟩
      simp only [IFW, sSkip, sSet, sIf, eVar, eC, eBin, eTest, asB, R.ok_bind, List.getElem?_cons_zero, List.getElem?_cons_succ, List.set_cons_zero, List.set_cons_succ, ev_add, ev_eqi, if_true, if_false, Bool.false_eq_true, d12, m6, z, d72, m40]
    · have z : (v / 12 % 6 == 1) = false := beq_false_of_ne hq
      refine ⟨1 + v % 12, ?_, by lia, by lia⟩
      simp only [IFW, sSkip, sSet, sIf, eVar, eC, eBin, eTest, asB, R.ok_bind, List.getElem?_cons_zero, List.getElem?_cons_succ, List.set_cons_zero, List.set_cons_succ, ev_add, ev_mod, ev_fdiv, ev_eqi, if_false, Bool.false_eq_true, Int.reduceLT, d12, m6, z]
  have e1 : rng1 [D.int sz] = .ok (rng 0 sz.toNat) := ev_rng1 (by lia) (by lia)
  obtain ⟨cs, y2, y5, g1, g2, h⟩ := lW_ok ns hl sz.toNat (by lia) (some (.int v)) (some (.int sz)) none
  have hj := join_ok cs (by lia)
  refine ⟨cs, ?_, g2, by lia, by lia⟩
  rw [tW]
  generalize (cs.map fun c => D.str (one c)) = W at *
  generalize D.frl (ns.map .int) = S0 at *
  generalize sz.toNat = m at *
  have eF : sFor (iL rng1 (aCons (eVar 3) aNil)) (.one 5) bW [some S0, some (.int 0), some (.int v), some (.int sz), some (.lst []), none] = _ := ev_for (by simp only [eVar, aNil, aCons, iL, R.ok_bind, List.getElem?_cons_zero, List.getElem?_cons_succ, e1]) h
  simp only [TW, runB, sSeq, sSet, sRet, eVar, eC, eBin, eL, aNil, aCons, R.ok_bind, List.map_cons, List.map_nil, List.length_cons, List.length_nil, List.replicate_succ, List.replicate_zero, List.cons_append, List.nil_append, List.getElem?_cons_zero, List.getElem?_cons_succ, List.set_cons_zero, List.set_cons_succ, Nat.reduceAdd, Nat.reduceSub, Nat.zero_add, ev_add, ev_eSm, ev_smD, hv, m12, hs, eF, hj]
end K04

set_option maxRecDepth 100000
set_option maxHeartbeats 4000000
namespace K04
open PySem PyProof.Rows L2
noncomputable def chk (c : Nat) : Bool := match F__law_small [.str (one c)] with
  | .ok (.str s) => s == one (lo1 c)
  | _ => false
theorem chk_all : ∀ c, c < 128 -> chk c = true := by decide +kernel
theorem small (c : Nat) (h : c < 128) : F__law_small [.str (one c)] = .ok (.str (one (lo1 c))) := by
  have := chk_all c h
  unfold chk at this
  split at this
  · rename_i s e
    rw [e, eq_of_beq this]
  · cases this
noncomputable abbrev AZ : Str := "abcdefghijklmnopqrstuvwxyz"
theorem inS_one (c : Nat) (z : Str) : inS (one c) z = decide (c ∈ z.cps.toList) := StrLaws.found_one z c
theorem az_ok : ∀ c ∈ AZ.cps.toList, c ≠ 45 /\ c ≠ 61 := by decide +kernel
noncomputable abbrev ABC : Str := "abc"
theorem abc_ok : ∀ c ∈ ABC.cps.toList, c ∈ AZ.cps.toList := by decide +kernel
theorem abc_len : ABC.length = 3 := by decide +kernel
theorem letter_g (Z A : Str) (hZ : ∀ c ∈ Z.cps.toList, c ∈ AZ.cps.toList) (hA : ∀ c ∈ A.cps.toList, c ∈ AZ.cps.toList) (lA : A.length = 3) (n p : Int) (cs : List Nat) (hc : ∀ c ∈ cs, c < 128) (hl : cs.length <= 40) (p0 : -100 <= p) (p1 : p <= 100) : ∃ c, runB 3 (sSeq (sIf (bAnd (eTest (eChain leD ltD (eC (.int 0)) (eVar 2) (eL lenD (aCons (eVar 1) aNil)))) (eTest (eBin inSD (eL F__law_small (aCons (eBin ixD (eVar 1) (eVar 2)) aNil)) (eC (.str Z))))) (sRet (eL F__law_small (aCons (eBin ixD (eVar 1) (eVar 2)) aNil))) sSkip) (sRet (eBin ixD (eC (.str A)) (eBin modD (eBin fdivD (eVar 0) (eBin addD (eC (.int 1)) (eBin mulD (eVar 2) (eVar 2)))) (eC (.int 3)))))) [.int n, .str (S cs), .int p] = .ok (.str (one c)) /\ c ∈ AZ.cps.toList := by
  have hlen : lenD [.str (S cs)] = .ok (.int (cs.length : Nat)) := by rw [ev_lens (by rw [S_len, sizeLine_eq]; lia), S_len]
  have q0 : 0 <= p * p := by
    rcases Int.le_total 0 p with h | h
    · exact Int.mul_nonneg h h
    · exact Int.mul_nonneg_of_nonpos_of_nonpos h h
  have q1 : p * p <= 10000 := by
    have : p * p <= 100 * 100 := by
      rcases Int.le_total 0 p with h | h
      · exact Int.mul_le_mul p1 p1 h (by lia)
      · have e : p * p = (-p) * (-p) := by rw [Int.neg_mul_neg]
        rw [e]
        exact Int.mul_le_mul (by lia) (by lia) (by lia) (by lia)
    lia
  have b0 : -18446744073709551616 < p := by lia
  have b1 : p < 18446744073709551616 := by lia
  have fd : fdivD (.int n) (.int (1 + p * p)) = .ok (.int (n / (1 + p * p))) := ev_fdiv (by lia) (by lia)
  have m3 : modD (.int (n / (1 + p * p))) (.int 3) = .ok (.int (n / (1 + p * p) % 3)) := ev_mod (by decide)
  obtain ⟨d, hd, dk⟩ := pickS (z := A) (i := n / (1 + p * p) % 3) (p := fun c => c ∈ AZ.cps.toList) (by lia) (by lia) (by lia) hA
  by_cases h0 : 0 <= p
  · have e0 : decide (0 <= p) = true := decide_eq_true h0
    by_cases h1 : p < (cs.length : Nat)
    · have e1 : decide (p < ((cs.length : Nat) : Int)) = true := decide_eq_true h1
      have hi : p.toNat < cs.length := by lia
      have hx := ix_at (cs := cs) (i := p) (by lia) h0 (List.getElem?_eq_getElem hi)
      have hs := small _ (hc _ (List.getElem_mem hi))
      generalize cs[p.toNat] = c at *
      have hin : inSD (.str (one (lo1 c))) (.str Z) = .ok (.bl (inS (one (lo1 c)) Z)) := rfl
      generalize ((cs.length : Nat) : Int) = l at *
      by_cases h2 : lo1 c ∈ Z.cps.toList
      · rw [inS_one, decide_eq_true h2] at hin
        refine ⟨lo1 c, ?_, hZ _ h2⟩
        simp only [sSkip, runB, sSeq, sRet, sIf, eVar, eC, eBin, eL, aNil, aCons, eTest, bAnd, eChain, asB, R.ok_bind, List.map_cons, List.map_nil, List.length_cons, List.length_nil, List.replicate_zero, List.cons_append, List.nil_append, List.getElem?_cons_zero, List.getElem?_cons_succ, Nat.reduceAdd, Nat.reduceSub, Nat.zero_add, ev_lt, ev_le, if_true, hlen, e0, e1, hx, hs, hin]
      · rw [inS_one, decide_eq_false h2] at hin
        refine ⟨d, ?_, dk⟩
        simp only [sSkip, runB, sSeq, sRet, sIf, eVar, eC, eBin, eL, aNil, aCons, eTest, bAnd, eChain, asB, R.ok_bind, List.map_cons, List.map_nil, List.length_cons, List.length_nil, List.replicate_zero, List.cons_append, List.nil_append, List.getElem?_cons_zero, List.getElem?_cons_succ, Nat.reduceAdd, Nat.reduceSub, Nat.zero_add, ev_add, ev_lt, ev_le, if_true, if_false, Bool.false_eq_true, hlen, e0, e1, hx, hs, hin, ev_mulR b0 b1, fd, m3, hd]
    · have e1 : decide (p < ((cs.length : Nat) : Int)) = false := decide_eq_false h1
      refine ⟨d, ?_, dk⟩
      generalize ((cs.length : Nat) : Int) = l at *
      simp only [sSkip, runB, sSeq, sRet, sIf, eVar, eC, eBin, eL, aNil, aCons, eTest, bAnd, eChain, asB, R.ok_bind, List.map_cons, List.map_nil, List.length_cons, List.length_nil, List.replicate_zero, List.cons_append, List.nil_append, List.getElem?_cons_zero, List.getElem?_cons_succ, Nat.reduceAdd, Nat.reduceSub, Nat.zero_add, ev_add, ev_lt, ev_le, if_true, if_false, Bool.false_eq_true, hlen, e0, e1, ev_mulR b0 b1, fd, m3, hd]
  · have e0 : decide (0 <= p) = false := decide_eq_false h0
    refine ⟨d, ?_, dk⟩
    generalize ((cs.length : Nat) : Int) = l at *
    simp only [sSkip, runB, sSeq, sRet, sIf, eVar, eC, eBin, eL, aNil, aCons, eTest, bAnd, eChain, asB, R.ok_bind, List.map_cons, List.map_nil, List.length_cons, List.length_nil, List.replicate_zero, List.cons_append, List.nil_append, List.getElem?_cons_zero, List.getElem?_cons_succ, Nat.reduceAdd, Nat.reduceSub, Nat.zero_add, ev_add, ev_lt, ev_le, if_false, Bool.false_eq_true, hlen, e0, ev_mulR b0 b1, fd, m3, hd]
theorem letter_by (n p : Int) (cs : List Nat) (hc : ∀ c ∈ cs, c < 128) (hl : cs.length <= 40) (p0 : -100 <= p) (p1 : p <= 100) : ∃ c, F__law_letter_by [.int n, .str (S cs), .int p] = .ok (.str (one c)) /\ c ∈ AZ.cps.toList := letter_g AZ ABC (fun _ h => h) abc_ok abc_len n p cs hc hl p0 p1
theorem at_one (cs : List Nat) (c i : Nat) : StrLaws.At (S cs) (one c) (S cs).length i ↔ cs[i]? = some c := by
  unfold StrLaws.At
  have h1 : (one c).length = 1 := rfl
  rw [h1, S_len]
  unfold Builtin.Str.subAt
  have h2 : (one c).cps = #[c] := rfl
  have h3 : (S cs).cps = cs.toArray := rfl
  rw [h1, h2, h3]
  constructor
  · rintro ⟨a, b⟩
    have b := eq_of_beq b
    have := congrArg (fun z : Array Nat => z[0]?) b
    simp at this
    exact this
  · intro h
    have hi : i < cs.length := (List.getElem?_eq_some_iff.mp h).1
    refine ⟨by lia, ?_⟩
    rw [beq_iff_eq]
    apply Array.ext'
    simp
    rw [List.getElem?_eq_getElem hi] at h
    cases h
    rw [List.drop_eq_getElem_cons hi]
    rfl
theorem find_at (A B : List Nat) (m : Nat) (h : m ∉ A) : Txt.find (S (A ++ m :: B)) (one m) = (A.length : Nat) := by
  unfold Txt.find
  rcases StrLaws.occ_head (S (A ++ m :: B)) (one m) 1 (Nat.le_refl _) with ⟨e, hn⟩ | ⟨i, r, e, ha, hn⟩
  · exact absurd ((at_one _ _ A.length).mpr (by simp)) (hn A.length)
  · rw [e]
    have h1 := (at_one _ _ _).mp ha
    have h2 : ¬ A.length < i := fun z => hn A.length z ((at_one _ _ _).mpr (by simp))
    have h3 : ¬ i < A.length := fun z => by
      rw [List.getElem?_append_left z] at h1
      exact h (List.mem_of_getElem? h1)
    have : i = A.length := by lia
    rw [this]
theorem find_no (l : List Nat) (c : Nat) (h : c ∉ l) : Txt.find (S l) (one c) = -1 := by
  unfold Txt.find
  rcases StrLaws.occ_head (S l) (one c) 1 (Nat.le_refl _) with ⟨e, hn⟩ | ⟨i, r, e, ha, hn⟩
  · rw [e]
  · exact absurd (List.mem_of_getElem? ((at_one _ _ _).mp ha)) h
theorem strike (l : List Nat) (c : Nat) : Txt.replace (S l) (one c) ⟨#[]⟩ = S (l.filter (· != c)) := by
  rw [str_S (Txt.replace (S l) (one c) ⟨#[]⟩)]
  have := replace_strikes (S l) c
  rw [S_cps] at this
  have e : (⟨#[c]⟩ : Str) = one c := rfl
  rw [e] at this
  rw [this]
theorem filt_self {A : List Nat} {m : Nat} (h : m ∉ A) : A.filter (· != m) = A := by
  rw [List.filter_eq_self]
  intro a ha
  have : a ≠ m := fun z => h (z ▸ ha)
  simpa using this
structure Jt (A B : List Nat) (m : Nat) : Prop where
  mm : m = 45 \/ m = 61
  a1 : ∀ c ∈ A, c ≠ 45 /\ c ≠ 61
  b1 : ∀ c ∈ B, c ≠ 45 /\ c ≠ 61
  l1 : A.length + B.length <= 8
theorem mark_at (A B : List Nat) (m : Nat) (j : Jt A B m) : F_mark_at [.str (S (A ++ m :: B))] = .ok (.int (A.length : Nat)) := by
  have c1 : (one 45) = ("-" : Str) := rfl
  have c2 : (one 61) = ("=" : Str) := rfl
  have nA : ∀ c, (c = 45 \/ c = 61) -> c ∉ A := fun c hc h => by have := j.a1 c h; rcases hc with e | e <;> subst e <;> simp at this
  have nB : ∀ c, (c = 45 \/ c = 61) -> c ∉ B := fun c hc h => by have := j.b1 c h; rcases hc with e | e <;> subst e <;> simp at this
  have key : ∃ u v : Int, findD (S (A ++ m :: B)) [.str "-"] = .ok (.int u) /\ findD (S (A ++ m :: B)) [.str "="] = .ok (.int v) /\ max2D [.int u, .int v] = .ok (.int (A.length : Nat)) := by
    rcases j.mm with rfl | rfl
    · refine ⟨(A.length : Nat), -1, ?_, ?_, ?_⟩
      · show R.ok (D.int (Txt.find (S (A ++ 45 :: B)) (one 45))) = _
        rw [find_at A B 45 (nA 45 (.inl rfl))]
      · show R.ok (D.int (Txt.find (S (A ++ 45 :: B)) (one 61))) = _
        rw [find_no _ _ (by simp [nA 61 (.inr rfl), nB 61 (.inr rfl)])]
      · show R.ok (D.int (if ((A.length : Nat) : Int) < -1 then _ else _)) = _
        rw [if_neg (by lia)]
    · refine ⟨-1, (A.length : Nat), ?_, ?_, ?_⟩
      · show R.ok (D.int (Txt.find (S (A ++ 61 :: B)) (one 45))) = _
        rw [find_no _ _ (by simp [nA 45 (.inl rfl), nB 45 (.inl rfl)])]
      · show R.ok (D.int (Txt.find (S (A ++ 61 :: B)) (one 61))) = _
        rw [find_at A B 61 (nA 61 (.inr rfl))]
      · show R.ok (D.int (if (-1 : Int) < ((A.length : Nat) : Int) then _ else _)) = _
        rw [if_pos (by lia)]
  obtain ⟨u, v, h1, h2, h3⟩ := key
  generalize ((A.length : Nat) : Int) = l at *
  generalize S (A ++ m :: B) = J at *
  simp only [F_mark_at, t_mark_at, runB, sRet, eVar, eC, eL, aNil, aCons, R.ok_bind, List.map_cons, List.map_nil, List.length_cons, List.length_nil, List.replicate_zero, List.cons_append, List.nil_append, List.getElem?_cons_zero, Nat.reduceSub, Nat.zero_add, ev_eSm, ev_smD, h1, h2, h3]
theorem letters_of (A B : List Nat) (m : Nat) (j : Jt A B m) : F_letters_of [.str (S (A ++ m :: B))] = .ok (.str (S (A ++ B))) := by
  have nA : ∀ c, (c = 45 \/ c = 61) -> c ∉ A := fun c hc h => by have := j.a1 c h; rcases hc with e | e <;> subst e <;> simp at this
  have nB : ∀ c, (c = 45 \/ c = 61) -> c ∉ B := fun c hc h => by have := j.b1 c h; rcases hc with e | e <;> subst e <;> simp at this
  have r0 : ∀ (l : List Nat) (c : Nat), l.length <= 100 -> replD (one c) "" (.str (S l)) = .ok (.str (S (l.filter (· != c)))) := fun l c h => by
    show (if (S l).length <= 1048576 then R.ok (D.str (Txt.replace (S l) (one c) ⟨#[]⟩)) else R.bad) = _
    rw [if_pos (by rw [S_len]; lia), strike]
  have hl : (A ++ m :: B).length <= 100 := by have := j.l1; simp; lia
  have r1 := r0 (A ++ m :: B) 45 hl
  have r2 := r0 ((A ++ m :: B).filter (· != 45)) 61 (Nat.le_trans (List.length_filter_le _ _) hl)
  have ef : ((A ++ m :: B).filter (· != 45)).filter (· != 61) = A ++ B := by
    rw [List.filter_append, List.filter_append, filt_self (nA 45 (.inl rfl)), filt_self (nA 61 (.inr rfl))]
    rcases j.mm with rfl | rfl
    · rw [List.filter_cons_of_neg (by simp), filt_self (nB 45 (.inl rfl)), filt_self (nB 61 (.inr rfl))]
    · rw [List.filter_cons_of_pos (by simp), filt_self (nB 45 (.inl rfl)), List.filter_cons_of_neg (by simp), filt_self (nB 61 (.inr rfl))]
  rw [ef] at r2
  have c1 : (one 45) = ("-" : Str) := rfl
  have c2 : (one 61) = ("=" : Str) := rfl
  rw [c1] at r1
  rw [c2] at r2
  generalize S (A ++ m :: B) = J at *
  generalize S ((A ++ m :: B).filter (· != 45)) = J2 at *
  simp only [F_letters_of, t_letters_of, runB, sRet, eVar, eUn, R.ok_bind, List.map_cons, List.map_nil, List.length_cons, List.length_nil, List.replicate_zero, List.cons_append, List.nil_append, List.getElem?_cons_zero, Nat.reduceSub, Nat.zero_add, r1, r2]
end K04

set_option maxRecDepth 100000
set_option maxHeartbeats 4000000
namespace K04
open PySem PyProof.Rows L2
noncomputable def J0 : Tn -> R Fl := (sSet 2 (eBin addD (eC (.int 2)) (eBin modD (eVar 0) (eC (.int 3)))))
noncomputable def J1 : Tn -> R Fl := (sIf (eTest (eBin (eqR false) (eBin modD (eBin fdivD (eVar 0) (eC (.int 3))) (eC (.int 5))) (eC (.int 1)))) (sSet 2 (eBin addD (eC (.int 2)) (eBin modD (eBin fdivD (eVar 0) (eC (.int 15))) (eC (.int 7))))) sSkip)
noncomputable def J2 : Tn -> R Fl := (sSet 3 (eBin addD (eC (.int 1)) (eBin modD (eBin fdivD (eVar 0) (eC (.int 105))) (eBin subD (eVar 2) (eC (.int 1))))))
noncomputable def J3 : Tn -> R Fl := (sSet 4 (eBin modD (eBin fdivD (eVar 0) (eC (.int 21))) (eBin addD (eL lenD (aCons (eVar 1) aNil)) (eC (.int 1)))))
noncomputable def J4 : Tn -> R Fl := (sSet 5 (eComp [none, some 0, some 1, some 4, some 3] (iL rng1 (aCons (eVar 2) aNil)) (.one 0) (fun _ => .ok true) (eL F__law_letter_by (aCons (eVar 1) (aCons (eVar 2) (aCons (eBin addD (eBin subD (eVar 3) (eVar 4)) (eVar 0)) aNil))))))
noncomputable def J5 : Tn -> R Fl := (sIf (eTest (eBin (eqR false) (eBin modD (eBin fdivD (eVar 0) (eC (.int 29))) (eC (.int 5))) (eC (.int 1)))) (sSet 5 (eComp [none, some 0] (iL rng1 (aCons (eVar 2) aNil)) (.one 0) (fun _ => .ok true) (eBin ixD (eC (.str "ab")) (eBin modD (eBin fdivD (eVar 1) (eBin mulD (eC (.int 31)) (eBin addD (eC (.int 1)) (eVar 0)))) (eC (.int 2)))))) sSkip)
noncomputable def J6 : Tn -> R Fl := (sIf (eTest (eBin (eqR false) (eBin modD (eBin fdivD (eVar 0) (eC (.int 29))) (eC (.int 5))) (eC (.int 2)))) (sPut 5 (eBin ixD (eC (.str "abcz")) (eBin modD (eBin fdivD (eVar 0) (eC (.int 1160))) (eC (.int 4)))) (eBin modD (eBin fdivD (eVar 0) (eC (.int 145))) (eVar 2))) sSkip)
noncomputable def J7 : Tn -> R Fl := (sSet 6 (eBin ixD (eC (.str "-=")) (eBin fdivD (eBin modD (eBin fdivD (eVar 0) (eC (.int 37))) (eC (.int 5))) (eC (.int 3)))))
noncomputable def J8 : Tn -> R Fl := (sRet (eBin addD (eBin addD (eSm joinD (eC (.str "")) (aCons (eSl (eVar 5) oNone (oSome (eVar 3))) aNil)) (eVar 6)) (eSm joinD (eC (.str "")) (aCons (eSl (eVar 5) (oSome (eVar 3)) oNone) aNil))))
noncomputable def TJ : Tn -> R Fl := (sSeq J0 (sSeq J1 (sSeq J2 (sSeq J3 (sSeq J4 (sSeq J5 (sSeq J6 (sSeq J7 J8))))))))
theorem tJ : F__law_joint = runB 7 TJ := rfl
noncomputable def JE : Tn -> R D := (eL F__law_letter_by (aCons (eVar 1) (aCons (eVar 2) (aCons (eBin addD (eBin subD (eVar 3) (eVar 4)) (eVar 0)) aNil))))
noncomputable def JF : Tn -> R D := (eBin ixD (eC (.str "ab")) (eBin modD (eBin fdivD (eVar 1) (eBin mulD (eC (.int 31)) (eBin addD (eC (.int 1)) (eVar 0)))) (eC (.int 2))))
noncomputable def okL (c : Nat) : Prop := c ∈ AZ.cps.toList
noncomputable def enc1 (c : Nat) : D := .str (one c)
theorem cut_to {α : Type} {xs : List α} {b : Nat} (hb : b <= xs.length) : cutL xs none (some (b : Int)) = xs.take b := by
  unfold cutL
  rw [HT.sIx_nat, HT.sIx_none, Nat.min_eq_left hb]
  rfl
theorem cut_from {α : Type} {xs : List α} {a : Nat} (ha : a <= xs.length) : cutL xs (some (a : Int)) none = xs.drop a := by
  unfold cutL
  rw [HT.sIx_nat, HT.sIx_none, Nat.min_eq_left ha]
  exact List.take_of_length_le (by rw [List.length_drop]; lia)
theorem je_ok (n : Int) (cs : List Nat) (hc : ∀ c ∈ cs, c < 128) (hl : cs.length <= 40) (pl at_ : Int) (p0 : 0 <= pl) (p1 : pl <= 40) (a0 : 0 <= at_) (a1 : at_ <= 8) (i : Nat) (hi : i < 8) :
    ∃ c, compF (Tgt.one 0).asg (fun _ => .ok true) JE [none, some (.int n), some (.str (S cs)), some (.int pl), some (.int at_)] (.int ((0 : Int) + (i : Nat))) = .ok (some (enc1 c)) /\ okL c := by
  obtain ⟨c, e, hk⟩ := letter_by n (pl - at_ + ((0 : Int) + (i : Nat))) cs hc hl (by lia) (by lia)
  refine ⟨c, ?_, hk⟩
  show _ = R.ok (some (D.str (one c)))
  generalize (0 : Int) + ((i : Nat) : Int) = I at *
  simp only [compF, noErr_ok', JE, eVar, eBin, eL, aNil, aCons, Tgt.asg, R.ok_bind, List.getElem?_cons_zero, List.getElem?_cons_succ, List.set_cons_zero, ev_add, ev_sub, if_true, e]
noncomputable abbrev AB2 : Str := "ab"
theorem ab_len : AB2.length = 2 := by decide +kernel
theorem ab_ok : ∀ c ∈ AB2.cps.toList, okL c := by unfold okL; decide +kernel
theorem jf_g (A : Str) (lA : A.length = 2) (hA : ∀ c ∈ A.cps.toList, okL c) (n : Int) (i : Nat) (hi : i < 8) :
    ∃ c, compF (Tgt.one 0).asg (fun _ => .ok true) (eBin ixD (eC (.str A)) (eBin modD (eBin fdivD (eVar 1) (eBin mulD (eC (.int 31)) (eBin addD (eC (.int 1)) (eVar 0)))) (eC (.int 2)))) [none, some (.int n)] (.int ((0 : Int) + (i : Nat))) = .ok (some (enc1 c)) /\ okL c := by
  have h0 : 0 <= (0 : Int) + (i : Nat) /\ (0 : Int) + (i : Nat) < 8 := by lia
  generalize (0 : Int) + ((i : Nat) : Int) = I at *
  have fd : fdivD (.int n) (.int (31 * (1 + I))) = .ok (.int (n / (31 * (1 + I)))) := ev_fdiv (by lia) (by lia)
  have m2 : modD (.int (n / (31 * (1 + I)))) (.int 2) = .ok (.int (n / (31 * (1 + I)) % 2)) := ev_mod (by decide)
  obtain ⟨c, e, hk⟩ := pickS (z := A) (i := n / (31 * (1 + I)) % 2) (p := okL) (by lia) (by lia) (by lia) hA
  refine ⟨c, ?_, hk⟩
  show _ = R.ok (some (D.str (one c)))
  simp only [compF, noErr_ok', eVar, eC, eBin, Tgt.asg, R.ok_bind, List.getElem?_cons_zero, List.getElem?_cons_succ, List.set_cons_zero, ev_add, if_true, Int.reduceLT, Int.reduceNeg, ev_mulL, fd, m2, e]
theorem jf_ok (n : Int) (i : Nat) (hi : i < 8) : ∃ c, compF (Tgt.one 0).asg (fun _ => .ok true) JF [none, some (.int n)] (.int ((0 : Int) + (i : Nat))) = .ok (some (enc1 c)) /\ okL c := jf_g AB2 ab_len ab_ok n i hi
theorem comp_ok {f : D -> R (Option D)} (h : ∀ i : Nat, i < 8 -> ∃ c, f (.int ((0 : Int) + (i : Nat))) = .ok (some (enc1 c)) /\ okL c) (m : Nat) (hm : m <= 8) : ∃ ls : List Nat, compL f (rng 0 m) = .ok (ls.map enc1) /\ ls.length = m /\ ∀ c ∈ ls, okL c := by
  have ch : ∀ i : Nat, ∃ c, i < 8 -> (f (.int ((0 : Int) + (i : Nat))) = .ok (some (enc1 c)) /\ okL c) := fun i => by
    by_cases hi : i < 8
    · obtain ⟨c, hc⟩ := h i hi; exact ⟨c, fun _ => hc⟩
    · exact ⟨0, fun z => absurd z hi⟩
  have hc := compL_rng (f := f) (lo := 0) (n := m) (o := fun i => some (enc1 (Classical.choose (ch i)))) fun i hi => (Classical.choose_spec (ch i) (by omega)).1
  rw [fm_some] at hc
  refine ⟨(List.range m).map fun i => Classical.choose (ch i), by rw [hc, List.map_map]; rfl, by simp, fun c hcm => ?_⟩
  obtain ⟨i, hi, rfl⟩ := List.mem_map.mp hcm
  exact (Classical.choose_spec (ch i) (by have := List.mem_range.mp hi; omega)).2
theorem enc_imms (ls : List Nat) : D.imms (ls.map enc1) = true := imms_map (fun _ => rfl) ls
noncomputable abbrev ABCZ : Str := "abcz"
theorem abcz_len : ABCZ.length = 4 := by decide +kernel
theorem abcz_ok : ∀ c ∈ ABCZ.cps.toList, okL c := by unfold okL; decide +kernel
noncomputable abbrev MKS : Str := "-="
theorem mks_len : MKS.length = 2 := by decide +kernel
theorem mks_ok : ∀ c ∈ MKS.cps.toList, c = 45 \/ c = 61 := by decide +kernel
theorem g01 (n : Int) (w : D) : ∃ sz : Int, 2 <= sz /\ sz <= 8 /\ (sSeq J0 J1) [some (.int n), some w, none, none, none, none, none] = .ok (.nx [some (.int n), some w, some (.int sz), none, none, none, none]) := by
  have d3 : fdivD (.int n) (.int 3) = .ok (.int (n / 3)) := ev_fdiv (by decide) (by decide)
  have d15 : fdivD (.int n) (.int 15) = .ok (.int (n / 15)) := ev_fdiv (by decide) (by decide)
  have m3 : modD (.int n) (.int 3) = .ok (.int (n % 3)) := ev_mod (by decide)
  have m5 : modD (.int (n / 3)) (.int 5) = .ok (.int (n / 3 % 5)) := ev_mod (by decide)
  have m7 : modD (.int (n / 15)) (.int 7) = .ok (.int (n / 15 % 7)) := ev_mod (by decide)
  by_cases hq : n / 3 % 5 = 1
  · have z : (n / 3 % 5 == 1) = true := beq_iff_eq.mpr hq
    refine ⟨2 + n / 15 % 7, by lia, by lia, ?_⟩
    simp only [J0, J1, sSkip, sSeq, sSet, sIf, eVar, eC, eBin, eTest, asB, R.ok_bind, List.getElem?_cons_zero, List.set_cons_zero, List.set_cons_succ, ev_add, ev_eqi, if_true, if_false, Bool.false_eq_true, d3, d15, m3, m5, m7, z]
  · have z : (n / 3 % 5 == 1) = false := beq_false_of_ne hq
    refine ⟨2 + n % 3, by lia, by lia, ?_⟩
    simp only [J0, J1, sSkip, sSeq, sSet, sIf, eVar, eC, eBin, eTest, asB, R.ok_bind, List.getElem?_cons_zero, List.set_cons_zero, List.set_cons_succ, ev_add, ev_mod, ev_fdiv, ev_eqi, if_false, Bool.false_eq_true, Int.reduceLT, d3, m3, m5, z]
theorem g23 (n sz : Int) (cs : List Nat) (hl : cs.length <= 40) (s0 : 2 <= sz) (s1 : sz <= 8) : ∃ at_ pl : Int, 1 <= at_ /\ at_ < sz /\ 0 <= pl /\ pl <= 40 /\ (sSeq J2 J3) [some (.int n), some (.str (S cs)), some (.int sz), none, none, none, none] = .ok (.nx [some (.int n), some (.str (S cs)), some (.int sz), some (.int at_), some (.int pl), none, none]) := by
  have hlen : lenD [.str (S cs)] = .ok (.int (cs.length : Nat)) := by rw [ev_lens (by rw [S_len, sizeLine_eq]; lia), S_len]
  have d1 : fdivD (.int n) (.int 105) = .ok (.int (n / 105)) := ev_fdiv (by decide) (by decide)
  have d2 : fdivD (.int n) (.int 21) = .ok (.int (n / 21)) := ev_fdiv (by decide) (by decide)
  have m1 : modD (.int (n / 105)) (.int (sz - 1)) = .ok (.int (n / 105 % (sz - 1))) := ev_mod (by lia)
  have m2 : modD (.int (n / 21)) (.int ((cs.length : Nat) + 1)) = .ok (.int (n / 21 % ((cs.length : Nat) + 1))) := ev_mod (by lia)
  have b1 := Int.emod_nonneg (n / 105) (b := sz - 1) (by lia)
  have b2 := Int.emod_lt_of_pos (n / 105) (b := sz - 1) (by lia)
  have b3 := Int.emod_nonneg (n / 21) (b := (cs.length : Nat) + 1) (by lia)
  have b4 := Int.emod_lt_of_pos (n / 21) (b := (cs.length : Nat) + 1) (by lia)
  refine ⟨1 + n / 105 % (sz - 1), n / 21 % ((cs.length : Nat) + 1), by lia, by lia, b3, by lia, ?_⟩
  generalize ((cs.length : Nat) : Int) = l at *
  generalize S cs = w at *
  simp only [J2, J3, sSeq, sSet, eVar, eC, eBin, eL, aNil, aCons, R.ok_bind, List.getElem?_cons_zero, List.getElem?_cons_succ, List.set_cons_zero, List.set_cons_succ, ev_add, ev_sub, hlen, d1, d2, m1, m2]
theorem g4 (n sz at_ pl : Int) (cs : List Nat) (hc : ∀ c ∈ cs, c < 128) (hl : cs.length <= 40) (s0 : 2 <= sz) (s1 : sz <= 8) (a0 : 1 <= at_) (a1 : at_ < sz) (p0 : 0 <= pl) (p1 : pl <= 40) : ∃ ls : List Nat, (ls.length : Int) = sz /\ (∀ c ∈ ls, okL c) /\ J4 [some (.int n), some (.str (S cs)), some (.int sz), some (.int at_), some (.int pl), none, none] = .ok (.nx [some (.int n), some (.str (S cs)), some (.int sz), some (.int at_), some (.int pl), some (.lst (ls.map enc1)), none]) := by
  obtain ⟨ls, h1, h2, h3⟩ := comp_ok (f := compF (Tgt.one 0).asg (fun _ => .ok true) JE [none, some (.int n), some (.str (S cs)), some (.int pl), some (.int at_)]) (fun i hi => je_ok n cs hc hl pl at_ p0 p1 (by lia) (by lia) i hi) sz.toNat (by lia)
  have e1 : rng1 [D.int sz] = .ok (rng 0 sz.toNat) := ev_rng1 (by lia) (by lia)
  have hk := ev_lstD (ys := ls.map enc1) (by rw [List.length_map]; lia)
  refine ⟨ls, by lia, h3, ?_⟩
  have eJ : J4 = sSet 5 (eComp [none, some 0, some 1, some 4, some 3] (iL rng1 (aCons (eVar 2) aNil)) (.one 0) (fun _ => .ok true) JE) := rfl
  rw [eJ]
  generalize ls.map enc1 = L at *
  generalize sz.toNat = m at *
  generalize S cs = w at *
  simp only [ev_eComp, ev_ctN, ev_ctO, ev_ctS, ev_join, sSet, eVar, aNil, aCons, iL, R.ok_bind, List.getElem?_cons_zero, List.getElem?_cons_succ, List.set_cons_zero, List.set_cons_succ, e1, h1, hk]
theorem g5 (n sz : Int) (w a b : Option D) (ls : List Nat) (hls : (ls.length : Int) = sz) (ho : ∀ c ∈ ls, okL c) (s0 : 2 <= sz) (s1 : sz <= 8) : ∃ ls' : List Nat, (ls'.length : Int) = sz /\ (∀ c ∈ ls', okL c) /\ J5 [some (.int n), w, some (.int sz), a, b, some (.lst (ls.map enc1)), none] = .ok (.nx [some (.int n), w, some (.int sz), a, b, some (.lst (ls'.map enc1)), none]) := by
  have d1 : fdivD (.int n) (.int 29) = .ok (.int (n / 29)) := ev_fdiv (by decide) (by decide)
  have m1 : modD (.int (n / 29)) (.int 5) = .ok (.int (n / 29 % 5)) := ev_mod (by decide)
  have eJ : J5 = sIf (eTest (eBin (eqR false) (eBin modD (eBin fdivD (eVar 0) (eC (.int 29))) (eC (.int 5))) (eC (.int 1)))) (sSet 5 (eComp [none, some 0] (iL rng1 (aCons (eVar 2) aNil)) (.one 0) (fun _ => .ok true) JF)) sSkip := rfl
  rw [eJ]
  by_cases hq : n / 29 % 5 = 1
  · have z : (n / 29 % 5 == 1) = true := beq_iff_eq.mpr hq
    obtain ⟨ls', h1, h2, h3⟩ := comp_ok (f := compF (Tgt.one 0).asg (fun _ => .ok true) JF [none, some (.int n)]) (fun i hi => jf_ok n i hi) sz.toNat (by lia)
    have e1 : rng1 [D.int sz] = .ok (rng 0 sz.toNat) := ev_rng1 (by lia) (by lia)
    have hk := ev_lstD (ys := ls'.map enc1) (by rw [List.length_map]; lia)
    refine ⟨ls', by lia, h3, ?_⟩
    generalize ls'.map enc1 = L at *
    generalize ls.map enc1 = L0 at *
    generalize sz.toNat = m at *
    simp only [ev_eComp, ev_ctN, ev_ctO, ev_ctS, ev_join, sSkip, sSet, sIf, eVar, eC, eBin, aNil, aCons, eTest, iL, asB, R.ok_bind, List.getElem?_cons_zero, List.getElem?_cons_succ, List.set_cons_zero, List.set_cons_succ, ev_eqi, if_true, if_false, Bool.false_eq_true, d1, m1, z, e1, h1, hk]
  · have z : (n / 29 % 5 == 1) = false := beq_false_of_ne hq
    refine ⟨ls, hls, ho, ?_⟩
    generalize ls.map enc1 = L0 at *
    simp only [ev_eComp, ev_ctN, ev_ctO, ev_ctS, ev_join, sSkip, sSet, sIf, eVar, eC, eBin, aNil, aCons, eTest, iL, asB, R.ok_bind, List.getElem?_cons_zero, List.getElem?_cons_succ, List.set_cons_zero, List.set_cons_succ, ev_eqi, if_false, Bool.false_eq_true, d1, m1, z]
theorem g6_g (A : Str) (lA : A.length = 4) (hA : ∀ c ∈ A.cps.toList, okL c) (n sz : Int) (w a b : Option D) (ls : List Nat) (hls : (ls.length : Int) = sz) (ho : ∀ c ∈ ls, okL c) (s0 : 2 <= sz) (s1 : sz <= 8) : ∃ ls' : List Nat, (ls'.length : Int) = sz /\ (∀ c ∈ ls', okL c) /\ (sIf (eTest (eBin (eqR false) (eBin modD (eBin fdivD (eVar 0) (eC (.int 29))) (eC (.int 5))) (eC (.int 2)))) (sPut 5 (eBin ixD (eC (.str A)) (eBin modD (eBin fdivD (eVar 0) (eC (.int 1160))) (eC (.int 4)))) (eBin modD (eBin fdivD (eVar 0) (eC (.int 145))) (eVar 2))) sSkip) [some (.int n), w, some (.int sz), a, b, some (.lst (ls.map enc1)), none] = .ok (.nx [some (.int n), w, some (.int sz), a, b, some (.lst (ls'.map enc1)), none]) := by
  have d1 : fdivD (.int n) (.int 29) = .ok (.int (n / 29)) := ev_fdiv (by decide) (by decide)
  have m1 : modD (.int (n / 29)) (.int 5) = .ok (.int (n / 29 % 5)) := ev_mod (by decide)
  by_cases hq : n / 29 % 5 = 2
  · have z : (n / 29 % 5 == 2) = true := beq_iff_eq.mpr hq
    have d2 : fdivD (.int n) (.int 1160) = .ok (.int (n / 1160)) := ev_fdiv (by decide) (by decide)
    have d3 : fdivD (.int n) (.int 145) = .ok (.int (n / 145)) := ev_fdiv (by decide) (by decide)
    have m2 : modD (.int (n / 1160)) (.int 4) = .ok (.int (n / 1160 % 4)) := ev_mod (by decide)
    have m3 : modD (.int (n / 145)) (.int sz) = .ok (.int (n / 145 % sz)) := ev_mod (by lia)
    have b1 := Int.emod_nonneg (n / 145) (b := sz) (by lia)
    have b2 := Int.emod_lt_of_pos (n / 145) (b := sz) (by lia)
    obtain ⟨c, e, hk⟩ := pickS (z := A) (i := n / 1160 % 4) (p := okL) (by lia) (by lia) (by lia) hA
    refine ⟨ls.set (n / 145 % sz).toNat c, by rw [List.length_set]; exact hls, fun x hx => ?_, ?_⟩
    · rcases List.mem_or_eq_of_mem_set hx with z | z
      · exact ho x z
      · rw [z]; exact hk
    · have hset : setD (ls.map enc1) (n / 145 % sz) (.str (one c)) = .ok (.lst ((ls.set (n / 145 % sz).toNat c).map enc1)) := by
        have hx : ixN (ls.map enc1).length (n / 145 % sz) = some (n / 145 % sz).toNat := by
          unfold ixN
          rw [if_pos b1, if_pos (by rw [List.length_map]; lia)]
        unfold setD
        rw [hx]
        show R.ok (D.lst ((ls.map enc1).set _ (enc1 c))) = _
        rw [List.map_set]
      generalize ls.map enc1 = L0 at *
      generalize (ls.set (n / 145 % sz).toNat c).map enc1 = L1 at *
      generalize n / 145 % sz = k at *
      generalize n / 1160 % 4 = k2 at *
      simp only [sSkip, sIf, eVar, eC, eBin, eTest, asB, R.ok_bind, List.getElem?_cons_zero, List.getElem?_cons_succ, List.set_cons_zero, List.set_cons_succ, ev_eqi, if_true, if_false, Bool.false_eq_true, d1, m1, z, sPut, d2, d3, m2, m3, e, hset]
  · have z : (n / 29 % 5 == 2) = false := beq_false_of_ne hq
    refine ⟨ls, hls, ho, ?_⟩
    generalize ls.map enc1 = L0 at *
    simp only [sSkip, sIf, eVar, eC, eBin, eTest, asB, R.ok_bind, List.getElem?_cons_zero, ev_eqi, if_false, Bool.false_eq_true, d1, m1, z]
theorem g6 (n sz : Int) (w a b : Option D) (ls : List Nat) (hls : (ls.length : Int) = sz) (ho : ∀ c ∈ ls, okL c) (s0 : 2 <= sz) (s1 : sz <= 8) : ∃ ls' : List Nat, (ls'.length : Int) = sz /\ (∀ c ∈ ls', okL c) /\ J6 [some (.int n), w, some (.int sz), a, b, some (.lst (ls.map enc1)), none] = .ok (.nx [some (.int n), w, some (.int sz), a, b, some (.lst (ls'.map enc1)), none]) := g6_g ABCZ abcz_len abcz_ok n sz w a b ls hls ho s0 s1
theorem g7_g (A : Str) (lA : A.length = 2) (hA : ∀ c ∈ A.cps.toList, c = 45 \/ c = 61) (n : Int) (w a b c d : Option D) : ∃ m : Nat, (m = 45 \/ m = 61) /\ (sSet 6 (eBin ixD (eC (.str A)) (eBin fdivD (eBin modD (eBin fdivD (eVar 0) (eC (.int 37))) (eC (.int 5))) (eC (.int 3))))) [some (.int n), w, a, b, c, d, none] = .ok (.nx [some (.int n), w, a, b, c, d, some (.str (one m))]) := by
  have d1 : fdivD (.int n) (.int 37) = .ok (.int (n / 37)) := ev_fdiv (by decide) (by decide)
  have m1 : modD (.int (n / 37)) (.int 5) = .ok (.int (n / 37 % 5)) := ev_mod (by decide)
  have d3 : fdivD (.int (n / 37 % 5)) (.int 3) = .ok (.int (n / 37 % 5 / 3)) := ev_fdiv (by decide) (by decide)
  obtain ⟨m, e, hk⟩ := pickS (z := A) (i := n / 37 % 5 / 3) (p := fun c => c = 45 \/ c = 61) (by lia) (by lia) (by lia) hA
  refine ⟨m, hk, ?_⟩
  generalize n / 37 % 5 / 3 = y at *
  simp only [sSet, eVar, eC, eBin, R.ok_bind, List.getElem?_cons_zero, List.set_cons_zero, List.set_cons_succ, d1, m1, d3, e]
theorem g7 (n : Int) (w a b c d : Option D) : ∃ m : Nat, (m = 45 \/ m = 61) /\ J7 [some (.int n), w, a, b, c, d, none] = .ok (.nx [some (.int n), w, a, b, c, d, some (.str (one m))]) := g7_g MKS mks_len mks_ok n w a b c d
theorem g8 (at_ : Int) (ls : List Nat) (m : Nat) (n w a c : Option D) (a0 : 1 <= at_) (a1 : at_ < (ls.length : Nat)) (hl : ls.length <= 8) : J8 [n, w, a, some (.int at_), c, some (.lst (ls.map enc1)), some (.str (one m))] = .ok (.rt (.str (S (ls.take at_.toNat ++ m :: ls.drop at_.toNat)))) := by
  have ea : at_ = ((at_.toNat : Nat) : Int) := by lia
  have hta : at_.toNat <= ls.length := by lia
  have c1 : slD (.lst (ls.map enc1)) none (some at_) = .ok (.lst ((ls.take at_.toNat).map enc1)) := by
    rw [ev_slL (enc_imms ls), ea, cut_to (by rw [List.length_map]; lia), List.map_take]
    rfl
  have c2 : slD (.lst (ls.map enc1)) (some at_) none = .ok (.lst ((ls.drop at_.toNat).map enc1)) := by
    rw [ev_slL (enc_imms ls), ea, cut_from (by rw [List.length_map]; lia), List.map_drop]
    rfl
  have l1 : (ls.take at_.toNat).length <= 8 := by rw [List.length_take]; lia
  have l2 : (ls.drop at_.toNat).length <= 8 := by rw [List.length_drop]; lia
  have j1 : joinD "" [.lst ((ls.take at_.toNat).map enc1)] = .ok (.str (S (ls.take at_.toNat))) := join_ok _ (by lia)
  have j2 : joinD "" [.lst ((ls.drop at_.toNat).map enc1)] = .ok (.str (S (ls.drop at_.toNat))) := join_ok _ (by lia)
  have p1 : addD (.str (S (ls.take at_.toNat))) (.str (one m)) = .ok (.str (S (ls.take at_.toNat ++ [m]))) := by
    rw [ev_adds (by rw [S_len, sizeLine_eq]; show _ + 1 <= _; lia)]
    show R.ok (D.str (S _ ++ S [m])) = _
    rw [S_app]
  have p2 : addD (.str (S (ls.take at_.toNat ++ [m]))) (.str (S (ls.drop at_.toNat))) = .ok (.str (S (ls.take at_.toNat ++ m :: ls.drop at_.toNat))) := by
    rw [ev_adds (by rw [S_len, S_len, sizeLine_eq, List.length_append]; show _ + 1 + _ <= _; lia), S_app, List.append_assoc]
    rfl
  generalize (ls.take at_.toNat).map enc1 = L1 at *
  generalize (ls.drop at_.toNat).map enc1 = L2 at *
  generalize ls.map enc1 = L0 at *
  generalize S (ls.take at_.toNat) = X1 at *
  generalize S (ls.take at_.toNat ++ [m]) = X2 at *
  generalize S (ls.drop at_.toNat) = X3 at *
  generalize S (ls.take at_.toNat ++ m :: ls.drop at_.toNat) = X4 at *
  simp only [J8, sRet, eVar, eC, eBin, aNil, aCons, eSl, oNone, oSome, R.ok_bind, List.getElem?_cons_zero, List.getElem?_cons_succ, ev_eSm, ev_smD, c1, c2, j1, j2, p1, p2]
theorem joint_g (n : D) (w : D) (r : D) (τ1 τ2 τ3 τ4 τ5 τ6 : Tn) (h1 : (sSeq J0 J1) [some n, some w, none, none, none, none, none] = .ok (.nx τ1)) (h2 : (sSeq J2 J3) τ1 = .ok (.nx τ2)) (h3 : J4 τ2 = .ok (.nx τ3)) (h4 : J5 τ3 = .ok (.nx τ4)) (h5 : J6 τ4 = .ok (.nx τ5)) (h6 : J7 τ5 = .ok (.nx τ6)) (h7 : J8 τ6 = .ok (.rt r)) : runB 7 TJ [n, w] = .ok r := by
  have k1 : ∃ τ0, J0 [some n, some w, none, none, none, none, none] = .ok (.nx τ0) /\ J1 τ0 = .ok (.nx τ1) := by
    unfold sSeq at h1
    cases e : J0 [some n, some w, none, none, none, none, none] with
    | ok f => rw [e, R.ok_bind] at h1; cases f with
      | nx τ => exact ⟨τ, rfl, h1⟩
      | _ => cases h1
    | err m => rw [e] at h1; cases h1
    | bad => rw [e] at h1; cases h1
  have k2 : ∃ τ0, J2 τ1 = .ok (.nx τ0) /\ J3 τ0 = .ok (.nx τ2) := by
    unfold sSeq at h2
    cases e : J2 τ1 with
    | ok f => rw [e, R.ok_bind] at h2; cases f with
      | nx τ => exact ⟨τ, rfl, h2⟩
      | _ => cases h2
    | err m => rw [e] at h2; cases h2
    | bad => rw [e] at h2; cases h2
  obtain ⟨u0, a1, a2⟩ := k1
  obtain ⟨u1, a3, a4⟩ := k2
  simp only [TJ, runB, sSeq, R.ok_bind, List.map_cons, List.map_nil, List.length_cons, List.length_nil, List.replicate_succ, List.replicate_zero, List.cons_append, List.nil_append, Nat.reduceAdd, Nat.reduceSub, Nat.zero_add, a1, a2, a3, a4, h3, h4, h5, h6, h7]
theorem joint (n : Int) (cs : List Nat) (hc : ∀ c ∈ cs, c < 128) (hl : cs.length <= 40) : ∃ (A B : List Nat) (m : Nat), F__law_joint [.int n, .str (S cs)] = .ok (.str (S (A ++ m :: B))) /\ Jt A B m /\ 0 < A.length /\ 0 < B.length /\ (∀ c ∈ A ++ B, okL c) := by
  obtain ⟨sz, s0, s1, h1⟩ := g01 n (.str (S cs))
  obtain ⟨at_, pl, a0, a1, p0, p1, h2⟩ := g23 n sz cs hl s0 s1
  obtain ⟨ls1, l1, o1, h3⟩ := g4 n sz at_ pl cs hc hl s0 s1 a0 a1 p0 p1
  obtain ⟨ls2, l2, o2, h4⟩ := g5 n sz (some (.str (S cs))) (some (.int at_)) (some (.int pl)) ls1 l1 o1 s0 s1
  obtain ⟨ls3, l3, o3, h5⟩ := g6 n sz (some (.str (S cs))) (some (.int at_)) (some (.int pl)) ls2 l2 o2 s0 s1
  obtain ⟨m, hm, h6⟩ := g7 n (some (.str (S cs))) (some (.int sz)) (some (.int at_)) (some (.int pl)) (some (.lst (ls3.map enc1)))
  have h7 := g8 at_ ls3 m (some (.int n)) (some (.str (S cs))) (some (.int sz)) (some (.int pl)) a0 (by lia) (by lia)
  refine ⟨ls3.take at_.toNat, ls3.drop at_.toNat, m, ?_, ⟨hm, fun c h => az_ok c (o3 c (List.mem_of_mem_take h)), fun c h => az_ok c (o3 c (List.mem_of_mem_drop h)), by rw [List.length_take, List.length_drop]; lia⟩, by rw [List.length_take]; lia, by rw [List.length_drop]; lia, fun c h => o3 c (by rw [List.take_append_drop] at h; exact h)⟩
  rw [tJ]
  exact joint_g _ _ _ _ _ _ _ _ _ h1 h2 h3 h4 h5 h6 h7
end K04

set_option maxRecDepth 100000
set_option maxHeartbeats 4000000
namespace K04
open PySem PyProof.Rows L2
noncomputable def MC : Tn -> R Bool := (eTest (eBin inSD (eBin ixD (eVar 1) (eVar 0)) (eC (.str "-="))))
noncomputable def TMK : Tn -> R Fl := (sRet (eImm (eBin ixD (eComp [none, some 0] (iL rng1 (aCons (eL lenD (aCons (eVar 0) aNil)) aNil)) (.one 0) MC (eVar 0)) (eC (.int 0)))))
theorem tMK : F__law_mark = runB 1 TMK := rfl
theorem idx_len {a b n : Nat} (hab : a <= b) (hb : b <= n) : (Builtin.Str.strSliceIndices (some (a : Int)) (some (b : Int)) 1 n).length = b - a := by
  rw [StrLaws.strSliceIndices_plain hab hb]; simp
theorem idx_clip (a b n : Nat) : Builtin.Str.strSliceIndices (some (a : Int)) (some (b : Int)) 1 n = Builtin.Str.strSliceIndices (some (a : Int)) (some ((min b n : Nat) : Int)) 1 n := by
  have h1 : ¬ ((a : Int) < 0) := by omega
  have h2 : ¬ ((b : Int) < 0) := by omega
  have h3 : ¬ (((min b n : Nat) : Int) < 0) := by omega
  have e : max (0 : Int) (min (b : Int) (n : Int)) = max (0 : Int) (min ((min b n : Nat) : Int) (n : Int)) := by omega
  simp only [Builtin.Str.strSliceIndices, h1, h2, h3, if_false, e, show ((1 : Int) > 0) = True from by simp, if_true]
theorem slice_ok (cs : List Nat) (b n : Nat) (hb : b <= cs.length) : Txt.slice (S cs) (some (b : Int)) (some ((b : Int) + (n : Nat))) = S ((cs.drop b).take n) := by
  have e0 : (b : Int) + (n : Nat) = ((b + n : Nat) : Int) := by lia
  have hle : b <= min (b + n) cs.length := by lia
  have hle2 : min (b + n) cs.length <= (S cs).length := by rw [S_len]; lia
  have hp := StrLaws.sliced_plain (S cs) hle hle2
  have hl := idx_len hle hle2
  rw [S_cps] at hp
  have et : (cs.drop b).take (min (b + n) cs.length - b) = (cs.drop b).take n := by
    by_cases h : b + n <= cs.length
    · congr 1; lia
    · rw [List.take_of_length_le (by rw [List.length_drop]; lia), List.take_of_length_le (by rw [List.length_drop]; lia)]
  rw [et] at hp
  unfold Txt.slice
  rw [e0, idx_clip, S_len]
  rw [S_len] at hp hl
  by_cases hw : (Builtin.Str.strSliceIndices (some (b : Int)) (some ((min (b + n) cs.length : Nat) : Int)) 1 cs.length).length = cs.length
  · rw [if_pos (by rw [hw]; simp)]
    rw [hl] at hw
    have hb0 : b = 0 := by lia
    subst hb0
    rw [List.drop_zero, List.take_of_length_le (by lia)]
  · rw [if_neg (by simp [hw]), hp]
    rfl
theorem lower_ok (l : List Nat) (h : ∀ c ∈ l, c < 128) : Txt.lower (S l) = S (l.map lo1) := by
  rw [lower_ascii (x := S l) (by rw [S_cps]; exact h)]
  show (⟨l.toArray.map lo1⟩ : Str) = ⟨(l.map lo1).toArray⟩
  rw [List.map_toArray]
noncomputable def fitB (L : List Nat) (a : Nat) (cs : List Nat) (p : Nat) : Bool := decide (a <= p) && decide (((cs.drop (p - a)).take L.length).map lo1 = L)
theorem len_S (l : List Nat) (h : l.length <= 1000) : lenD [.str (S l)] = .ok (.int (l.length : Nat)) := by rw [ev_lens (by rw [S_len, sizeLine_eq]; lia), S_len]
theorem sm0 {g : Str -> R D} {t : Tn -> R D} {τ : Tn} {z : Str} (h : t τ = .ok (.str z)) : eSm0 g t τ = g z := by unfold eSm0; rw [h, R.ok_bind]
theorem fits (A B : List Nat) (m : Nat) (j : Jt A B m) (cs : List Nat) (hc : ∀ c ∈ cs, c < 128) (hl : cs.length <= 40) (p : Nat) (hp : p <= cs.length) : F_fits [.str (S (A ++ m :: B)), .str (S cs), .int (p : Nat)] = .ok (.bl (fitB (A ++ B) A.length cs p)) := by
  have h1 := letters_of A B m j
  have h2 := mark_at A B m j
  have hL : (A ++ B).length <= 8 := by rw [List.length_append]; exact j.l1
  have h3 := len_S (A ++ B) (by lia)
  have hAB : A.length <= (A ++ B).length := by rw [List.length_append]; lia
  unfold fitB
  generalize A ++ B = L at *
  by_cases hq : A.length <= p
  · have e1 : decide ((0 : Int) <= ((p : Nat) : Int) - (A.length : Nat)) = true := decide_eq_true (by lia)
    have eb : ((p : Nat) : Int) - (A.length : Nat) = ((p - A.length : Nat) : Int) := by lia
    have hs : slD (.str (S cs)) (some (((p : Nat) : Int) - (A.length : Nat))) (some (((p : Nat) : Int) - (A.length : Nat) + (L.length : Nat))) = .ok (.str (S ((cs.drop (p - A.length)).take L.length))) := by
      rw [eb]
      show (if (S cs).length <= sizeLine then _ else _) = _
      rw [if_pos (by rw [S_len, sizeLine_eq]; lia), slice_ok cs _ _ (by lia)]
    have hw : lowD (S ((cs.drop (p - A.length)).take L.length)) = .ok (.str (S (((cs.drop (p - A.length)).take L.length).map lo1))) := by
      show (if _ <= 5592405 then _ else _) = _
      rw [if_pos (by rw [S_len, List.length_take]; lia), lower_ok _ fun c h => hc c (List.mem_of_mem_drop (List.mem_of_mem_take h))]
    have he : eqR false (.str (S (((cs.drop (p - A.length)).take L.length).map lo1))) (.str (S L)) = .ok (.bl (decide (((cs.drop (p - A.length)).take L.length).map lo1 = L))) := by
      rw [ev_eqs, S_eq]; rfl
    rw [decide_eq_true hq, Bool.true_and]
    generalize (decide (((cs.drop (p - A.length)).take L.length).map lo1 = L)) = r at *
    generalize S (((cs.drop (p - A.length)).take L.length).map lo1) = X3 at *
    generalize S ((cs.drop (p - A.length)).take L.length) = X2 at *
    generalize ((L.length : Nat) : Int) = n at *
    generalize ((A.length : Nat) : Int) = a at *
    generalize ((p : Nat) : Int) = P at *
    generalize S (A ++ m :: B) = J at *
    generalize S cs = W at *
    generalize S L = LL at *
    have e5 : ∀ x0, eSm0 lowD (eSl (eVar 1) (oSome (eVar 4)) (oSome (eBin addD (eVar 4) (eL lenD (aCons (eVar 3) aNil))))) [x0, some (.str W), some (.int P), some (.str LL), some (.int (P - a))] = .ok (.str X3) := fun x0 => by
      rw [sm0 (z := X2) (by simp only [eVar, eBin, eL, aNil, aCons, eSl, oSome, R.ok_bind, List.getElem?_cons_zero, List.getElem?_cons_succ, ev_add, h3, hs]), hw]
    simp only [F_fits, t_fits, runB, sSeq, sSet, sRet, eVar, eC, eBin, eL, aNil, aCons, eAnd, asB, R.ok_bind, List.map_cons, List.map_nil, List.length_cons, List.length_nil, List.replicate_succ, List.replicate_zero, List.cons_append, List.nil_append, List.getElem?_cons_zero, List.getElem?_cons_succ, List.set_cons_zero, List.set_cons_succ, Nat.reduceAdd, Nat.reduceSub, Nat.zero_add, ev_sub, ev_ge, if_true, h1, h2, e1, e5, he]
  · have e1 : decide ((0 : Int) <= ((p : Nat) : Int) - (A.length : Nat)) = false := decide_eq_false (by lia)
    rw [decide_eq_false hq, Bool.false_and]
    generalize ((L.length : Nat) : Int) = n at *
    generalize ((A.length : Nat) : Int) = a at *
    generalize ((p : Nat) : Int) = P at *
    generalize S (A ++ m :: B) = J at *
    generalize S cs = W at *
    generalize S L = LL at *
    simp only [F_fits, t_fits, runB, sSeq, sSet, sRet, eVar, eC, eBin, eL, aNil, aCons, eAnd, asB, R.ok_bind, List.map_cons, List.map_nil, List.length_cons, List.length_nil, List.replicate_succ, List.replicate_zero, List.cons_append, List.nil_append, List.getElem?_cons_zero, List.getElem?_cons_succ, List.set_cons_zero, List.set_cons_succ, Nat.reduceAdd, Nat.reduceSub, Nat.zero_add, ev_sub, ev_ge, if_false, Bool.false_eq_true, h1, h2, e1]
theorem fm_one {β : Type} (f : Nat -> β) (a : Nat) : ∀ n, (List.range n).filterMap (fun i => if i = a then some (f i) else none) = if a < n then [f a] else []
  | 0 => rfl
  | n + 1 => by
    rw [List.range_succ, List.filterMap_append, fm_one f a n]
    by_cases h : a < n
    · rw [if_pos h, if_pos (by lia)]
      simp [show ¬ n = a by lia]
    · by_cases h2 : n = a
      · subst h2; simp
      · rw [if_neg h, if_neg (by lia)]
        simp [h2]
theorem mk_in (c : Nat) : inSD (.str (one c)) (.str "-=") = .ok (.bl (decide (c = 45 \/ c = 61))) := by
  show R.ok (D.bl (inS (one c) ("-=" : Str))) = _
  rw [inS_one]
  have : (("-=" : Str)).cps.toList = [45, 61] := by decide
  rw [this]
  congr 2
  simp
theorem jt_at (A B : List Nat) (m : Nat) (j : Jt A B m) (i : Nat) (hi : i < (A ++ m :: B).length) : ∃ c, (A ++ m :: B)[i]? = some c /\ ((c = 45 \/ c = 61) ↔ i = A.length) := by
  refine ⟨_, List.getElem?_eq_getElem hi, ?_⟩
  by_cases h1 : i < A.length
  · rw [List.getElem_append_left h1]
    have := j.a1 _ (List.getElem_mem h1)
    constructor
    · rintro (e | e) <;> simp [e] at this
    · intro e; lia
  · by_cases h2 : i = A.length
    · subst h2
      simp [j.mm]
    · have e1 : i - A.length = (i - A.length - 1) + 1 := by lia
      have hb : i - A.length - 1 < B.length := by simp at hi; lia
      have e2 : (A ++ m :: B)[i] = B[i - A.length - 1] := by
        rw [List.getElem_append_right (by lia)]
        rw [List.getElem_cons]
        rw [dif_neg (by lia)]
      rw [e2]
      have := j.b1 _ (List.getElem_mem hb)
      constructor
      · rintro (e | e) <;> simp [e] at this
      · intro e; lia
theorem law_mark (A B : List Nat) (m : Nat) (j : Jt A B m) : F__law_mark [.str (S (A ++ m :: B))] = .ok (.int (A.length : Nat)) := by
  have hl : (A ++ m :: B).length <= 9 := by have := j.l1; simp; lia
  have hA : A.length < (A ++ m :: B).length := by simp
  have h1 := len_S (A ++ m :: B) (by lia)
  have e1 : rng1 [D.int ((A ++ m :: B).length : Nat)] = .ok (rng 0 (((A ++ m :: B).length : Nat) : Int).toNat) := ev_rng1 (by lia) (by lia)
  rw [Int.toNat_natCast] at e1
  have hc := compL_rng (f := compF (Tgt.one 0).asg MC (eVar 0) [none, some (.str (S (A ++ m :: B)))]) (lo := 0) (n := (A ++ m :: B).length) (o := fun i => if i = A.length then some (D.int ((0 : Int) + (i : Nat))) else none) fun i hi => by
    obtain ⟨c, hx, hk⟩ := jt_at A B m j i hi
    have hx := ix_at (cs := A ++ m :: B) (i := (0 : Int) + (i : Nat)) (c := c) (by lia) (by lia) (by rw [Int.zero_add, Int.toNat_natCast]; exact hx)
    have hin := mk_in c
    by_cases h : i = A.length
    · rw [if_pos h]
      rw [decide_eq_true (hk.mpr h)] at hin
      generalize (0 : Int) + ((i : Nat) : Int) = I at *
      generalize S (A ++ m :: B) = J at *
      simp -implicitDefEqProofs only [compF, noErr_ok', MC, eVar, eC, eBin, eTest, asB, Tgt.asg, R.ok_bind, List.getElem?_cons_zero, List.getElem?_cons_succ, List.set_cons_zero, if_true, hx, hin]
    · rw [if_neg h]
      rw [decide_eq_false (fun z => h (hk.mp z))] at hin
      generalize (0 : Int) + ((i : Nat) : Int) = I at *
      generalize S (A ++ m :: B) = J at *
      simp -implicitDefEqProofs only [compF, noErr_ok', MC, eVar, eC, eBin, eTest, asB, Tgt.asg, R.ok_bind, List.getElem?_cons_zero, List.getElem?_cons_succ, List.set_cons_zero, if_false, Bool.false_eq_true, hx, hin]
  rw [fm_one (fun i => D.int ((0 : Int) + (i : Nat))) A.length, if_pos hA, Int.zero_add] at hc
  have hk := ev_lstD (ys := [D.int ((A.length : Nat) : Int)]) (by simp)
  rw [tMK]
  generalize ((A.length : Nat) : Int) = a at *
  generalize (A ++ m :: B).length = N at *
  generalize ((N : Nat) : Int) = NN at *
  generalize S (A ++ m :: B) = J at *
  simp -implicitDefEqProofs only [TMK, ev_eComp, ev_lstD, ev_ctN, ev_ctO, ev_ctS, ev_join, ev_eImm, ev_immI, ev_xl0, Nat.reduceLeDiff, runB, sRet, eVar, eC, eBin, eL, aNil, aCons, iL, R.ok_bind, List.map_cons, List.map_nil, List.length_cons, List.length_nil, List.replicate_zero, List.cons_append, List.nil_append, List.getElem?_cons_zero, Nat.reduceSub, Nat.zero_add, h1, e1, hc]
end K04

set_option maxRecDepth 100000
set_option maxHeartbeats 4000000
namespace K04
open PySem PyProof.Rows L2
noncomputable def bT : Tn -> R Fl := (sIf (bAnd (eTest (eL F_fits (aCons (eVar 4) (aCons (eVar 1) (aCons (eVar 2) aNil))))) (bOr (eTest (eBin (isN false) (eVar 3) (eC .non))) (eTest (eBin gtT (eL F_rank (aCons (eVar 4) aNil)) (eL F_rank (aCons (eVar 3) aNil)))))) (sSet 3 (eVar 4)) sSkip)
noncomputable def TT_ : Tn -> R Fl := (sSeq (sSet 3 (eC .non)) (sSeq (sFor (iSeq (eVar 0)) (.one 4) bT) (sRet (eImm (eVar 3)))))
theorem tT : F_telling = runB 5 TT_ := rfl
noncomputable abbrev Jn := List Nat × Nat × List Nat
noncomputable def jtx (j : Jn) : List Nat := j.1 ++ j.2.1 :: j.2.2
noncomputable def Jk (j : Jn) : Prop := Jt j.1 j.2.2 j.2.1
noncomputable def encJ (j : Jn) : D := .str (S (jtx j))
noncomputable def encO : Option Jn -> D
  | none => .non
  | some j => encJ j
noncomputable def fitJ (cs : List Nat) (p : Nat) (j : Jn) : Bool := fitB (j.1 ++ j.2.2) j.1.length cs p
noncomputable def rkJ (j : Jn) : List Int := [((jtx j).length : Int), (j.1.length : Int)]
noncomputable def betJ (j : Jn) : Option Jn -> Bool
  | none => true
  | some b => lexG (rkJ j) (rkJ b)
noncomputable def tellS (cs : List Nat) (p : Nat) (b : Option Jn) (j : Jn) : Option Jn := if (fitJ cs p j && betJ j b) = true then some j else b
noncomputable def tell (cs : List Nat) (p : Nat) (l : List Jn) : Option Jn := l.foldl (tellS cs p) none
theorem Jk.len {j : Jn} (h : Jk j) : (jtx j).length <= 9 := by
  have := h.l1
  unfold jtx
  simp
  lia
theorem rank (j : Jn) (h : Jk j) : F_rank [encJ j] = .ok (.tup [.int ((jtx j).length : Nat), .int (j.1.length : Nat)]) := by
  have h1 := mark_at j.1 j.2.2 j.2.1 h
  have h2 := len_S (jtx j) (by have := h.len; lia)
  have h1 : F_mark_at [.str (S (jtx j))] = .ok (.int (j.1.length : Nat)) := h1
  unfold encJ
  generalize (((jtx j).length : Nat) : Int) = l at *
  generalize ((j.1.length : Nat) : Int) = a at *
  generalize S (jtx j) = Z at *
  simp only [F_rank, t_rank, runB, sRet, eVar, eL, aNil, aCons, R.ok_bind, List.map_cons, List.map_nil, List.length_cons, List.length_nil, List.replicate_zero, List.cons_append, List.nil_append, List.getElem?_cons_zero, Nat.reduceSub, Nat.zero_add, h1, h2]
theorem gt_rk (j b : Jn) : gtT (.tup [.int ((jtx j).length : Nat), .int (j.1.length : Nat)]) (.tup [.int ((jtx b).length : Nat), .int (b.1.length : Nat)]) = .ok (.bl (betJ j (some b))) := by
  unfold betJ rkJ
  rfl
theorem fitsJ (cs : List Nat) (hc : ∀ c ∈ cs, c < 128) (hl : cs.length <= 40) (p : Nat) (hp : p <= cs.length) (j : Jn) (h : Jk j) : F_fits [encJ j, .str (S cs), .int (p : Nat)] = .ok (.bl (fitJ cs p j)) := fits j.1 j.2.2 j.2.1 h cs hc hl p hp
theorem bT_ok (cs : List Nat) (hc : ∀ c ∈ cs, c < 128) (hl : cs.length <= 40) (p : Nat) (hp : p <= cs.length) (j : Jn) (h : Jk j) (b : Option Jn) (hb : ∀ k, b = some k -> Jk k) (B : D) :
    bT [some B, some (.str (S cs)), some (.int (p : Nat)), some (encO b), some (encJ j)] = .ok (.nx [some B, some (.str (S cs)), some (.int (p : Nat)), some (encO (tellS cs p b j)), some (encJ j)]) := by
  have hf := fitsJ cs hc hl p hp j h
  have hr := rank j h
  unfold tellS
  cases hq : fitJ cs p j with
  | false =>
    rw [hq] at hf
    rw [Bool.false_and, if_neg (by decide)]
    generalize encO b = X at *
    generalize encJ j = Z at *
    generalize S cs = W at *
    generalize ((p : Nat) : Int) = P at *
    simp only [bT, sSkip, sSet, sIf, eVar, eC, eBin, eL, aNil, aCons, eTest, bAnd, bOr, asB, R.ok_bind, List.getElem?_cons_zero, List.getElem?_cons_succ, List.set_cons_zero, List.set_cons_succ, if_false, Bool.false_eq_true, hf]
  | true =>
    rw [hq] at hf
    rw [Bool.true_and]
    cases b with
    | none =>
      rw [show betJ j none = true from rfl, if_pos rfl]
      have e1 : isN false D.non D.non = .ok (.bl true) := rfl
      show bT [some B, some (.str (S cs)), some (.int (p : Nat)), some D.non, some (encJ j)] = .ok (.nx [some B, some (.str (S cs)), some (.int (p : Nat)), some (encJ j), some (encJ j)])
      generalize encJ j = Z at *
      generalize S cs = W at *
      generalize ((p : Nat) : Int) = P at *
      simp only [bT, sSkip, sSet, sIf, eVar, eC, eBin, eL, aNil, aCons, eTest, bAnd, bOr, asB, R.ok_bind, List.getElem?_cons_zero, List.getElem?_cons_succ, List.set_cons_zero, List.set_cons_succ, if_true, hf, e1]
    | some k =>
      have hk := rank k (hb k rfl)
      have hg := gt_rk j k
      have e1 : isN false (encJ k) D.non = .ok (.bl false) := rfl
      show bT [some B, some (.str (S cs)), some (.int (p : Nat)), some (encJ k), some (encJ j)] = .ok (.nx [some B, some (.str (S cs)), some (.int (p : Nat)), some (encO (if betJ j (some k) = true then some j else some k)), some (encJ j)])
      cases hbt : betJ j (some k) with
      | true =>
        rw [hbt] at hg
        rw [if_pos rfl]
        show _ = R.ok (Fl.nx [some B, some (.str (S cs)), some (.int (p : Nat)), some (encJ j), some (encJ j)])
        generalize D.tup [.int ((jtx j).length : Nat), .int (j.1.length : Nat)] = R1 at *
        generalize D.tup [.int ((jtx k).length : Nat), .int (k.1.length : Nat)] = R2 at *
        generalize encJ j = Z at *
        generalize encJ k = Y at *
        generalize S cs = W at *
        generalize ((p : Nat) : Int) = P at *
        simp only [bT, sSkip, sSet, sIf, eVar, eC, eBin, eL, aNil, aCons, eTest, bAnd, bOr, asB, R.ok_bind, List.getElem?_cons_zero, List.getElem?_cons_succ, List.set_cons_zero, List.set_cons_succ, if_true, if_false, Bool.false_eq_true, hf, e1, hr, hk, hg]
      | false =>
        rw [hbt] at hg
        rw [if_neg (by decide)]
        show _ = R.ok (Fl.nx [some B, some (.str (S cs)), some (.int (p : Nat)), some (encJ k), some (encJ j)])
        generalize D.tup [.int ((jtx j).length : Nat), .int (j.1.length : Nat)] = R1 at *
        generalize D.tup [.int ((jtx k).length : Nat), .int (k.1.length : Nat)] = R2 at *
        generalize encJ j = Z at *
        generalize encJ k = Y at *
        generalize S cs = W at *
        generalize ((p : Nat) : Int) = P at *
        simp only [bT, sSkip, sSet, sIf, eVar, eC, eBin, eL, aNil, aCons, eTest, bAnd, bOr, asB, R.ok_bind, List.getElem?_cons_zero, List.getElem?_cons_succ, List.set_cons_zero, List.set_cons_succ, if_true, if_false, Bool.false_eq_true, hf, e1, hr, hk, hg]
theorem tellS_k (cs : List Nat) (p : Nat) (j : Jn) (h : Jk j) (b : Option Jn) (hb : ∀ k, b = some k -> Jk k) : ∀ k, tellS cs p b j = some k -> Jk k := by
  intro k hk
  unfold tellS at hk
  split at hk
  · cases hk; exact h
  · exact hb k hk
theorem lT_ok (cs : List Nat) (hc : ∀ c ∈ cs, c < 128) (hl : cs.length <= 40) (p : Nat) (hp : p <= cs.length) (B : D) : ∀ (l : List Jn) (_ : ∀ j ∈ l, Jk j) (b : Option Jn) (_ : ∀ k, b = some k -> Jk k) (y : Option D),
    ∃ y', forGo (Tgt.one 4).asg bT (l.map encJ) [some B, some (.str (S cs)), some (.int (p : Nat)), some (encO b), y] = .ok (.nx [some B, some (.str (S cs)), some (.int (p : Nat)), some (encO (l.foldl (tellS cs p) b)), y'])
  | [], _, b, _, y => ⟨y, rfl⟩
  | j :: l, hJ, b, hb, y => by
    obtain ⟨y', e⟩ := lT_ok cs hc hl p hp B l (fun k hk => hJ k (List.mem_cons_of_mem _ hk)) (tellS cs p b j) (tellS_k cs p j (hJ j List.mem_cons_self) b hb) (some (encJ j))
    refine ⟨y', ?_⟩
    rw [List.map_cons, ev_forC]
    show (bT [some B, some (.str (S cs)), some (.int (p : Nat)), some (encO b), some (encJ j)]).bind _ = _
    rw [bT_ok cs hc hl p hp j (hJ j List.mem_cons_self) b hb B, R.ok_bind, ev_goN, e]
    rfl
theorem imm_O (b : Option Jn) : immD (encO b) = .ok (encO b) := by cases b <;> rfl
theorem telling (cs : List Nat) (hc : ∀ c ∈ cs, c < 128) (hl : cs.length <= 40) (p : Nat) (hp : p <= cs.length) (l : List Jn) (hJ : ∀ j ∈ l, Jk j) : F_telling [.lst (l.map encJ), .str (S cs), .int (p : Nat)] = .ok (encO (tell cs p l)) := by
  obtain ⟨y', e⟩ := lT_ok cs hc hl p hp (.lst (l.map encJ)) l hJ none (fun k h => by cases h) none
  have e : forGo (Tgt.one 4).asg bT (l.map encJ) [some (.lst (l.map encJ)), some (.str (S cs)), some (.int (p : Nat)), some .non, none] = .ok (.nx [some (.lst (l.map encJ)), some (.str (S cs)), some (.int (p : Nat)), some (encO (tell cs p l)), y']) := e
  have hi := imm_O (tell cs p l)
  rw [tT]
  generalize encO (tell cs p l) = Q at *
  generalize l.map encJ = BK at *
  generalize S cs = W at *
  generalize ((p : Nat) : Int) = P at *
  have eF : sFor (iSeq (eVar 0)) (.one 4) bT [some (.lst BK), some (.str W), some (.int P), some .non, none] = _ := ev_for (by simp only [eVar, iSeq, asSeq, R.ok_bind, List.getElem?_cons_zero]) e
  simp only [TT_, ev_eImm, runB, sSeq, sSet, sRet, eVar, eC, R.ok_bind, List.map_cons, List.map_nil, List.length_cons, List.length_nil, List.replicate_succ, List.replicate_zero, List.cons_append, List.nil_append, List.getElem?_cons_zero, List.getElem?_cons_succ, List.set_cons_zero, List.set_cons_succ, Nat.reduceAdd, Nat.reduceSub, Nat.zero_add, eF, hi]
theorem idx_none_hi (a n : Nat) : Builtin.Str.strSliceIndices (some (a : Int)) none 1 n = Builtin.Str.strSliceIndices (some (a : Int)) (some (n : Int)) 1 n := by
  have h1 : ¬ ((a : Int) < 0) := by lia
  have h2 : ¬ ((n : Int) < 0) := by lia
  have e : max (0 : Int) (min (n : Int) (n : Int)) = (n : Int) := by lia
  simp only [Builtin.Str.strSliceIndices, h1, h2, if_false, e, show ((1 : Int) > 0) = True from by simp, if_true]
theorem idx_none_lo (b n : Nat) : Builtin.Str.strSliceIndices none (some (b : Int)) 1 n = Builtin.Str.strSliceIndices (some ((0 : Nat) : Int)) (some (b : Int)) 1 n := by
  have h1 : ¬ (((0 : Nat) : Int) < 0) := by lia
  have h2 : ¬ ((b : Int) < 0) := by lia
  have e : max (0 : Int) (min ((0 : Nat) : Int) (n : Int)) = 0 := by lia
  simp only [Builtin.Str.strSliceIndices, h1, h2, if_false, e, show ((1 : Int) > 0) = True from by simp, if_true]
theorem slice_from (cs : List Nat) (b : Nat) (hb : b <= cs.length) : Txt.slice (S cs) (some (b : Int)) none = S (cs.drop b) := by
  have h := slice_ok cs b (cs.length - b) hb
  rw [List.take_of_length_le (by rw [List.length_drop]; lia), show (b : Int) + ((cs.length - b : Nat) : Int) = ((cs.length : Nat) : Int) by lia] at h
  rw [<- h]
  unfold Txt.slice
  rw [S_len, idx_none_hi]
theorem slice_to (cs : List Nat) (b : Nat) : Txt.slice (S cs) none (some (b : Int)) = S (cs.take b) := by
  have h := slice_ok cs 0 b (Nat.zero_le _)
  rw [List.drop_zero, show ((0 : Nat) : Int) + (b : Int) = (b : Int) by lia] at h
  rw [<- h]
  unfold Txt.slice
  rw [S_len, idx_none_lo]
theorem sl_S (cs : List Nat) (hl : cs.length <= 1000) (lo hi : Option Int) : slD (.str (S cs)) lo hi = .ok (.str (Txt.slice (S cs) lo hi)) := by
  show (if (S cs).length <= sizeLine then _ else _) = _
  rw [if_pos (by rw [S_len, sizeLine_eq]; lia)]
theorem sl_from (cs : List Nat) (hl : cs.length <= 1000) (b : Nat) (h1 : b <= cs.length) : slD (.str (S cs)) (some (b : Int)) none = .ok (.str (S (cs.drop b))) := by
  rw [sl_S cs hl, slice_from cs b h1]
theorem sl_to (cs : List Nat) (hl : cs.length <= 1000) (b : Nat) : slD (.str (S cs)) none (some (b : Int)) = .ok (.str (S (cs.take b))) := by
  rw [sl_S cs hl, slice_to cs b]
end K04

set_option maxRecDepth 100000
set_option maxHeartbeats 4000000
namespace K04
open PySem PyProof.Rows L2
noncomputable def bLF : Tn -> R Fl := (sSeq (sSet 5 (eBin subD (eBin addD (eBin subD (eVar 2) (eVar 3)) (eVar 4)) (eL int1D (aCons (eBin gtD (eVar 4) (eVar 3)) aNil)))) (sSeq (sIf (bAnd (eTest (eBin (eqR true) (eVar 4) (eVar 3))) (bNot (eTest (eChain leD ltD (eC (.int 0)) (eVar 5) (eL lenD (aCons (eVar 1) aNil)))))) (sRet (eC (.bl false))) sSkip) (sIf (bAnd (eTest (eBin (eqR true) (eVar 4) (eVar 3))) (eTest (eBin (eqR true) (eL F__law_small (aCons (eBin ixD (eVar 1) (eVar 5)) aNil)) (eBin ixD (eVar 0) (eVar 4))))) (sRet (eC (.bl false))) sSkip)))
noncomputable def TLF : Tn -> R Fl := (sSeq (sSet 3 (eL F__law_mark (aCons (eVar 0) aNil))) (sSeq (sFor (iL rng1 (aCons (eL lenD (aCons (eVar 0) aNil)) aNil)) (.one 4) bLF) (sRet (eC (.bl true)))))
theorem tLF : F__law_fits = runB 6 TLF := rfl
noncomputable def bTD : Tn -> R Fl := (sSeq (sSet 6 (eL (fun ds => .ok (.tup ds)) (aCons (eL lenD (aCons (eVar 5) aNil)) (aCons (eL F__law_mark (aCons (eVar 5) aNil)) aNil)))) (sIf (bAnd (eTest (eBin gtT (eVar 6) (eVar 4))) (eTest (eL F__law_fits (aCons (eVar 5) (aCons (eVar 1) (aCons (eVar 2) aNil)))))) (sSeq (sSet 3 (eVar 5)) (sSet 4 (eImm (eVar 6)))) sSkip))
noncomputable def TTD : Tn -> R Fl := (sSeq (sSet 3 (eC .non)) (sSeq (sSet 4 (eL (fun ds => .ok (.tup ds)) (aCons (eC (.int 0)) (aCons (eC (.int 0)) aNil)))) (sSeq (sFor (iSeq (eVar 0)) (.one 5) bTD) (sRet (eImm (eVar 3))))))
theorem tTD : F__law_told = runB 7 TTD := rfl
noncomputable def bS1 : Tn -> R Fl := (sIf (bOr (eTest (eBin (eqR true) (eL F_telling (aCons (eVar 2) (aCons (eVar 1) (aCons (eVar 3) aNil)))) (eL F__law_told (aCons (eVar 0) (aCons (eVar 1) (aCons (eVar 3) aNil)))))) (eTest (eBin (eqR true) (eVar 2) (eVar 0)))) (sRet (eC (.bl false))) sSkip)
noncomputable def bS2 : Tn -> R Fl := (sIf (eTest (eBin (eqR true) (eL F_telling (aCons (eVar 2) (aCons (eVar 1) (aCons (eVar 3) aNil)))) (eL F__law_told (aCons (eSl (eVar 0) (oSome (eC (.int 1))) oNone) (aCons (eVar 1) (aCons (eVar 3) aNil)))))) (sRet (eC (.bl false))) sSkip)
noncomputable def TTS (SP : Tn -> R Fl) : Tn -> R Fl := (sSeq (sSet 2 (eL list1D (aCons (eVar 0) aNil))) (sSeq (sFor (iL rng2 (aCons (eC (.int 1)) (aCons (eL lenD (aCons (eVar 1) aNil)) aNil))) (.one 3) bS1) (sSeq SP (sSeq (sFor (iL rng2 (aCons (eC (.int 1)) (aCons (eL lenD (aCons (eVar 1) aNil)) aNil))) (.one 3) bS2) (sRet (eC (.bl true)))))))
theorem tTS : F__law_tells = runB 4 (TTS (sIf (eTest (eBin gtD (eL lenD (aCons (eVar 2) aNil)) (eC (.int 0)))) (sPop0 2) sSkip)) := rfl
theorem ev_nei (x y : Int) : eqR true (.int x) (.int y) = .ok (.bl (!(x == y))) := rfl
theorem ev_nes (x y : Str) : eqR true (.str x) (.str y) = .ok (.bl (!(x == y))) := rfl
noncomputable def okI (L : List Nat) (a : Nat) (cs : List Nat) (p i : Nat) : Bool := decide (a <= p + i) && ((cs[p + i - a]?).map lo1 == L[i]?)
theorem fit_iff (L : List Nat) (a : Nat) (ha : a <= L.length) (cs : List Nat) (p : Nat) : fitB L a cs p = true ↔ ∀ i, i < L.length -> okI L a cs p i = true := by
  unfold fitB okI
  by_cases h : a <= p
  · rw [decide_eq_true h, Bool.true_and, decide_eq_true_eq]
    constructor
    · intro e i hi
      have e1 : (((cs.drop (p - a)).take L.length).map lo1)[i]? = L[i]? := by rw [e]
      rw [List.getElem?_map, List.getElem?_take_of_lt hi, List.getElem?_drop] at e1
      rw [decide_eq_true (show a <= p + i by lia), Bool.true_and, show p + i - a = p - a + i by lia, e1, beq_self_eq_true]
    · intro hh
      apply List.ext_getElem?
      intro i
      by_cases hi : i < L.length
      · have := hh i hi
        rw [decide_eq_true (show a <= p + i by lia), Bool.true_and, show p + i - a = p - a + i by lia] at this
        rw [List.getElem?_map, List.getElem?_take_of_lt hi, List.getElem?_drop]
        exact eq_of_beq this
      · rw [List.getElem?_eq_none_iff.mpr (show L.length <= i by lia), List.getElem?_eq_none_iff.mpr (by rw [List.length_map, List.length_take]; lia)]
  · rw [decide_eq_false h, Bool.false_and]
    constructor
    · intro z; cases z
    · intro hh
      have := hh 0 (by lia)
      rw [decide_eq_false (show ¬ a <= p + 0 by lia), Bool.false_and] at this
      cases this
noncomputable def ixK (a k : Nat) : Nat := if a < k then k - 1 else k
noncomputable def badK (L : List Nat) (a : Nat) (cs : List Nat) (p k : Nat) : Bool := !decide (k = a) && !okI L a cs p (ixK a k)
theorem bad_any (A B : List Nat) (cs : List Nat) (p : Nat) : ((List.range (A.length + 1 + B.length)).any fun k => badK (A ++ B) A.length cs p k) = !fitB (A ++ B) A.length cs p := by
  have hf := fit_iff (A ++ B) A.length (by rw [List.length_append]; lia) cs p
  cases hb : fitB (A ++ B) A.length cs p with
  | true =>
    rw [hb] at hf
    have hf := hf.mp rfl
    rw [Bool.not_true, List.any_eq_false]
    intro k hk
    have hk := List.mem_range.mp hk
    unfold badK
    by_cases e : k = A.length
    · rw [decide_eq_true e]; simp
    · have : okI (A ++ B) A.length cs p (ixK A.length k) = true := hf _ (by unfold ixK; rw [List.length_append]; split <;> lia)
      rw [this]; simp
  | false =>
    rw [Bool.not_false, List.any_eq_true]
    have : ∃ i, i < (A ++ B).length /\ okI (A ++ B) A.length cs p i = false := by
      apply Classical.byContradiction
      intro hn
      have : ∀ i, i < (A ++ B).length -> okI (A ++ B) A.length cs p i = true := fun i hi => by
        cases hq : okI (A ++ B) A.length cs p i with
        | true => rfl
        | false => exact absurd ⟨i, hi, hq⟩ hn
      rw [hf.mpr this] at hb
      cases hb
    obtain ⟨i, hi, hq⟩ := this
    rw [List.length_append] at hi
    refine ⟨if i < A.length then i else i + 1, List.mem_range.mpr (by split <;> lia), ?_⟩
    unfold badK
    by_cases h : i < A.length
    · rw [if_pos h, decide_eq_false (show ¬ i = A.length by lia)]
      have : ixK A.length i = i := by unfold ixK; rw [if_neg (by lia)]
      rw [this, hq]; rfl
    · rw [if_neg h, decide_eq_false (show ¬ i + 1 = A.length by lia)]
      have : ixK A.length (i + 1) = i := by unfold ixK; rw [if_pos (by lia)]; lia
      rw [this, hq]; rfl
theorem forGo_stop {asg : D -> Tn -> R Tn} {body : Tn -> R Fl} {r : D} (P : Nat -> Tn -> Prop) (bad : Nat -> Bool) : ∀ (ds : List D) (k : Nat) (τ : Tn), P k τ ->
    (∀ i q τ, ds[i]? = some q -> P (k + i) τ -> ∃ τ1, asg q τ = .ok τ1 /\ ((bad (k + i) = true /\ body τ1 = .ok (.rt r)) \/ (bad (k + i) = false /\ ∃ τ2, body τ1 = .ok (.nx τ2) /\ P (k + i + 1) τ2))) ->
    ((List.range ds.length).any (fun i => bad (k + i)) = true /\ forGo asg body ds τ = .ok (.rt r)) \/ ((List.range ds.length).any (fun i => bad (k + i)) = false /\ ∃ τ', forGo asg body ds τ = .ok (.nx τ') /\ P (k + ds.length) τ')
  | [], k, τ, h0, _ => .inr ⟨rfl, τ, rfl, h0⟩
  | d :: ds, k, τ, h0, hs => by
    obtain ⟨τ1, e1, h1⟩ := hs 0 d τ rfl h0
    have er : (List.range (d :: ds).length).any (fun i => bad (k + i)) = (bad (k + 0) || (List.range ds.length).any (fun i => bad (k + 1 + i))) := by
      rw [List.length_cons, List.range_succ_eq_map, List.any_cons, List.any_map]
      congr 2
      funext i
      show bad (k + (i + 1)) = bad (k + 1 + i)
      congr 1
      lia
    rw [er]
    rcases h1 with ⟨b1, e2⟩ | ⟨b1, τ2, e2, h2⟩
    · refine .inl ⟨by rw [b1]; rfl, ?_⟩
      rw [ev_forC, e1, R.ok_bind, e2, R.ok_bind, ev_goR]
    · have ih := forGo_stop (asg := asg) (body := body) (r := r) P bad ds (k + 1) τ2 h2 fun i q τ hq hp => by
        have := hs (i + 1) q τ hq (by rw [show k + (i + 1) = k + 1 + i by lia]; exact hp)
        rw [show k + (i + 1) = k + 1 + i by lia] at this
        exact this
      rw [b1, Bool.false_or]
      have ee : forGo asg body (d :: ds) τ = forGo asg body ds τ2 := by rw [ev_forC, e1, R.ok_bind, e2, R.ok_bind, ev_goN]
      rw [ee, List.length_cons, show k + (ds.length + 1) = k + 1 + ds.length by lia]
      exact ih
theorem one_eq (u v : Nat) : (one u == one v) = decide (u = v) := by
  show (S [u] == S [v]) = _
  rw [S_eq]
  simp
theorem bLF_in (cs : List Nat) (hc : ∀ c ∈ cs, c < 128) (hl : cs.length <= 40) (X : Str) (x : Nat) (P A K Q g : Int) (y5 : Option D) (hx : ixD (.str X) (.int K) = .ok (.str (one x))) (hne : (K == A) = false) (hg : int1D [.bl (decide (K > A))] = .ok (.int g)) (hQ : P - A + K - g = Q) :
    (bLF [some (.str X), some (.str (S cs)), some (.int P), some (.int A), some (.int K), y5] = .ok (.rt (.bl false)) /\ (decide (0 <= Q) && ((cs[Q.toNat]?).map lo1 == some x)) = false) \/
    (bLF [some (.str X), some (.str (S cs)), some (.int P), some (.int A), some (.int K), y5] = .ok (.nx [some (.str X), some (.str (S cs)), some (.int P), some (.int A), some (.int K), some (.int Q)]) /\ (decide (0 <= Q) && ((cs[Q.toNat]?).map lo1 == some x)) = true) := by
  have h2 := len_S cs (by lia)
  have hn := ev_nei K A
  rw [hne] at hn
  by_cases h0 : 0 <= Q
  · have e0 : decide (0 <= Q) = true := decide_eq_true h0
    rw [e0, Bool.true_and]
    by_cases h1 : Q < (cs.length : Nat)
    · have e1 : decide (Q < ((cs.length : Nat) : Int)) = true := decide_eq_true h1
      have hi : Q.toNat < cs.length := by lia
      have hgt : cs[Q.toNat]? = some cs[Q.toNat] := List.getElem?_eq_getElem hi
      have hw := ix_at (cs := cs) (i := Q) (by lia) h0 hgt
      have hs := small cs[Q.toNat] (hc _ (List.getElem_mem hi))
      have he := ev_nes (one (lo1 cs[Q.toNat])) (one x)
      rw [one_eq] at he
      rw [hgt]
      show _ /\ (some (lo1 cs[Q.toNat]) == some x) = false \/ _ /\ (some (lo1 cs[Q.toNat]) == some x) = true
      have eo : (some (lo1 cs[Q.toNat]) == some x) = decide (lo1 cs[Q.toNat] = x) := by
        by_cases hq : lo1 cs[Q.toNat] = x
        · rw [hq]; simp
        · rw [decide_eq_false hq]; exact beq_false_of_ne fun z => hq (Option.some.inj z)
      rw [eo]
      generalize decide (lo1 cs[Q.toNat] = x) = bb at *
      generalize one (lo1 cs[Q.toNat]) = z2 at *
      generalize one cs[Q.toNat] = z at *
      generalize one x = z3 at *
      generalize ((cs.length : Nat) : Int) = l at *
      generalize S cs = W at *
      cases bb with
      | false =>
        refine .inl ⟨?_, rfl⟩
        simp only [bLF, sSkip, sSeq, sSet, sRet, sIf, eVar, eC, eBin, eL, aNil, aCons, eTest, bAnd, bNot, eChain, asB, R.ok_bind, List.getElem?_cons_zero, List.getElem?_cons_succ, List.set_cons_zero, List.set_cons_succ, ev_add, ev_sub, ev_lt, ev_le, ev_gt, if_true, if_false, Bool.false_eq_true, hg, hQ, hn, h2, e0, e1, hw, hs, hx, he, Bool.not_true, Bool.not_false]
      | true =>
        refine .inr ⟨?_, rfl⟩
        simp only [bLF, sSkip, sSeq, sSet, sRet, sIf, eVar, eC, eBin, eL, aNil, aCons, eTest, bAnd, bNot, eChain, asB, R.ok_bind, List.getElem?_cons_zero, List.getElem?_cons_succ, List.set_cons_zero, List.set_cons_succ, ev_add, ev_sub, ev_lt, ev_le, ev_gt, if_true, if_false, Bool.false_eq_true, hg, hQ, hn, h2, e0, e1, hw, hs, hx, he, Bool.not_true, Bool.not_false]
    · have e1 : decide (Q < ((cs.length : Nat) : Int)) = false := decide_eq_false h1
      have hgt : cs[Q.toNat]? = none := List.getElem?_eq_none_iff.mpr (by lia)
      rw [hgt]
      generalize ((cs.length : Nat) : Int) = l at *
      generalize S cs = W at *
      refine .inl ⟨?_, rfl⟩
      simp only [bLF, sSkip, sSeq, sSet, sRet, sIf, eVar, eC, eBin, eL, aNil, aCons, eTest, bAnd, bNot, eChain, asB, R.ok_bind, List.getElem?_cons_zero, List.getElem?_cons_succ, List.set_cons_zero, List.set_cons_succ, ev_add, ev_sub, ev_lt, ev_le, ev_gt, if_true, hg, hQ, hn, h2, e0, e1, Bool.not_false]
  · have e0 : decide (0 <= Q) = false := decide_eq_false h0
    rw [e0, Bool.false_and]
    generalize ((cs.length : Nat) : Int) = l at *
    generalize S cs = W at *
    refine .inl ⟨?_, rfl⟩
    simp only [bLF, sSkip, sSeq, sSet, sRet, sIf, eVar, eC, eBin, eL, aNil, aCons, eTest, bAnd, bNot, eChain, asB, R.ok_bind, List.getElem?_cons_zero, List.getElem?_cons_succ, List.set_cons_zero, List.set_cons_succ, ev_add, ev_sub, ev_lt, ev_le, ev_gt, if_true, if_false, Bool.false_eq_true, hg, hQ, hn, h2, e0, Bool.not_false]
theorem bLF_eq (cs : List Nat) (X : Str) (P A g : Int) (y5 : Option D) (hg : int1D [.bl (decide (A > A))] = .ok (.int g)) :
    bLF [some (.str X), some (.str (S cs)), some (.int P), some (.int A), some (.int A), y5] = .ok (.nx [some (.str X), some (.str (S cs)), some (.int P), some (.int A), some (.int A), some (.int (P - A + A - g))]) := by
  have hn := ev_nei A A
  rw [beq_self_eq_true] at hn
  generalize S cs = W at *
  simp only [bLF, sSkip, sSeq, sSet, sRet, sIf, eVar, eC, eBin, eL, aNil, aCons, eTest, bAnd, bNot, eChain, asB, R.ok_bind, List.getElem?_cons_zero, List.getElem?_cons_succ, List.set_cons_zero, List.set_cons_succ, ev_add, ev_sub, ev_le, ev_gt, if_false, Bool.false_eq_true, decide_eq_true_eq, hg, hn, Bool.not_true]
theorem jt_ix (A B : List Nat) (m k : Nat) (hk : k < A.length + 1 + B.length) (hn : k ≠ A.length) : (A ++ m :: B)[k]? = (A ++ B)[ixK A.length k]? := by
  unfold ixK
  by_cases h : A.length < k
  · rw [if_pos h, List.getElem?_append_right (by lia), List.getElem?_append_right (by lia)]
    have e : k - A.length = (k - 1 - A.length) + 1 := by lia
    rw [e, List.getElem?_cons_succ]
  · rw [if_neg h, List.getElem?_append_left (by lia), List.getElem?_append_left (by lia)]
theorem law_fits (cs : List Nat) (hc : ∀ c ∈ cs, c < 128) (hl : cs.length <= 40) (p : Nat) (hp : p <= cs.length) (j : Jn) (h : Jk j) : F__law_fits [encJ j, .str (S cs), .int (p : Nat)] = .ok (.bl (fitJ cs p j)) := by
  obtain ⟨A, m, B⟩ := j
  have hm := law_mark A B m h
  have h1 := len_S (A ++ m :: B) (by have := Jk.len h; unfold jtx at this; dsimp only at this; lia)
  have hX : (A ++ m :: B).length = A.length + 1 + B.length := by rw [List.length_append, List.length_cons]; lia
  have h9 : (A ++ m :: B).length <= 9 := Jk.len h
  have e1 : rng1 [D.int ((A ++ m :: B).length : Nat)] = .ok (rng 0 (((A ++ m :: B).length : Nat) : Int).toNat) := ev_rng1 (by lia) (by lia)
  rw [Int.toNat_natCast] at e1
  have key := forGo_stop (asg := (Tgt.one 4).asg) (body := bLF) (r := .bl false)
    (fun _ τ => ∃ y4 y5, τ = [some (.str (S (A ++ m :: B))), some (.str (S cs)), some (.int (p : Nat)), some (.int (A.length : Nat)), y4, y5]) (badK (A ++ B) A.length cs p) (rng 0 (A ++ m :: B).length) 0
    [some (.str (S (A ++ m :: B))), some (.str (S cs)), some (.int (p : Nat)), some (.int (A.length : Nat)), none, none] ⟨none, none, rfl⟩ (fun i q τ hd ⟨y4, y5, h⟩ => by
      obtain ⟨hi, rfl⟩ := rng_get hd
      subst h
      refine ⟨_, rfl, ?_⟩
      rw [Int.zero_add, Nat.zero_add]
      show (_ /\ bLF [some (.str (S (A ++ m :: B))), some (.str (S cs)), some (.int (p : Nat)), some (.int (A.length : Nat)), some (.int (i : Nat)), y5] = _) \/ (_ /\ ∃ τ2, bLF [some (.str (S (A ++ m :: B))), some (.str (S cs)), some (.int (p : Nat)), some (.int (A.length : Nat)), some (.int (i : Nat)), y5] = _ /\ _)
      by_cases e : i = A.length
      · subst e
        refine .inr ⟨by unfold badK; rw [decide_eq_true rfl]; rfl, _, bLF_eq cs _ _ _ _ y5 rfl, _, _, rfl⟩
      · have hx : (A ++ m :: B)[i]? = some (A ++ m :: B)[i] := List.getElem?_eq_getElem hi
        have hxx := ix_at (cs := A ++ m :: B) (i := ((i : Nat) : Int)) (by lia) (by lia) (by rw [Int.toNat_natCast]; exact hx)
        have hL := jt_ix A B m i (by lia) e
        rw [hx] at hL
        have hne : (((i : Nat) : Int) == ((A.length : Nat) : Int)) = false := beq_false_of_ne fun z => e (by lia)
        have hbk : ∀ Q : Int, Q = ((p : Nat) : Int) + (ixK A.length i : Nat) - (A.length : Nat) -> (decide (0 <= Q) && ((cs[Q.toNat]?).map lo1 == some (A ++ m :: B)[i])) = okI (A ++ B) A.length cs p (ixK A.length i) := by
          intro Q hQ
          unfold okI
          rw [<- hL]
          by_cases h0 : 0 <= Q
          · rw [decide_eq_true h0, decide_eq_true (show A.length <= p + ixK A.length i by lia), show Q.toNat = p + ixK A.length i - A.length by lia]
          · rw [decide_eq_false h0, decide_eq_false (show ¬ A.length <= p + ixK A.length i by lia), Bool.false_and, Bool.false_and]
        by_cases hgt : A.length < i
        · have hd : decide (((i : Nat) : Int) > ((A.length : Nat) : Int)) = true := decide_eq_true (by lia)
          have hgg : int1D [.bl (decide (((i : Nat) : Int) > ((A.length : Nat) : Int)))] = .ok (.int 1) := by rw [hd]; rfl
          have hk := hbk (((p : Nat) : Int) - (A.length : Nat) + (i : Nat) - 1) (by unfold ixK; rw [if_pos hgt]; lia)
          rcases bLF_in cs hc hl (S (A ++ m :: B)) _ ((p : Nat) : Int) ((A.length : Nat) : Int) ((i : Nat) : Int) _ 1 y5 hxx hne hgg rfl with ⟨q1, q2⟩ | ⟨q1, q2⟩
          · rw [hk] at q2
            exact .inl ⟨by unfold badK; rw [decide_eq_false e, q2]; rfl, q1⟩
          · rw [hk] at q2
            exact .inr ⟨by unfold badK; rw [q2]; simp, _, q1, _, _, rfl⟩
        · have hd : decide (((i : Nat) : Int) > ((A.length : Nat) : Int)) = false := decide_eq_false (by lia)
          have hgg : int1D [.bl (decide (((i : Nat) : Int) > ((A.length : Nat) : Int)))] = .ok (.int 0) := by rw [hd]; rfl
          have hk := hbk (((p : Nat) : Int) - (A.length : Nat) + (i : Nat) - 0) (by unfold ixK; rw [if_neg hgt]; lia)
          rcases bLF_in cs hc hl (S (A ++ m :: B)) _ ((p : Nat) : Int) ((A.length : Nat) : Int) ((i : Nat) : Int) _ 0 y5 hxx hne hgg rfl with ⟨q1, q2⟩ | ⟨q1, q2⟩
          · rw [hk] at q2
            exact .inl ⟨by unfold badK; rw [decide_eq_false e, q2]; rfl, q1⟩
          · rw [hk] at q2
            exact .inr ⟨by unfold badK; rw [q2]; simp, _, q1, _, _, rfl⟩)
  have hany := bad_any A B cs p
  rw [<- hX] at hany
  have hfun : (fun i => badK (A ++ B) A.length cs p (0 + i)) = fun i => badK (A ++ B) A.length cs p i := by funext i; rw [Nat.zero_add]
  rw [rng_len, hfun, hany] at key
  show F__law_fits [.str (S (A ++ m :: B)), .str (S cs), .int (p : Nat)] = .ok (.bl (fitB (A ++ B) A.length cs p))
  rw [tLF]
  generalize fitB (A ++ B) A.length cs p = r at *
  generalize (A ++ m :: B).length = N at *
  generalize ((N : Nat) : Int) = NN at *
  generalize S (A ++ m :: B) = X at *
  generalize S cs = W at *
  generalize ((p : Nat) : Int) = P at *
  generalize ((A.length : Nat) : Int) = a at *
  rcases key with ⟨k1, k2⟩ | ⟨k1, τ', k2, y4, y5, rfl⟩
  · have hr : r = false := by cases r <;> simp at k1 ⊢
    subst hr
    have eF : sFor (iL rng1 (aCons (eL lenD (aCons (eVar 0) aNil)) aNil)) (.one 4) bLF [some (.str X), some (.str W), some (.int P), some (.int a), none, none] = _ := ev_for (by simp -implicitDefEqProofs only [eVar, eL, aNil, aCons, iL, R.ok_bind, List.getElem?_cons_zero, h1, e1]) k2
    simp -implicitDefEqProofs only [TLF, runB, sSeq, sSet, sRet, eVar, eC, eL, aNil, aCons, R.ok_bind, List.map_cons, List.map_nil, List.length_cons, List.length_nil, List.replicate_succ, List.replicate_zero, List.cons_append, List.nil_append, List.getElem?_cons_zero, List.set_cons_zero, List.set_cons_succ, Nat.reduceAdd, Nat.reduceSub, Nat.zero_add, hm, eF]
  · have hr : r = true := by cases r <;> simp at k1 ⊢
    subst hr
    have eF : sFor (iL rng1 (aCons (eL lenD (aCons (eVar 0) aNil)) aNil)) (.one 4) bLF [some (.str X), some (.str W), some (.int P), some (.int a), none, none] = _ := ev_for (by simp -implicitDefEqProofs only [eVar, eL, aNil, aCons, iL, R.ok_bind, List.getElem?_cons_zero, h1, e1]) k2
    simp -implicitDefEqProofs only [TLF, runB, sSeq, sSet, sRet, eVar, eC, eL, aNil, aCons, R.ok_bind, List.map_cons, List.map_nil, List.length_cons, List.length_nil, List.replicate_succ, List.replicate_zero, List.cons_append, List.nil_append, List.getElem?_cons_zero, List.set_cons_zero, List.set_cons_succ, Nat.reduceAdd, Nat.reduceSub, Nat.zero_add, hm, eF]
noncomputable def bestD : Option Jn -> D
  | none => .tup [.int 0, .int 0]
  | some k => .tup [.int ((jtx k).length : Nat), .int (k.1.length : Nat)]
theorem gt_best (j : Jn) (b : Option Jn) : gtT (.tup [.int ((jtx j).length : Nat), .int (j.1.length : Nat)]) (bestD b) = .ok (.bl (betJ j b)) := by
  cases b with
  | some k => exact gt_rk j k
  | none =>
    show R.ok (D.bl (lexG [(((jtx j).length : Nat) : Int), ((j.1.length : Nat) : Int)] [0, 0])) = .ok (.bl true)
    have h : (jtx j).length ≠ 0 := by unfold jtx; rw [List.length_append, List.length_cons]; lia
    unfold lexG
    rw [if_neg (by lia), decide_eq_true (by lia)]
theorem bTD_ok (cs : List Nat) (hc : ∀ c ∈ cs, c < 128) (hl : cs.length <= 40) (p : Nat) (hp : p <= cs.length) (j : Jn) (h : Jk j) (b : Option Jn) (B : D) (y6 : Option D) :
    bTD [some B, some (.str (S cs)), some (.int (p : Nat)), some (encO b), some (bestD b), some (encJ j), y6] = .ok (.nx [some B, some (.str (S cs)), some (.int (p : Nat)), some (encO (tellS cs p b j)), some (bestD (tellS cs p b j)), some (encJ j), some (.tup [.int ((jtx j).length : Nat), .int (j.1.length : Nat)])]) := by
  have hf := law_fits cs hc hl p hp j h
  have hg := gt_best j b
  have h1 := len_S (jtx j) (by have := h.len; lia)
  have h2 := law_mark j.1 j.2.2 j.2.1 h
  have h1 : lenD [encJ j] = .ok (.int ((jtx j).length : Nat)) := h1
  have h2 : F__law_mark [encJ j] = .ok (.int (j.1.length : Nat)) := h2
  have hi : immD (.tup [.int ((jtx j).length : Nat), .int (j.1.length : Nat)]) = .ok (.tup [.int ((jtx j).length : Nat), .int (j.1.length : Nat)]) := rfl
  unfold tellS
  cases hb : betJ j b with
  | false =>
    rw [hb] at hg
    rw [Bool.and_false, if_neg (by decide)]
    generalize bestD b = X2 at *
    generalize encO b = X at *
    generalize encJ j = Z at *
    generalize S cs = W at *
    generalize ((p : Nat) : Int) = P at *
    generalize (((jtx j).length : Nat) : Int) = l at *
    generalize ((j.1.length : Nat) : Int) = a at *
    simp only [bTD, ev_eImm, ev_immT, ev_imsN, ev_imsI, sSkip, sSeq, sSet, sIf, eVar, eBin, eL, aNil, aCons, eTest, bAnd, asB, R.ok_bind, List.getElem?_cons_zero, List.getElem?_cons_succ, List.set_cons_zero, List.set_cons_succ, if_false, Bool.false_eq_true, h1, h2, hg]
  | true =>
    rw [hb] at hg
    rw [Bool.and_true]
    cases hq : fitJ cs p j with
    | false =>
      rw [hq] at hf
      rw [if_neg (by decide)]
      generalize bestD b = X2 at *
      generalize encO b = X at *
      generalize encJ j = Z at *
      generalize S cs = W at *
      generalize ((p : Nat) : Int) = P at *
      generalize (((jtx j).length : Nat) : Int) = l at *
      generalize ((j.1.length : Nat) : Int) = a at *
      simp only [bTD, ev_eImm, ev_immT, ev_imsN, ev_imsI, sSkip, sSeq, sSet, sIf, eVar, eBin, eL, aNil, aCons, eTest, bAnd, asB, R.ok_bind, List.getElem?_cons_zero, List.getElem?_cons_succ, List.set_cons_zero, List.set_cons_succ, if_true, if_false, Bool.false_eq_true, h1, h2, hg, hf]
    | true =>
      rw [hq] at hf
      rw [if_pos rfl]
      show _ = R.ok (Fl.nx [some B, some (.str (S cs)), some (.int (p : Nat)), some (encJ j), some (.tup [.int ((jtx j).length : Nat), .int (j.1.length : Nat)]), some (encJ j), some (.tup [.int ((jtx j).length : Nat), .int (j.1.length : Nat)])])
      generalize bestD b = X2 at *
      generalize encO b = X at *
      generalize encJ j = Z at *
      generalize S cs = W at *
      generalize ((p : Nat) : Int) = P at *
      generalize (((jtx j).length : Nat) : Int) = l at *
      generalize ((j.1.length : Nat) : Int) = a at *
      simp only [bTD, ev_eImm, sSkip, sSeq, sSet, sIf, eVar, eBin, eL, aNil, aCons, eTest, bAnd, asB, R.ok_bind, List.getElem?_cons_zero, List.getElem?_cons_succ, List.set_cons_zero, List.set_cons_succ, if_true, h1, h2, hg, hf, hi]
theorem lTD_ok (cs : List Nat) (hc : ∀ c ∈ cs, c < 128) (hl : cs.length <= 40) (p : Nat) (hp : p <= cs.length) (B : D) : ∀ (l : List Jn) (_ : ∀ j ∈ l, Jk j) (b : Option Jn) (y y2 : Option D),
    ∃ y' y2', forGo (Tgt.one 5).asg bTD (l.map encJ) [some B, some (.str (S cs)), some (.int (p : Nat)), some (encO b), some (bestD b), y, y2] = .ok (.nx [some B, some (.str (S cs)), some (.int (p : Nat)), some (encO (l.foldl (tellS cs p) b)), some (bestD (l.foldl (tellS cs p) b)), y', y2'])
  | [], _, b, y, y2 => ⟨y, y2, rfl⟩
  | j :: l, hJ, b, y, y2 => by
    obtain ⟨y', y2', e⟩ := lTD_ok cs hc hl p hp B l (fun k hk => hJ k (List.mem_cons_of_mem _ hk)) (tellS cs p b j) (some (encJ j)) (some (.tup [.int ((jtx j).length : Nat), .int (j.1.length : Nat)]))
    refine ⟨y', y2', ?_⟩
    rw [List.map_cons, ev_forC]
    show (bTD [some B, some (.str (S cs)), some (.int (p : Nat)), some (encO b), some (bestD b), some (encJ j), y2]).bind _ = _
    rw [bTD_ok cs hc hl p hp j (hJ j List.mem_cons_self) b B y2, R.ok_bind, ev_goN, e]
    rfl
theorem told (cs : List Nat) (hc : ∀ c ∈ cs, c < 128) (hl : cs.length <= 40) (p : Nat) (hp : p <= cs.length) (l : List Jn) (hJ : ∀ j ∈ l, Jk j) : F__law_told [.lst (l.map encJ), .str (S cs), .int (p : Nat)] = .ok (encO (tell cs p l)) := by
  obtain ⟨y', y2', e⟩ := lTD_ok cs hc hl p hp (.lst (l.map encJ)) l hJ none none none
  have e : forGo (Tgt.one 5).asg bTD (l.map encJ) [some (.lst (l.map encJ)), some (.str (S cs)), some (.int (p : Nat)), some .non, some (.tup [.int 0, .int 0]), none, none] = .ok (.nx [some (.lst (l.map encJ)), some (.str (S cs)), some (.int (p : Nat)), some (encO (tell cs p l)), some (bestD (tell cs p l)), y', y2']) := e
  have hi := imm_O (tell cs p l)
  rw [tTD]
  generalize bestD (tell cs p l) = Q2 at *
  generalize encO (tell cs p l) = Q at *
  generalize l.map encJ = BK at *
  generalize S cs = W at *
  generalize ((p : Nat) : Int) = P at *
  have eF : sFor (iSeq (eVar 0)) (.one 5) bTD [some (.lst BK), some (.str W), some (.int P), some .non, some (.tup [.int 0, .int 0]), none, none] = _ := ev_for (by simp only [eVar, iSeq, asSeq, R.ok_bind, List.getElem?_cons_zero]) e
  simp only [TTD, ev_eImm, runB, sSeq, sSet, sRet, eVar, eC, eL, aNil, aCons, R.ok_bind, List.map_cons, List.map_nil, List.length_cons, List.length_nil, List.replicate_succ, List.replicate_zero, List.cons_append, List.nil_append, List.getElem?_cons_zero, List.getElem?_cons_succ, List.set_cons_zero, List.set_cons_succ, Nat.reduceAdd, Nat.reduceSub, Nat.zero_add, eF, hi]
theorem imms_J (l : List Jn) : D.imms (l.map encJ) = true := imms_map (fun _ => rfl) l
theorem eq_O (b : Option Jn) : eqR true (encO b) (encO b) = .ok (.bl false) := by
  cases b with
  | none => rfl
  | some j =>
    show eqR true (.str (S (jtx j))) (.str (S (jtx j))) = _
    rw [ev_nes, beq_self_eq_true]
    rfl
theorem eqF_J (n : Nat) : ∀ l : List Jn, eqZip (eqF n) (l.map encJ) (l.map encJ) = some true
  | [] => rfl
  | j :: l => by
    rw [List.map_cons]
    unfold eqZip
    rw [eqF_J n l]
    have : eqF n (encJ j) (encJ j) = some true := by
      have e : eqF n (encJ j) (encJ j) = some (S (jtx j) == S (jtx j)) := by cases n <;> rfl
      rw [e, beq_self_eq_true]
    rw [this]
    rfl
theorem eq_J (l : List Jn) : eqR true (.lst (l.map encJ)) (.lst (l.map encJ)) = .ok (.bl false) := by
  refine ev_eqne (fun _ _ h => by cases h) ?_
  show (if (l.map encJ).length = (l.map encJ).length then eqZip (eqF 11) (l.map encJ) (l.map encJ) else some false) = _
  rw [if_pos rfl]
  exact eqF_J 11 l
theorem drop1 (l : List Jn) : slD (.lst (l.map encJ)) (some 1) none = .ok (.lst ((l.drop 1).map encJ)) := by
  rw [ev_slL (imms_J l)]
  cases l with
  | nil => rfl
  | cons j l =>
    have := cut_from (xs := (j :: l).map encJ) (a := 1) (by simp)
    have : cutL ((j :: l).map encJ) (some 1) none = ((j :: l).map encJ).drop 1 := this
    rw [this, List.map_drop]
theorem pop_J (l : List Jn) (s0 s1 s3 : Option D) : (sIf (eTest (eBin gtD (eL lenD (aCons (eVar 2) aNil)) (eC (.int 0)))) (sPop0 2) sSkip) [s0, s1, some (.lst (l.map encJ)), s3] = .ok (.nx [s0, s1, some (.lst ((l.drop 1).map encJ)), s3]) := by
  cases l with
  | nil =>
    have e : lenD [.lst ([] : List D)] = .ok (.int 0) := rfl
    have e2 : gtD (.int 0) (.int 0) = .ok (.bl false) := rfl
    show (sIf _ _ _) [s0, s1, some (.lst []), s3] = R.ok (Fl.nx [s0, s1, some (.lst []), s3])
    simp only [sSkip, sIf, eVar, eC, eBin, eL, aNil, aCons, eTest, asB, R.ok_bind, List.getElem?_cons_zero, List.getElem?_cons_succ, if_false, Bool.false_eq_true, e, e2]
  | cons j l =>
    have e : lenD [.lst ((j :: l).map encJ)] = .ok (.int (((j :: l).map encJ).length : Nat)) := rfl
    have e2 : gtD (.int (((j :: l).map encJ).length : Nat)) (.int 0) = .ok (.bl true) := by
      rw [ev_gt, decide_eq_true (by rw [List.length_map, List.length_cons]; omega)]
    have e3 : sPop0 2 [s0, s1, some (.lst ((j :: l).map encJ)), s3] = .ok (.nx [s0, s1, some (.lst (((j :: l).drop 1).map encJ)), s3]) := rfl
    generalize ((((j :: l).map encJ).length : Nat) : Int) = n at *
    generalize ((j :: l).drop 1).map encJ = L' at *
    generalize (j :: l).map encJ = L at *
    simp only [sSkip, sIf, eVar, eC, eBin, eL, aNil, aCons, eTest, asB, R.ok_bind, List.getElem?_cons_zero, List.getElem?_cons_succ, if_true, e, e2, e3]
theorem bS1_ok (BK W O : D) (P : Int) (h1 : F_telling [BK, W, .int P] = .ok O) (h2 : F__law_told [BK, W, .int P] = .ok O) (h3 : eqR true O O = .ok (.bl false)) (h4 : eqR true BK BK = .ok (.bl false)) : bS1 [some BK, some W, some BK, some (.int P)] = .ok (.nx [some BK, some W, some BK, some (.int P)]) := by
  simp only [bS1, sSkip, sRet, sIf, eVar, eC, eBin, eL, aNil, aCons, eTest, bOr, asB, R.ok_bind, List.getElem?_cons_zero, List.getElem?_cons_succ, if_false, Bool.false_eq_true, h1, h2, h3, h4]
theorem bS2_ok (BK BK2 W O : D) (P : Int) (h1 : F_telling [BK2, W, .int P] = .ok O) (h2 : F__law_told [BK2, W, .int P] = .ok O) (h3 : eqR true O O = .ok (.bl false)) (h4 : slD BK (some 1) none = .ok BK2) : bS2 [some BK, some W, some BK2, some (.int P)] = .ok (.nx [some BK, some W, some BK2, some (.int P)]) := by
  simp only [bS2, sSkip, sRet, sIf, eVar, eC, eBin, eL, aNil, aCons, eTest, eSl, oNone, oSome, asB, R.ok_bind, List.getElem?_cons_zero, List.getElem?_cons_succ, if_false, Bool.false_eq_true, h1, h2, h3, h4]
theorem same_loop {body : Tn -> R Fl} (a b c y : Option D) (n : Nat) (h : ∀ i, i < n -> body [a, b, c, some (.int ((1 : Int) + (i : Nat)))] = .ok (.nx [a, b, c, some (.int ((1 : Int) + (i : Nat)))])) : ∃ y', forGo (Tgt.one 3).asg body (rng 1 n) [a, b, c, y] = .ok (.nx [a, b, c, y']) := by
  obtain ⟨τ', e2, y', e⟩ := forGo_inv (asg := (Tgt.one 3).asg) (body := body) (fun _ τ => ∃ y', τ = [a, b, c, y']) (rng 1 n) 0 [a, b, c, y] ⟨y, rfl⟩ (fun i q τ hd ⟨y', e⟩ => by
    obtain ⟨hi, rfl⟩ := rng_get hd
    subst e
    exact ⟨_, _, rfl, .inl (h i hi), _, rfl⟩)
  exact ⟨y', by rw [e2, e]⟩
theorem tells (cs : List Nat) (hc : ∀ c ∈ cs, c < 128) (hl : cs.length <= 40) (h1 : 1 <= cs.length) (l : List Jn) (hJ : ∀ j ∈ l, Jk j) : F__law_tells [.lst (l.map encJ), .str (S cs)] = .ok (.bl true) := by
  have h2 := len_S cs (by lia)
  have e1 : rng2 [D.int 1, D.int (cs.length : Nat)] = .ok (rng 1 (((cs.length : Nat) : Int) - 1).toNat) := ev_rng2 (by lia) (by lia) (by lia) (by lia)
  have en : (((cs.length : Nat) : Int) - 1).toNat = cs.length - 1 := by lia
  rw [en] at e1
  have hJ2 : ∀ j ∈ l.drop 1, Jk j := fun j h => hJ j (List.mem_of_mem_drop h)
  have hp := pop_J l (some (.lst (l.map encJ))) (some (.str (S cs)))
  have hd := drop1 l
  obtain ⟨y1, f1⟩ := same_loop (body := bS1) (some (.lst (l.map encJ))) (some (.str (S cs))) (some (.lst (l.map encJ))) none (cs.length - 1) fun i hi => by
    have ep : (1 : Int) + (i : Nat) = ((1 + i : Nat) : Int) := by lia
    rw [ep]
    exact bS1_ok _ _ _ _ (telling cs hc hl (1 + i) (by lia) l hJ) (told cs hc hl (1 + i) (by lia) l hJ) (eq_O _) (eq_J l)
  obtain ⟨y2, f2⟩ := same_loop (body := bS2) (some (.lst (l.map encJ))) (some (.str (S cs))) (some (.lst ((l.drop 1).map encJ))) y1 (cs.length - 1) fun i hi => by
    have ep : (1 : Int) + (i : Nat) = ((1 + i : Nat) : Int) := by lia
    rw [ep]
    exact bS2_ok _ _ _ _ _ (telling cs hc hl (1 + i) (by lia) _ hJ2) (told cs hc hl (1 + i) (by lia) _ hJ2) (eq_O _) hd
  have hli := ev_list1 (imms_J l)
  have hp := hp y1
  rw [tTS]
  generalize (l.drop 1).map encJ = L2 at *
  generalize l.map encJ = L at *
  generalize cs.length - 1 = N at *
  generalize ((cs.length : Nat) : Int) = NN at *
  generalize S cs = W at *
  have F1 : sFor (iL rng2 (aCons (eC (.int 1)) (aCons (eL lenD (aCons (eVar 1) aNil)) aNil))) (.one 3) bS1 [some (.lst L), some (.str W), some (.lst L), none] = _ := ev_for (by simp -implicitDefEqProofs only [eVar, eC, eL, aNil, aCons, iL, R.ok_bind, List.getElem?_cons_zero, List.getElem?_cons_succ, h2, e1]) f1
  have F2 : sFor (iL rng2 (aCons (eC (.int 1)) (aCons (eL lenD (aCons (eVar 1) aNil)) aNil))) (.one 3) bS2 [some (.lst L), some (.str W), some (.lst L2), y1] = _ := ev_for (by simp -implicitDefEqProofs only [eVar, eC, eL, aNil, aCons, iL, R.ok_bind, List.getElem?_cons_zero, List.getElem?_cons_succ, h2, e1]) f2
  revert hp
  generalize (sIf (eTest (eBin gtD (eL lenD (aCons (eVar 2) aNil)) (eC (.int 0)))) (sPop0 2) sSkip) = SP
  intro hp
  simp -implicitDefEqProofs only [TTS, runB, sSeq, sSet, sRet, eVar, eC, eL, aNil, aCons, R.ok_bind, List.map_cons, List.map_nil, List.length_cons, List.length_nil, List.replicate_succ, List.replicate_zero, List.cons_append, List.nil_append, List.getElem?_cons_zero, List.set_cons_zero, List.set_cons_succ, Nat.reduceAdd, Nat.reduceSub, Nat.zero_add, hli, F1, F2, hp]
end K04

set_option maxRecDepth 100000
set_option maxHeartbeats 4000000
namespace K04
open PySem PyProof.Rows L2
noncomputable def TIJ (A : Str) : Tn -> R Fl := (sSeq (sIf (bOr (bNot (eTest (eUn (isiD "str") (eVar 0)))) (bNot (eTest (eChain ltD leD (eC (.int 2)) (eL lenD (aCons (eVar 0) aNil)) (eBin addD (eC (.int 8)) (eC (.int 1))))))) (sRet (eC (.bl false))) sSkip) (sSeq (sSet 1 (eL F_letters_of (aCons (eVar 0) aNil))) (sSeq (sIf (bOr (eTest (eBin (eqR true) (eL lenD (aCons (eVar 1) aNil)) (eBin subD (eL lenD (aCons (eVar 0) aNil)) (eC (.int 1))))) (bNot (eTest (eChain ltD ltD (eC (.int 0)) (eL F_mark_at (aCons (eVar 0) aNil)) (eBin subD (eL lenD (aCons (eVar 0) aNil)) (eC (.int 1))))))) (sRet (eC (.bl false))) sSkip) (sRet (eL allD (aCons (eComp [none] (iSeq (eVar 1)) (.one 0) (fun _ => .ok true) (eBin inSD (eVar 0) (eC (.str A)))) aNil))))))
theorem tIJ : F_is_joint = runB 2 (TIJ AZ) := rfl
noncomputable def bIB : Tn -> R Fl := (sSeq (sIf (bNot (eTest (eL F_is_joint (aCons (eVar 2) aNil)))) (sRet (eC (.bl false))) sSkip) (sSeq (sSet 3 (eUn (replD "=" "-") (eVar 2))) (sSeq (sIf (eTest (eBin inKD (eVar 3) (eVar 1))) (sRet (eC (.bl false))) sSkip) (sKPut 1 (eC (.bl true)) (eVar 3)))))
noncomputable def TIB : Tn -> R Fl := (sSeq (sIf (bOr (bNot (eTest (eUn (isiD "list") (eVar 0)))) (eTest (eBin gtD (eL lenD (aCons (eVar 0) aNil)) (eC (.int 100))))) (sRet (eC (.bl false))) sSkip) (sSeq (sSet 1 (eC (.dic [] []))) (sSeq (sFor (iSeq (eVar 0)) (.one 2) bIB) (sRet (eC (.bl true))))))
theorem tIB : F_is_book = runB 4 TIB := rfl
theorem signs_S (cs : List Nat) : L2.signs (S cs) = cs.map enc1 := by
  unfold L2.signs
  rw [S_cps]
  rfl
theorem letters_gen (l : List Nat) (h : l.length <= 100) : F_letters_of [.str (S l)] = .ok (.str (S ((l.filter (· != 45)).filter (· != 61)))) := by
  have r0 : ∀ (l : List Nat) (c : Nat), l.length <= 100 -> replD (one c) "" (.str (S l)) = .ok (.str (S (l.filter (· != c)))) := fun l c h => by
    show (if (S l).length <= 1048576 then R.ok (D.str (Txt.replace (S l) (one c) ⟨#[]⟩)) else R.bad) = _
    rw [if_pos (by rw [S_len]; lia), strike]
  have r1 := r0 l 45 h
  have r2 := r0 (l.filter (· != 45)) 61 (Nat.le_trans (List.length_filter_le _ _) h)
  have c1 : (one 45) = ("-" : Str) := rfl
  have c2 : (one 61) = ("=" : Str) := rfl
  rw [c1] at r1
  rw [c2] at r2
  generalize S ((l.filter (· != 45)).filter (· != 61)) = J3 at *
  generalize S (l.filter (· != 45)) = J2 at *
  generalize S l = J at *
  simp only [F_letters_of, t_letters_of, runB, sRet, eVar, eUn, R.ok_bind, List.map_cons, List.map_nil, List.length_cons, List.length_nil, List.replicate_zero, List.cons_append, List.nil_append, List.getElem?_cons_zero, Nat.reduceSub, Nat.zero_add, r1, r2]
theorem is_joint_no (d : D) (h : isiD "str" d = .ok (.bl false)) : F_is_joint [d] = .ok (.bl false) := by
  rw [tIJ]
  simp only [TIJ, ev_eComp, ev_ctN, ev_ctO, sSkip, runB, sSeq, sSet, sRet, sIf, eVar, eC, eBin, eUn, eL, aNil, aCons, eTest, bOr, bNot, eChain, iSeq, asB, R.ok_bind, List.map_cons, List.map_nil, List.length_cons, List.length_nil, List.replicate_succ, List.replicate_zero, List.cons_append, List.nil_append, List.getElem?_cons_zero, Nat.reduceSub, Nat.zero_add, ev_add, if_true, Int.reduceAdd, h, Bool.not_false]
theorem is_joint_len (cs : List Nat) (h : cs.length <= 2 \/ 9 < cs.length) (hl : cs.length <= 1000) : F_is_joint [.str (S cs)] = .ok (.bl false) := by
  have i1 : isiD "str" (.str (S cs)) = .ok (.bl true) := rfl
  have h2 := len_S cs hl
  have e9 : (8 : Int) + 1 = 9 := rfl
  rw [tIJ]
  by_cases h3 : 2 < cs.length
  · have e1 : decide ((2 : Int) < (cs.length : Nat)) = true := decide_eq_true (by lia)
    have e2 : decide (((cs.length : Nat) : Int) <= 9) = false := decide_eq_false (by lia)
    generalize ((cs.length : Nat) : Int) = l at *
    generalize S cs = W at *
    simp only [TIJ, ev_eComp, ev_ctN, ev_ctO, sSkip, runB, sSeq, sSet, sRet, sIf, eVar, eC, eBin, eUn, eL, aNil, aCons, eTest, bOr, bNot, eChain, iSeq, asB, R.ok_bind, List.map_cons, List.map_nil, List.length_cons, List.length_nil, List.replicate_succ, List.replicate_zero, List.cons_append, List.nil_append, List.getElem?_cons_zero, Nat.reduceSub, Nat.zero_add, ev_add, ev_lt, ev_le, if_true, if_false, Bool.false_eq_true, i1, h2, e9, e1, e2, Bool.not_true, Bool.not_false]
  · have e1 : decide ((2 : Int) < (cs.length : Nat)) = false := decide_eq_false (by lia)
    generalize ((cs.length : Nat) : Int) = l at *
    generalize S cs = W at *
    simp only [TIJ, ev_eComp, ev_ctN, ev_ctO, sSkip, runB, sSeq, sSet, sRet, sIf, eVar, eC, eBin, eUn, eL, aNil, aCons, eTest, bOr, bNot, eChain, iSeq, asB, R.ok_bind, List.map_cons, List.map_nil, List.length_cons, List.length_nil, List.replicate_succ, List.replicate_zero, List.cons_append, List.nil_append, List.getElem?_cons_zero, Nat.reduceSub, Nat.zero_add, ev_add, ev_lt, ev_le, if_true, if_false, Bool.false_eq_true, i1, h2, e9, e1, Bool.not_true, Bool.not_false]
theorem is_joint_two (cs : List Nat) (h0 : 2 < cs.length) (h1 : cs.length <= 9) (hx : ((cs.filter (· != 45)).filter (· != 61)).length + 1 ≠ cs.length) : F_is_joint [.str (S cs)] = .ok (.bl false) := by
  have i1 : isiD "str" (.str (S cs)) = .ok (.bl true) := rfl
  have h2 := len_S cs (by lia)
  have e9 : (8 : Int) + 1 = 9 := rfl
  have e1 : decide ((2 : Int) < (cs.length : Nat)) = true := decide_eq_true (by lia)
  have e2 : decide (((cs.length : Nat) : Int) <= 9) = true := decide_eq_true (by lia)
  have hg := letters_gen cs (by lia)
  have h3 := len_S ((cs.filter (· != 45)).filter (· != 61)) (Nat.le_trans (List.length_filter_le _ _) (Nat.le_trans (List.length_filter_le _ _) (by lia)))
  have e3 := ev_nei (((cs.filter (· != 45)).filter (· != 61)).length : Nat) (((cs.length : Nat) : Int) - 1)
  rw [beq_false_of_ne (by lia)] at e3
  rw [tIJ]
  generalize S ((cs.filter (· != 45)).filter (· != 61)) = J3 at *
  generalize ((((cs.filter (· != 45)).filter (· != 61)).length : Nat) : Int) = l3 at *
  generalize ((cs.length : Nat) : Int) = l at *
  generalize S cs = W at *
  simp only [TIJ, ev_eComp, ev_ctN, ev_ctO, sSkip, runB, sSeq, sSet, sRet, sIf, eVar, eC, eBin, eUn, eL, aNil, aCons, eTest, bOr, bNot, eChain, iSeq, asB, R.ok_bind, List.map_cons, List.map_nil, List.length_cons, List.length_nil, List.replicate_succ, List.replicate_zero, List.cons_append, List.nil_append, List.getElem?_cons_zero, List.getElem?_cons_succ, List.set_cons_zero, List.set_cons_succ, Nat.reduceSub, Nat.zero_add, ev_add, ev_sub, ev_lt, ev_le, if_true, if_false, Bool.false_eq_true, i1, h2, e9, e1, e2, hg, h3, e3, Bool.not_true, Bool.not_false]
theorem is_joint_g (Z : Str) (A B : List Nat) (m : Nat) (j : Jt A B m) (h0 : 2 < A.length + 1 + B.length) : runB 2 (TIJ Z) [.str (S (A ++ m :: B))] = .ok (.bl (decide (0 < A.length) && (decide (0 < B.length) && (A ++ B).all fun c => decide (c ∈ Z.cps.toList)))) := by
  have i1 : isiD "str" (.str (S (A ++ m :: B))) = .ok (.bl true) := rfl
  have hl : (A ++ m :: B).length = A.length + 1 + B.length := by rw [List.length_append, List.length_cons]; lia
  have h9 := j.l1
  have h2 := len_S (A ++ m :: B) (by lia)
  have e9 : (8 : Int) + 1 = 9 := rfl
  have e1 : decide ((2 : Int) < ((A ++ m :: B).length : Nat)) = true := decide_eq_true (by lia)
  have e2 : decide ((((A ++ m :: B).length : Nat) : Int) <= 9) = true := decide_eq_true (by lia)
  have hg := letters_of A B m j
  have hm := mark_at A B m j
  have h3 := len_S (A ++ B) (by rw [List.length_append]; lia)
  have e3 := ev_nei ((A ++ B).length : Nat) ((((A ++ m :: B).length : Nat) : Int) - 1)
  rw [(beq_iff_eq (a := (((A ++ B).length : Nat) : Int))).mpr (by rw [List.length_append]; lia)] at e3
  have hc : compL (compF (Tgt.one 0).asg (fun _ => .ok true) (eBin inSD (eVar 0) (eC (.str Z))) [none]) ((A ++ B).map enc1) = .ok ((A ++ B).filterMap fun c => some (D.bl (decide (c ∈ Z.cps.toList)))) := compL_enc fun c _ => by
    have h3 : inSD (.str (one c)) (.str Z) = .ok (.bl (decide (c ∈ Z.cps.toList))) := by
      show R.ok (D.bl (inS (one c) Z)) = _
      rw [inS_one]
    unfold enc1
    generalize decide (c ∈ Z.cps.toList) = bb at *
    generalize one c = z at *
    simp only [compF, noErr_ok', eVar, eC, eBin, Tgt.asg, R.ok_bind, List.getElem?_cons_zero, List.set_cons_zero, if_true, h3]
  have e5 : ∀ l : List Nat, (l.filterMap fun c => some (D.bl (decide (c ∈ Z.cps.toList)))) = (l.map fun c => decide (c ∈ Z.cps.toList)).map D.bl := fun l => by
    rw [List.map_map]
    induction l with
    | nil => rfl
    | cons c cs ih => rw [List.filterMap_cons, List.map_cons, ih]; rfl
  rw [e5] at hc
  have hk := ev_lstD (ys := ((A ++ B).map fun c => decide (c ∈ Z.cps.toList)).map D.bl) (by rw [List.length_map, List.length_map, List.length_append]; lia)
  have ha := ev_allD (bs := (A ++ B).map fun c => decide (c ∈ Z.cps.toList))
  have e4 : (((A ++ B).map fun c => decide (c ∈ Z.cps.toList)).all id) = (A ++ B).all fun c => decide (c ∈ Z.cps.toList) := by rw [List.all_map]; rfl
  rw [e4] at ha
  have hs := signs_S (A ++ B)
  have z1 : decide ((0 : Int) < (A.length : Nat)) = decide (0 < A.length) := by congr 1; exact propext ⟨fun h => by lia, fun h => by lia⟩
  have z2 : decide (((A.length : Nat) : Int) < (((A ++ m :: B).length : Nat) : Int) - 1) = decide (0 < B.length) := by congr 1; exact propext ⟨fun h => by lia, fun h => by lia⟩
  generalize decide (0 < B.length) = r2 at *
  generalize decide (0 < A.length) = r1 at *
  generalize ((A ++ B).map fun c => decide (c ∈ Z.cps.toList)).map D.bl = BL at *
  generalize ((A ++ B).all fun c => decide (c ∈ Z.cps.toList)) = r3 at *
  generalize (A ++ B).map enc1 = L at *
  generalize (((A ++ B).length : Nat) : Int) = l2 at *
  generalize S (A ++ B) = J2 at *
  generalize (((A ++ m :: B).length : Nat) : Int) = l at *
  generalize S (A ++ m :: B) = W at *
  generalize ((A.length : Nat) : Int) = a at *
  cases r1 with
  | false => simp only [TIJ, ev_eComp, ev_ctN, ev_ctO, sSkip, runB, sSeq, sSet, sRet, sIf, eVar, eC, eBin, eUn, eL, aNil, aCons, eTest, bOr, bNot, eChain, iSeq, asB, R.ok_bind, List.map_cons, List.map_nil, List.length_cons, List.length_nil, List.replicate_succ, List.replicate_zero, List.cons_append, List.nil_append, List.getElem?_cons_zero, List.getElem?_cons_succ, List.set_cons_zero, List.set_cons_succ, Nat.reduceSub, Nat.zero_add, ev_add, ev_sub, ev_lt, ev_le, if_true, if_false, Bool.false_eq_true, i1, h2, e9, e1, e2, hg, h3, e3, hm, z1, Bool.not_true, Bool.not_false, Bool.false_and]
  | true =>
    cases r2 with
    | false => simp only [TIJ, ev_eComp, ev_ctN, ev_ctO, sSkip, runB, sSeq, sSet, sRet, sIf, eVar, eC, eBin, eUn, eL, aNil, aCons, eTest, bOr, bNot, eChain, iSeq, asB, R.ok_bind, List.map_cons, List.map_nil, List.length_cons, List.length_nil, List.replicate_succ, List.replicate_zero, List.cons_append, List.nil_append, List.getElem?_cons_zero, List.getElem?_cons_succ, List.set_cons_zero, List.set_cons_succ, Nat.reduceSub, Nat.zero_add, ev_add, ev_sub, ev_lt, ev_le, if_true, if_false, Bool.false_eq_true, i1, h2, e9, e1, e2, hg, h3, e3, hm, z1, z2, Bool.not_true, Bool.not_false, Bool.false_and, Bool.true_and]
    | true => simp only [TIJ, ev_eComp, ev_ctN, ev_ctO, sSkip, runB, sSeq, sSet, sRet, sIf, eVar, eC, eBin, eUn, eL, aNil, aCons, eTest, bOr, bNot, eChain, iSeq, asB, asSeq, R.ok_bind, List.map_cons, List.map_nil, List.length_cons, List.length_nil, List.replicate_succ, List.replicate_zero, List.cons_append, List.nil_append, List.getElem?_cons_zero, List.getElem?_cons_succ, List.set_cons_zero, List.set_cons_succ, Nat.reduceSub, Nat.zero_add, ev_add, ev_sub, ev_lt, ev_le, if_true, if_false, Bool.false_eq_true, i1, h2, e9, e1, e2, hg, h3, e3, hm, z1, z2, hs, hc, hk, ha, Bool.not_true, Bool.true_and]
theorem is_joint_jt (A B : List Nat) (m : Nat) (j : Jt A B m) (h0 : 2 < A.length + 1 + B.length) : F_is_joint [.str (S (A ++ m :: B))] = .ok (.bl (decide (0 < A.length) && (decide (0 < B.length) && (A ++ B).all fun c => decide (c ∈ AZ.cps.toList)))) := by
  rw [tIJ]
  exact is_joint_g AZ A B m j h0
structure Jz (j : Jn) : Prop where
  k : Jk j
  a : 0 < j.1.length
  b : 0 < j.2.2.length
  z : ∀ c ∈ j.1 ++ j.2.2, okL c
theorem Jz.is {j : Jn} (h : Jz j) : F_is_joint [encJ j] = .ok (.bl true) := by
  have := is_joint_jt j.1 j.2.2 j.2.1 h.k (by have := h.a; have := h.b; lia)
  rw [decide_eq_true h.a, decide_eq_true h.b, Bool.true_and, Bool.true_and] at this
  have e : ((j.1 ++ j.2.2).all fun c => decide (c ∈ AZ.cps.toList)) = true := List.all_eq_true.mpr fun c hc => decide_eq_true (h.z c hc)
  rw [e] at this
  exact this
noncomputable def sw (c d k : Nat) : Nat := if k = c then d else k
theorem sw_free (c d : Nat) : ∀ l : List Nat, c ∉ l -> l.map (sw c d) = l
  | [], _ => rfl
  | k :: r, h => by
    have h1 : ¬ k = c := fun e => h (e ▸ List.mem_cons_self ..)
    have h2 : c ∉ r := fun m => h (List.mem_cons_of_mem _ m)
    rw [List.map_cons, sw_free c d r h2]
    unfold sw
    rw [if_neg h1]
theorem sw_join (c d : Nat) : ∀ parts : List Str, (∀ p ∈ parts, c ∉ p.cps.toList) -> (Str.join ⟨#[c]⟩ parts).cps.toList.map (sw c d) = (Str.join ⟨#[d]⟩ parts).cps.toList
  | [], _ => rfl
  | [p], h => sw_free c d _ (h p (List.mem_singleton.mpr rfl))
  | p :: q :: r, h => by
    have ih := sw_join c d (q :: r) fun a ha => h a (List.mem_cons_of_mem _ ha)
    show (p ++ ⟨#[c]⟩ ++ Str.join ⟨#[c]⟩ (q :: r)).cps.toList.map (sw c d) = (p ++ ⟨#[d]⟩ ++ Str.join ⟨#[d]⟩ (q :: r)).cps.toList
    simp only [Str.cps_append, Array.toList_append, List.map_append]
    rw [ih, sw_free c d _ (h p (List.mem_cons_self ..))]
    show p.cps.toList ++ [sw c d c] ++ _ = _
    unfold sw
    rw [if_pos rfl]
theorem swap (l : List Nat) (c d : Nat) : Txt.replace (S l) (one c) (one d) = S (l.map (sw c d)) := by
  have h : Txt.replace (S l) ⟨#[c]⟩ ⟨#[d]⟩ = S (l.map (sw c d)) := by
    rw [str_S (Txt.replace (S l) ⟨#[c]⟩ ⟨#[d]⟩), StrLaws.replace_one, <- sw_join c d _ (StrLaws.split_free (S l) c), StrLaws.join_split, S_cps]
  exact h
noncomputable def plc (j : Jn) : List Nat := j.1 ++ 45 :: j.2.2
theorem repl_J (j : Jn) (h : Jk j) : replD "=" "-" (encJ j) = .ok (.str (S (plc j))) := by
  show (if (S (jtx j)).length <= 1048576 then R.ok (D.str (Txt.replace (S (jtx j)) (one 61) (one 45))) else R.bad) = _
  rw [if_pos (by rw [S_len]; have := h.len; lia), swap]
  have e : (jtx j).map (sw 61 45) = plc j := by
    unfold jtx plc
    rw [List.map_append, List.map_cons, sw_free 61 45 j.1 fun z => (h.a1 61 z).2 rfl, sw_free 61 45 j.2.2 fun z => (h.b1 61 z).2 rfl]
    have : sw 61 45 j.2.1 = 45 := by
      unfold sw
      rcases h.mm with e | e <;> rw [e] <;> rfl
    rw [this]
  rw [e]
noncomputable def kr (z : Str) : Key := .inr z
noncomputable def dk (ks : List Str) : D := .dic (ks.map kr) (ks.map fun _ => .bl true)
theorem look_dk (z : Str) : ∀ ks : List Str, (lookD (ks.map kr) (ks.map fun _ => D.bl true) (.inr z)).isSome = decide (z ∈ ks)
  | [] => rfl
  | k :: ks => by
    rw [List.map_cons, List.map_cons]
    show (if kr k = kr z then some (D.bl true) else lookD (ks.map kr) (ks.map fun _ => D.bl true) (kr z)).isSome = _
    by_cases h : kr k = kr z
    · rw [if_pos h]
      cases h
      rw [decide_eq_true (List.mem_cons_self ..)]
      rfl
    · have ih := look_dk z ks
      rw [if_neg h]
      refine ih.trans ?_
      congr 1
      refine propext ⟨fun q => List.mem_cons_of_mem _ q, fun q => ?_⟩
      rcases List.mem_cons.mp q with e | e
      · exact absurd (by rw [e]) h
      · exact e
theorem in_dk (z : Str) (ks : List Str) : inKD (.str z) (dk ks) = .ok (.bl (decide (z ∈ ks))) := by
  show R.ok (D.bl (lookD (ks.map kr) (ks.map fun _ => D.bl true) (.inr z)).isSome) = _
  rw [look_dk]
theorem put_dk (z : Str) (ks : List Str) (h : z ∉ ks) : putP (ks.map kr) (ks.map fun _ => D.bl true) (.inr z) (.bl true) = ((ks ++ [z]).map kr, (ks ++ [z]).map fun _ => D.bl true) := by
  unfold putP
  rw [if_neg (fun q => by
    obtain ⟨y, hy, e⟩ := List.mem_map.mp q
    cases e
    exact h hy), List.map_append, List.map_append]
  rfl
noncomputable def goB : List (Option Jn) -> List Str -> Bool
  | [], _ => true
  | none :: _, _ => false
  | some j :: r, ks => if S (plc j) ∈ ks then false else goB r (ks ++ [S (plc j)])
noncomputable def It (d : D) (o : Option Jn) : Prop := F_is_joint [d] = .ok (.bl o.isSome) /\ ∀ j, o = some j -> d = encJ j /\ Jk j
theorem bIB_no (T d : D) (ks : List Str) (y3 : Option D) (h : F_is_joint [d] = .ok (.bl false)) : bIB [some T, some (dk ks), some d, y3] = .ok (.rt (.bl false)) := by
  generalize dk ks = Z at *
  simp only [bIB, sSkip, sSeq, sSet, sRet, sIf, eVar, eC, eBin, eUn, eL, aNil, aCons, eTest, bNot, asB, R.ok_bind, List.getElem?_cons_zero, List.getElem?_cons_succ, if_true, h, Bool.not_false]
theorem bIB_in (T d : D) (p : Str) (ks : List Str) (y3 : Option D) (h : F_is_joint [d] = .ok (.bl true)) (h2 : replD "=" "-" d = .ok (.str p)) (h3 : p ∈ ks) : bIB [some T, some (dk ks), some d, y3] = .ok (.rt (.bl false)) := by
  have h4 := in_dk p ks
  rw [decide_eq_true h3] at h4
  generalize dk ks = Z at *
  simp only [bIB, sSkip, sSeq, sSet, sRet, sIf, eVar, eC, eBin, eUn, eL, aNil, aCons, eTest, bNot, asB, R.ok_bind, List.getElem?_cons_zero, List.getElem?_cons_succ, List.set_cons_zero, List.set_cons_succ, if_true, if_false, Bool.false_eq_true, h, h2, h4, Bool.not_true]
theorem bIB_put (T d : D) (p : Str) (ks : List Str) (y3 : Option D) (h : F_is_joint [d] = .ok (.bl true)) (h2 : replD "=" "-" d = .ok (.str p)) (h3 : p ∉ ks) (hl : ks.length <= 100) : bIB [some T, some (dk ks), some d, y3] = .ok (.nx [some T, some (dk (ks ++ [p])), some d, some (.str p)]) := by
  have h4 := in_dk p ks
  rw [decide_eq_false h3] at h4
  have h5 : sKPut 1 (eC (.bl true)) (eVar 3) [some T, some (dk ks), some d, some (.str p)] = .ok (.nx [some T, some (dk (ks ++ [p])), some d, some (.str p)]) := by
    rw [ev_sKPut]
    show kputD 1 _ (.bl true) (.dic (ks.map kr) (ks.map fun _ => .bl true)) (.str p) = _
    rw [ev_kput rfl (by rw [List.length_map]; lia), put_dk p ks h3]
    rfl
  generalize dk (ks ++ [p]) = Z2 at *
  generalize dk ks = Z at *
  simp only [bIB, sSkip, sSeq, sSet, sRet, sIf, eVar, eC, eBin, eUn, eL, aNil, aCons, eTest, bNot, asB, R.ok_bind, List.getElem?_cons_zero, List.getElem?_cons_succ, List.set_cons_zero, List.set_cons_succ, if_false, Bool.false_eq_true, h, h2, h4, h5, Bool.not_true]
theorem lIB (T : D) : ∀ (xs : List (D × Option Jn)) (_ : ∀ x ∈ xs, It x.1 x.2) (ks : List Str) (_ : ks.length + xs.length <= 100) (y2 y3 : Option D),
    (goB (xs.map Prod.snd) ks = false /\ forGo (Tgt.one 2).asg bIB (xs.map Prod.fst) [some T, some (dk ks), y2, y3] = .ok (.rt (.bl false))) \/ (goB (xs.map Prod.snd) ks = true /\ ∃ z y2' y3', forGo (Tgt.one 2).asg bIB (xs.map Prod.fst) [some T, some (dk ks), y2, y3] = .ok (.nx [some T, z, y2', y3']))
  | [], _, ks, _, y2, y3 => .inr ⟨rfl, some (dk ks), y2, y3, rfl⟩
  | (d, o) :: xs, hx, ks, hl, y2, y3 => by
    obtain ⟨h1, h2⟩ := hx (d, o) List.mem_cons_self
    dsimp only at h1 h2
    rw [List.map_cons, List.map_cons, ev_forC]
    show (goB (o :: xs.map Prod.snd) ks = false /\ (bIB [some T, some (dk ks), some d, y3]).bind _ = _) \/ (goB (o :: xs.map Prod.snd) ks = true /\ ∃ z y2' y3', (bIB [some T, some (dk ks), some d, y3]).bind _ = _)
    cases o with
    | none =>
      refine .inl ⟨rfl, ?_⟩
      rw [bIB_no T d ks y3 h1, R.ok_bind, ev_goR]
    | some j =>
      obtain ⟨rfl, hj⟩ := h2 j rfl
      have hr := repl_J j hj
      by_cases hm : S (plc j) ∈ ks
      · refine .inl ⟨if_pos hm, ?_⟩
        rw [bIB_in T _ _ ks y3 h1 hr hm, R.ok_bind, ev_goR]
      · have eg : goB (some j :: xs.map Prod.snd) ks = goB (xs.map Prod.snd) (ks ++ [S (plc j)]) := if_neg hm
        rw [List.length_cons] at hl
        rw [eg, bIB_put T _ _ ks y3 h1 hr hm (by lia), R.ok_bind, ev_goN]
        exact lIB T xs (fun x h => hx x (List.mem_cons_of_mem _ h)) (ks ++ [S (plc j)]) (by rw [List.length_append, List.length_singleton]; lia) _ _
theorem is_book_no (d : D) (h : isiD "list" d = .ok (.bl false)) : F_is_book [d] = .ok (.bl false) := by
  rw [tIB]
  simp only [TIB, sSkip, runB, sSeq, sSet, sRet, sIf, eVar, eC, eBin, eUn, eL, aNil, aCons, eTest, bOr, bNot, asB, R.ok_bind, List.map_cons, List.map_nil, List.length_cons, List.length_nil, List.replicate_succ, List.replicate_zero, List.cons_append, List.nil_append, List.getElem?_cons_zero, Nat.reduceSub, Nat.zero_add, if_true, h, Bool.not_false]
theorem is_book_long (ds : List D) (h : 100 < ds.length) : F_is_book [.lst ds] = .ok (.bl false) := by
  have i1 : isiD "list" (.lst ds) = .ok (.bl true) := rfl
  have e : lenD [.lst ds] = .ok (.int (ds.length : Nat)) := rfl
  have e1 : decide (((ds.length : Nat) : Int) > 100) = true := decide_eq_true (by lia)
  rw [tIB]
  generalize ((ds.length : Nat) : Int) = n at *
  simp only [TIB, sSkip, runB, sSeq, sSet, sRet, sIf, eVar, eC, eBin, eUn, eL, aNil, aCons, eTest, bOr, bNot, asB, R.ok_bind, List.map_cons, List.map_nil, List.length_cons, List.length_nil, List.replicate_succ, List.replicate_zero, List.cons_append, List.nil_append, List.getElem?_cons_zero, Nat.reduceSub, Nat.zero_add, ev_gt, if_true, if_false, Bool.false_eq_true, i1, e, e1, Bool.not_true]
theorem is_book_go (xs : List (D × Option Jn)) (hx : ∀ x ∈ xs, It x.1 x.2) (hl : xs.length <= 100) : F_is_book [.lst (xs.map Prod.fst)] = .ok (.bl (goB (xs.map Prod.snd) [])) := by
  have i1 : isiD "list" (.lst (xs.map Prod.fst)) = .ok (.bl true) := rfl
  have e : lenD [.lst (xs.map Prod.fst)] = .ok (.int ((xs.map Prod.fst).length : Nat)) := rfl
  have e1 : decide ((((xs.map Prod.fst).length : Nat) : Int) > 100) = false := decide_eq_false (by rw [List.length_map]; lia)
  have key := lIB (.lst (xs.map Prod.fst)) xs hx [] (by rw [List.length_nil]; lia) none none
  have hz : dk [] = .dic [] [] := rfl
  rw [hz] at key
  rw [tIB]
  generalize (((xs.map Prod.fst).length : Nat) : Int) = n at *
  generalize xs.map Prod.fst = L at *
  rcases key with ⟨k1, k2⟩ | ⟨k1, z, y2, y3, k2⟩
  · rw [k1]
    have eF : sFor (iSeq (eVar 0)) (.one 2) bIB [some (.lst L), some (.dic [] []), none, none] = _ := ev_for (by simp only [eVar, iSeq, asSeq, R.ok_bind, List.getElem?_cons_zero]) k2
    simp only [TIB, sSkip, runB, sSeq, sSet, sRet, sIf, eVar, eC, eBin, eUn, eL, aNil, aCons, eTest, bOr, bNot, asB, R.ok_bind, List.map_cons, List.map_nil, List.length_cons, List.length_nil, List.replicate_succ, List.replicate_zero, List.cons_append, List.nil_append, List.getElem?_cons_zero, List.set_cons_zero, List.set_cons_succ, Nat.reduceSub, Nat.zero_add, ev_gt, if_false, Bool.false_eq_true, i1, e, e1, eF, Bool.not_true]
  · rw [k1]
    have eF : sFor (iSeq (eVar 0)) (.one 2) bIB [some (.lst L), some (.dic [] []), none, none] = _ := ev_for (by simp only [eVar, iSeq, asSeq, R.ok_bind, List.getElem?_cons_zero]) k2
    simp only [TIB, sSkip, runB, sSeq, sSet, sRet, sIf, eVar, eC, eBin, eUn, eL, aNil, aCons, eTest, bOr, bNot, asB, R.ok_bind, List.map_cons, List.map_nil, List.length_cons, List.length_nil, List.replicate_succ, List.replicate_zero, List.cons_append, List.nil_append, List.getElem?_cons_zero, List.set_cons_zero, List.set_cons_succ, Nat.reduceSub, Nat.zero_add, ev_gt, if_false, Bool.false_eq_true, i1, e, e1, eF, Bool.not_true]
theorem goB_none : ∀ (os : List (Option Jn)) (ks : List Str), none ∈ os -> goB os ks = false
  | none :: _, ks, _ => rfl
  | some j :: r, ks, h => by
    show (if S (plc j) ∈ ks then false else goB r (ks ++ [S (plc j)])) = false
    rcases List.mem_cons.mp h with e | e
    · cases e
    · split
      · rfl
      · exact goB_none r _ e
theorem goB_some : ∀ (js : List Jn) (ks : List Str), ks.Nodup -> goB (js.map some) ks = decide ((ks ++ js.map fun j => S (plc j)).Nodup)
  | [], ks, h => by rw [List.map_nil, List.map_nil, List.append_nil, decide_eq_true h]; rfl
  | j :: r, ks, h => by
    rw [List.map_cons, List.map_cons]
    show (if S (plc j) ∈ ks then false else goB (r.map some) (ks ++ [S (plc j)])) = _
    by_cases hm : S (plc j) ∈ ks
    · rw [if_pos hm, decide_eq_false]
      intro hn
      exact (List.nodup_append.mp hn).2.2 _ hm _ (List.mem_cons_self ..) rfl
    · rw [if_neg hm, goB_some r _ (List.nodup_append.mpr ⟨h, by simp, fun a ha b hb e => hm (by rw [List.mem_singleton.mp hb] at e; rw [<- e]; exact ha)⟩), List.append_assoc]
      rfl
theorem plc_inj {i j : Jn} (hi : Jk i) (hj : Jk j) (h : plc i = plc j) : i.1 = j.1 /\ i.2.2 = j.2.2 := by
  have key : ∀ (A B A' B' : List Nat), (45 ∉ A) -> (45 ∉ A') -> A ++ 45 :: B = A' ++ 45 :: B' -> A = A' /\ B = B' := by
    intro A
    induction A with
    | nil =>
      intro B A' B' _ h2 e
      cases A' with
      | nil => cases e; exact ⟨rfl, rfl⟩
      | cons x A' => rw [List.nil_append, List.cons_append] at e; cases e; exact absurd (List.mem_cons_self ..) h2
    | cons x A ih =>
      intro B A' B' h1 h2 e
      cases A' with
      | nil => rw [List.nil_append, List.cons_append] at e; cases e; exact absurd (List.mem_cons_self ..) h1
      | cons y A' =>
        rw [List.cons_append, List.cons_append] at e
        obtain ⟨ex, e2⟩ := List.cons.inj e
        subst ex
        obtain ⟨a, b⟩ := ih B A' B' (fun m => h1 (List.mem_cons_of_mem _ m)) (fun m => h2 (List.mem_cons_of_mem _ m)) e2
        exact ⟨by rw [a], b⟩
  exact key _ _ _ _ (fun z => (hi.a1 45 z).1 rfl) (fun z => (hj.a1 45 z).1 rfl) h
theorem need_ok (d : D) (h : F_is_book [d] = .ok (.bl true)) : F_need_book [d] = .ok (.bl true) := by
  simp only [F_need_book, t_need_book, sSkip, runB, sSeq, sRet, sIf, eVar, eC, eL, aNil, aCons, eTest, bNot, asB, R.ok_bind, List.map_cons, List.map_nil, List.length_cons, List.length_nil, List.replicate_zero, List.cons_append, List.nil_append, List.getElem?_cons_zero, Nat.reduceSub, Nat.zero_add, if_false, Bool.false_eq_true, h, Bool.not_true]
theorem need_err (d : D) (h : F_is_book [d] = .ok (.bl false)) : F_need_book [d] = .err "BadBook" := by
  have e : ∀ τ, sErr "BadBook" (aCons (eC (.str "a book is a list of at most 100 joints, each letters and place told once")) aNil) τ = .err "BadBook" := fun τ => by
    unfold sErr
    simp only [eC, aNil, aCons, R.ok_bind, List.length_cons, List.length_nil, Nat.zero_add]
    rw [if_pos (by rw [sizeLine_eq]; decide)]
  simp only [F_need_book, t_need_book, sSkip, runB, sSeq, sRet, sIf, eVar, eC, eL, aNil, aCons, eTest, bNot, asB, R.ok_bind, R.err_bind, List.map_cons, List.map_nil, List.length_cons, List.length_nil, List.replicate_zero, List.cons_append, List.nil_append, List.getElem?_cons_zero, Nat.reduceSub, Nat.zero_add, if_true, h, Bool.not_false, e]
theorem good_book (js : List Jn) (hz : ∀ j ∈ js, Jz j) (hl : js.length <= 100) (hd : (js.map fun j => S (plc j)).Nodup) : F_is_book [.lst (js.map encJ)] = .ok (.bl true) := by
  have h := is_book_go (js.map fun j => (encJ j, some j)) (fun x hx => by
    obtain ⟨j, hj, rfl⟩ := List.mem_map.mp hx
    exact ⟨(hz j hj).is, fun k e => by cases e; exact ⟨rfl, (hz j hj).k⟩⟩) (by rw [List.length_map]; exact hl)
  rw [List.map_map, List.map_map] at h
  have h : F_is_book [.lst (js.map encJ)] = .ok (.bl (goB (js.map some) [])) := h
  rw [h, goB_some js [] List.nodup_nil, List.nil_append, decide_eq_true hd]
end K04

set_option maxRecDepth 100000
set_option maxHeartbeats 4000000
namespace K04
open PySem PyProof.Rows L2
noncomputable def bB : Tn -> R Fl := (sSeq (sSet 3 (eBin addD (eL F__law_number (aCons (eVar 0) (aCons (eBin addD (eBin addD (eVar 1) (eC (.int 1))) (eBin modD (eVar 7) (eC (.int 6)))) aNil))) (eBin mulD (eC (.int 48271)) (eBin fdivD (eVar 7) (eC (.int 6)))))) (sSeq (sSet 8 (eL F__law_joint (aCons (eBin modD (eVar 3) (eC (.int 2147483647))) (aCons (eVar 2) aNil)))) (sSeq (sSet 9 (eL F__law_mark (aCons (eVar 8) aNil))) (sIf (eTest (eBin (inLD true) (eL (fun ds => .ok (.tup ds)) (aCons (eSl (eVar 8) oNone (oSome (eVar 9))) (aCons (eSl (eVar 8) (oSome (eBin addD (eVar 9) (eC (.int 1)))) oNone) aNil))) (eVar 6))) (sSeq (sApp 6 (eL (fun ds => .ok (.tup ds)) (aCons (eSl (eVar 8) oNone (oSome (eVar 9))) (aCons (eSl (eVar 8) (oSome (eBin addD (eVar 9) (eC (.int 1)))) oNone) aNil)))) (sApp 5 (eImm (eVar 8)))) sSkip))))
noncomputable def BIF : Tn -> R Fl := (sIf (bAnd (eTest (eBin (eqR false) (eBin modD (eBin fdivD (eVar 3) (eC (.int 9))) (eC (.int 16))) (eC (.int 1)))) (eTest (eBin ltD (eL lenD (aCons (eVar 2) aNil)) (eC (.int 13))))) (sSet 4 (eBin addD (eC (.int 20)) (eBin modD (eBin fdivD (eVar 3) (eC (.int 144))) (eC (.int 60))))) sSkip)
noncomputable def TBK : Tn -> R Fl := (sSeq (sSet 3 (eL F__law_number (aCons (eVar 0) (aCons (eVar 1) aNil)))) (sSeq (sSet 4 (eBin modD (eVar 3) (eC (.int 9)))) (sSeq BIF (sSeq (sSet 5 (eL (fun ds => .ok (.lst ds)) aNil)) (sSeq (sSet 6 (eL (fun ds => .ok (.lst ds)) aNil)) (sSeq (sFor (iL rng1 (aCons (eVar 4) aNil)) (.one 7) bB) (sRet (eVar 5))))))))
theorem tBK : F__law_book = runB 10 TBK := rfl
noncomputable def encT (p : Str × Str) : D := .tup [.str p.1, .str p.2]
theorem eqT (p q : Str × Str) : eqF 11 (encT p) (encT q) = some ((p.1 == q.1 && (p.2 == q.2 && true)) && true) := rfl
theorem any_T (q : Str × Str) : ∀ T : List (Str × Str), anyE (encT q) (T.map encT) = some (decide (q ∈ T))
  | [] => rfl
  | p :: T => by
    rw [List.map_cons]
    unfold anyE
    rw [eqT, any_T q T]
    show some _ = _
    congr 1
    by_cases h : q = p
    · subst h
      rw [decide_eq_true (List.mem_cons_self ..), beq_self_eq_true, beq_self_eq_true]
      rfl
    · have e : ((p.1 == q.1 && (p.2 == q.2 && true)) && true) = false := by
        cases hb : ((p.1 == q.1 && (p.2 == q.2 && true)) && true) with
        | false => rfl
        | true =>
          rw [Bool.and_true, Bool.and_true, Bool.and_eq_true] at hb
          exact absurd (Prod.ext (eq_of_beq hb.1).symm (eq_of_beq hb.2).symm) h
      rw [e, Bool.false_or]
      congr 1
      refine propext ⟨fun z => List.mem_cons_of_mem _ z, fun z => ?_⟩
      rcases List.mem_cons.mp z with e | e
      · exact absurd e h
      · exact e
theorem in_T (q : Str × Str) (T : List (Str × Str)) : inLD true (.tup [.str q.1, .str q.2]) (.lst (T.map encT)) = .ok (.bl (!decide (q ∈ T))) := by
  show (match anyE (encT q) (T.map encT) with
    | some b => R.ok (D.bl (if true = true then !b else b))
    | none => .bad) = _
  rw [any_T]
  rfl
theorem bB_ok (S0 W : D) (v j a : Int) (J X1 X2 : Str) (L T : List D) (b : Bool) (x3 x4 x8 x9 : Option D) (h1 : F__law_number [S0, .int (9 + 1 + j % 6)] = .ok (.int v)) (hj : F__law_joint [.int ((v + 48271 * (j / 6)) % 2147483647), W] = .ok (.str J)) (hm : F__law_mark [.str J] = .ok (.int a))
    (s1 : slD (.str J) none (some a) = .ok (.str X1)) (s2 : slD (.str J) (some (a + 1)) none = .ok (.str X2)) (hi : inLD true (.tup [.str X1, .str X2]) (.lst T) = .ok (.bl b)) (hL : L.length < 16777216) (hT : T.length < 16777216) :
    bB [some S0, some (.int 9), some W, x3, x4, some (.lst L), some (.lst T), some (.int j), x8, x9] = .ok (.nx [some S0, some (.int 9), some W, some (.int (v + 48271 * (j / 6))), x4, some (.lst (if b = true then L ++ [.str J] else L)), some (.lst (if b = true then T ++ [.tup [.str X1, .str X2]] else T)), some (.int j), some (.str J), some (.int a)]) := by
  have m6 : modD (.int j) (.int 6) = .ok (.int (j % 6)) := ev_mod (by decide)
  have d6 : fdivD (.int j) (.int 6) = .ok (.int (j / 6)) := ev_fdiv (by decide) (by decide)
  have mp : modD (.int (v + 48271 * (j / 6))) (.int 2147483647) = .ok (.int ((v + 48271 * (j / 6)) % 2147483647)) := ev_mod (by decide)
  have mu : mulD (.int 48271) (.int (j / 6)) = .ok (.int (48271 * (j / 6))) := ev_mulL (by decide) (by decide)
  have e1 : (9 : Int) + 1 = 10 := rfl
  rw [e1] at h1
  generalize (v + 48271 * (j / 6)) % 2147483647 = n2 at *
  generalize 48271 * (j / 6) = n1 at *
  cases b with
  | true => simp only [bB, ev_sApp, ev_appL, ev_appD, ev_eImm, ev_immS, sSkip, sSeq, sSet, sIf, eVar, eC, eBin, eL, aNil, aCons, eTest, eSl, oNone, oSome, asB, R.ok_bind, List.getElem?_cons_zero, List.getElem?_cons_succ, List.set_cons_zero, List.set_cons_succ, ev_add, if_true, m6, d6, mp, mu, e1, h1, hj, hm, s1, s2, hi, hL, hT]
  | false => simp only [bB, ev_sApp, ev_appL, ev_appD, ev_eImm, ev_immS, sSkip, sSeq, sSet, sIf, eVar, eC, eBin, eL, aNil, aCons, eTest, eSl, oNone, oSome, asB, R.ok_bind, List.getElem?_cons_zero, List.getElem?_cons_succ, List.set_cons_zero, List.set_cons_succ, ev_add, if_false, Bool.false_eq_true, m6, d6, mp, mu, e1, h1, hj, hm, s1, s2, hi, hL, hT]
noncomputable def tj (j : Jn) : Str × Str := (S j.1, S j.2.2)
theorem tk (A : List Nat) (k : Nat) (B : List Nat) : (A ++ k :: B).take A.length = A /\ (A ++ k :: B).drop (A.length + 1) = B := by
  induction A with
  | nil => exact ⟨rfl, rfl⟩
  | cons x A ih => exact ⟨congrArg (x :: ·) ih.1, ih.2⟩
theorem lB_ok (ns : List Int) (hn : ns.length <= 63) (cs : List Nat) (hc : ∀ c ∈ cs, c < 128) (hl : cs.length <= 40) (m : Nat) (hm : m <= 79) (x3 x4 x7 x8 x9 : Option D) : ∃ (l : List Jn) (y3 y7 y8 y9 : Option D), (∀ j ∈ l, Jz j) /\ l.length <= m /\ (l.map tj).Nodup /\
    forGo (Tgt.one 7).asg bB (rng 0 m) [some (.frl (ns.map .int)), some (.int 9), some (.str (S cs)), x3, x4, some (.lst []), some (.lst []), x7, x8, x9] = .ok (.nx [some (.frl (ns.map .int)), some (.int 9), some (.str (S cs)), y3, x4, some (.lst (l.map encJ)), some (.lst ((l.map tj).map encT)), y7, y8, y9]) := by
  obtain ⟨τ', e2, l, y3, y7, y8, y9, g1, g2, g3, h⟩ := forGo_inv (asg := (Tgt.one 7).asg) (body := bB)
    (fun i τ => ∃ (l : List Jn) (y3 y7 y8 y9 : Option D), (∀ j ∈ l, Jz j) /\ l.length <= i /\ (l.map tj).Nodup /\ τ = [some (.frl (ns.map .int)), some (.int 9), some (.str (S cs)), y3, x4, some (.lst (l.map encJ)), some (.lst ((l.map tj).map encT)), y7, y8, y9]) (rng 0 m) 0
    [some (.frl (ns.map .int)), some (.int 9), some (.str (S cs)), x3, x4, some (.lst []), some (.lst []), x7, x8, x9] ⟨[], x3, x7, x8, x9, fun c hc => (nomatch hc), Nat.le_refl _, List.nodup_nil, rfl⟩ (fun i q τ hd ⟨l, y3, y7, y8, y9, l1, l2, l3, h⟩ => by
      obtain ⟨hi, rfl⟩ := rng_get hd
      subst h
      obtain ⟨v, hv⟩ := number ns (9 + 1 + ((0 : Int) + (i : Nat)) % 6) (by lia) hn
      obtain ⟨A, B, k, hj, hJ, hA, hBl, hz⟩ := joint ((v + 48271 * (((0 : Int) + (i : Nat)) / 6)) % 2147483647) cs hc hl
      have hk := law_mark A B k hJ
      have hlen : (A ++ k :: B).length <= 9 := Jk.len (j := (A, k, B)) hJ
      have s1 := sl_to (A ++ k :: B) (by lia) A.length
      have s2 := sl_from (A ++ k :: B) (by lia) (A.length + 1) (by rw [List.length_append, List.length_cons]; lia)
      rw [(tk A k B).1] at s1
      rw [(tk A k B).2] at s2
      have s2 : slD (.str (S (A ++ k :: B))) (some (((A.length : Nat) : Int) + 1)) none = .ok (.str (S B)) := s2
      have hb := in_T (S A, S B) (l.map tj)
      have hB := bB_ok (.frl (ns.map .int)) (.str (S cs)) v ((0 : Int) + (i : Nat)) (A.length : Nat) _ _ _ (l.map encJ) ((l.map tj).map encT) _ y3 x4 y8 y9 hv hj hk s1 s2 hb (by rw [List.length_map]; lia) (by rw [List.length_map, List.length_map]; lia)
      by_cases hin : (S A, S B) ∈ l.map tj
      · rw [decide_eq_true hin] at hB
        exact ⟨_, _, rfl, .inl hB, l, _, _, _, _, l1, by lia, l3, rfl⟩
      · rw [decide_eq_false hin] at hB
        refine ⟨_, _, rfl, .inl hB, l ++ [(A, k, B)], some (.int (v + 48271 * (((0 : Int) + (i : Nat)) / 6))), some (.int ((0 : Int) + (i : Nat))), some (.str (S (A ++ k :: B))), some (.int (A.length : Nat)), fun x hx => ?_, by rw [List.length_append]; show _ + 1 <= _; lia, ?_, ?_⟩
        · rcases List.mem_append.mp hx with z | z
          · exact l1 x z
          · rw [List.mem_singleton.mp z]; exact ⟨hJ, hA, hBl, hz⟩
        · rw [List.map_append]
          refine List.nodup_append.mpr ⟨l3, by simp, fun a ha b hb e => hin ?_⟩
          have hb : b = (S A, S B) := List.mem_singleton.mp hb
          rw [<- hb, <- e]
          exact ha
        · rw [List.map_append, List.map_append, List.map_append]; rfl)
  exact ⟨l, y3, y7, y8, y9, g1, by rw [rng_len] at g2; lia, g3, by rw [e2, h]⟩
theorem BIF_ok (S0 : D) (v : Int) (cs : List Nat) (hl : cs.length <= 40) (x5 x6 x7 x8 x9 : Option D) : ∃ m : Int, 0 <= m /\ m <= 79 /\ BIF [some S0, some (.int 9), some (.str (S cs)), some (.int v), some (.int (v % 9)), x5, x6, x7, x8, x9] = .ok (.nx [some S0, some (.int 9), some (.str (S cs)), some (.int v), some (.int m), x5, x6, x7, x8, x9]) := by
  have h2 := len_S cs (by lia)
  have d9 : fdivD (.int v) (.int 9) = .ok (.int (v / 9)) := ev_fdiv (by decide) (by decide)
  have m16 : modD (.int (v / 9)) (.int 16) = .ok (.int (v / 9 % 16)) := ev_mod (by decide)
  have d144 : fdivD (.int v) (.int 144) = .ok (.int (v / 144)) := ev_fdiv (by decide) (by decide)
  have m60 : modD (.int (v / 144)) (.int 60) = .ok (.int (v / 144 % 60)) := ev_mod (by decide)
  generalize ((cs.length : Nat) : Int) = l at *
  generalize S cs = W at *
  cases z1 : (v / 9 % 16 == 1) with
  | false =>
    refine ⟨v % 9, by lia, by lia, ?_⟩
    simp only [BIF, sSkip, sSet, sIf, eVar, eC, eBin, eL, aNil, aCons, eTest, bAnd, asB, R.ok_bind, List.getElem?_cons_zero, List.getElem?_cons_succ, List.set_cons_zero, List.set_cons_succ, ev_add, ev_mod, ev_fdiv, ev_eqi, if_false, Bool.false_eq_true, Int.reduceLT, d9, m16, z1]
  | true =>
    cases z2 : decide (l < 13) with
    | false =>
      refine ⟨v % 9, by lia, by lia, ?_⟩
      simp only [BIF, sSkip, sSet, sIf, eVar, eC, eBin, eL, aNil, aCons, eTest, bAnd, asB, R.ok_bind, List.getElem?_cons_zero, List.getElem?_cons_succ, List.set_cons_zero, List.set_cons_succ, ev_add, ev_lt, ev_mod, ev_fdiv, ev_eqi, if_true, if_false, Bool.false_eq_true, Int.reduceLT, d9, m16, z1, h2, z2]
    | true =>
      refine ⟨20 + v / 144 % 60, by lia, by lia, ?_⟩
      simp only [BIF, sSkip, sSet, sIf, eVar, eC, eBin, eL, aNil, aCons, eTest, bAnd, asB, R.ok_bind, List.getElem?_cons_zero, List.getElem?_cons_succ, List.set_cons_zero, List.set_cons_succ, ev_add, ev_lt, ev_eqi, if_true, if_false, Bool.false_eq_true, d9, m16, z1, h2, z2, d144, m60]
theorem book (ns : List Int) (hn : ns.length <= 63) (cs : List Nat) (hc : ∀ c ∈ cs, c < 128) (hl : cs.length <= 40) : ∃ l : List Jn, F__law_book [.frl (ns.map .int), .int 9, .str (S cs)] = .ok (.lst (l.map encJ)) /\ (∀ j ∈ l, Jz j) /\ l.length <= 79 /\ (l.map tj).Nodup := by
  obtain ⟨v, hv⟩ := number ns 9 (by decide) hn
  have m9 : modD (.int v) (.int 9) = .ok (.int (v % 9)) := ev_mod (by decide)
  obtain ⟨m, m0, m1, hB⟩ := BIF_ok (.frl (ns.map .int)) v cs hl none none none none none
  have e1 : rng1 [D.int m] = .ok (rng 0 m.toNat) := ev_rng1 (by lia) (by lia)
  obtain ⟨l, y3, y7, y8, y9, g1, g2, g3, h⟩ := lB_ok ns hn cs hc hl m.toNat (by lia) (some (.int v)) (some (.int m)) none none none
  refine ⟨l, ?_, g1, by lia, g3⟩
  rw [tBK]
  generalize (l.map tj).map encT = TT at *
  generalize l.map encJ = LL at *
  generalize D.frl (ns.map .int) = S0 at *
  generalize S cs = W at *
  generalize m.toNat = mm at *
  have eF : sFor (iL rng1 (aCons (eVar 4) aNil)) (.one 7) bB [some S0, some (.int 9), some (.str W), some (.int v), some (.int m), some (.lst []), some (.lst []), none, none, none] = _ := ev_for (by simp only [eVar, aNil, aCons, iL, R.ok_bind, List.getElem?_cons_zero, List.getElem?_cons_succ, e1]) h
  simp only [TBK, runB, sSeq, sSet, sRet, eVar, eC, eBin, eL, aNil, aCons, R.ok_bind, List.map_cons, List.map_nil, List.length_cons, List.length_nil, List.replicate_succ, List.replicate_zero, List.cons_append, List.nil_append, List.getElem?_cons_zero, List.getElem?_cons_succ, List.set_cons_zero, List.set_cons_succ, Nat.reduceAdd, Nat.reduceSub, Nat.zero_add, hv, m9, hB, eF]
theorem nodup_of {α β γ : Type} {f : α -> β} {g : α -> γ} : ∀ l : List α, (∀ i ∈ l, ∀ j ∈ l, g i = g j -> f i = f j) -> (l.map f).Nodup -> (l.map g).Nodup
  | [], _, _ => List.nodup_nil
  | x :: l, h, hn => by
    rw [List.map_cons, List.nodup_cons] at hn
    rw [List.map_cons, List.nodup_cons]
    refine ⟨fun m => ?_, nodup_of l (fun i hi j hj => h i (List.mem_cons_of_mem _ hi) j (List.mem_cons_of_mem _ hj)) hn.2⟩
    obtain ⟨y, hy, e⟩ := List.mem_map.mp m
    exact hn.1 (List.mem_map.mpr ⟨y, hy, h y (List.mem_cons_of_mem _ hy) x List.mem_cons_self e⟩)
theorem tj_plc (l : List Jn) (hz : ∀ j ∈ l, Jz j) (h : (l.map tj).Nodup) : (l.map fun j => S (plc j)).Nodup :=
  nodup_of l (fun i hi j hj e => by
    obtain ⟨a, b⟩ := plc_inj (hz i hi).k (hz j hj).k (S_inj e)
    unfold tj
    rw [a, b]) h
end K04

set_option maxRecDepth 100000
set_option maxHeartbeats 4000000
namespace K04
open PySem PyProof.Rows L2
noncomputable def EM : Tn -> R D := (eBin addD (eBin addD (eBin addD (eC (.str "q")) (eBin ixD (eVar 1) (eBin fdivD (eVar 0) (eC (.int 26))))) (eBin ixD (eC (.str "-==")) (eBin modD (eVar 0) (eC (.int 3))))) (eBin ixD (eVar 1) (eBin modD (eVar 0) (eC (.int 26)))))
noncomputable def TMY (A : Str) : Tn -> R Fl := (sSeq (sSet 1 (eC (.str A))) (sRet (eComp [none, some 1] (iL rng1 (aCons (eVar 0) aNil)) (.one 0) (fun _ => .ok true) EM)))
theorem tMY : F__law_many = runB 2 (TMY AZ) := rfl
noncomputable def P0 : Tn -> R Fl := (sSet 2 (eBin modD (eVar 1) (eC (.int 8))))
noncomputable def P1 : Tn -> R Fl := (sIf (eTest (eBin (eqR false) (eVar 2) (eC (.int 0)))) (sRet (eBin ixD (eL (fun ds => .ok (.lst ds)) (aCons (eL tuple1D (aCons (eVar 0) aNil)) (aCons (eC .non) (aCons (eC (.str "a-b")) (aCons (eC (.int 5)) (aCons (eC (.dic [] [])) aNil)))))) (eBin modD (eBin fdivD (eVar 1) (eC (.int 8))) (eC (.int 5))))) sSkip)
noncomputable def P2 : Tn -> R Fl := (sIf (eTest (eBin (eqR false) (eVar 2) (eC (.int 1)))) (sRet (eL F__law_many (aCons (eC (.int 101)) aNil))) sSkip)
noncomputable def P3 : Tn -> R Fl := (sSet 3 (eBin modD (eBin fdivD (eVar 1) (eC (.int 8))) (eBin addD (eL lenD (aCons (eVar 0) aNil)) (eC (.int 1)))))
noncomputable def P4 : Tn -> R Fl := (sSet 4 (eL (fun ds => .ok (.lst ds)) (aCons (eC (.str "")) (aCons (eC (.str "a")) (aCons (eC (.str "ab")) (aCons (eC (.str "-ab")) (aCons (eC (.str "ab-")) (aCons (eC (.str "a-b-c")) (aCons (eC (.str "a-b=c")) (aCons (eC (.str "Ab-c")) (aCons (eC (.str "ab-C")) (aCons (eC (.str "a1-b")) (aCons (eC (.str "a -b")) (aCons (eC (.str "abcdefgh-i")) (aCons (eC (.str "a-bcdefghi")) aNil)))))))))))))))
noncomputable def P5 : Tn -> R Fl := (sSet 4 (eBin catD (eVar 4) (eL (fun ds => .ok (.lst ds)) (aCons (eC .non) (aCons (eC (.int 5)) (aCons (eC (.bl true)) (aCons (eL (fun ds => .ok (.lst ds)) (aCons (eC (.str "a-b")) aNil)) (aCons (eL (fun ds => .ok (.tup ds)) (aCons (eC (.str "a")) (aCons (eC (.str "-")) (aCons (eC (.str "b")) aNil)))) (aCons (eC (.str "a-b\n")) (aCons (eC (.str "=")) aNil))))))))))
noncomputable def P6 : Tn -> R Fl := (sSet 5 (eBin ixL (eVar 4) (eBin modD (eBin fdivD (eVar 1) (eC (.int 500))) (eC (.int 20)))))
noncomputable def P7 : Tn -> R Fl := (sIf (bAnd (eTest (eBin gtD (eVar 2) (eC (.int 5)))) (eTest (eBin gtD (eL lenD (aCons (eVar 0) aNil)) (eC (.int 0))))) (sSeq (sSet 6 (eBin ixD (eVar 0) (eBin modD (eBin fdivD (eVar 1) (eC (.int 9))) (eL lenD (aCons (eVar 0) aNil))))) (sSeq (sSet 7 (eL F__law_mark (aCons (eVar 6) aNil))) (sSet 5 (eBin addD (eBin addD (eSl (eVar 6) oNone (oSome (eVar 7))) (eBin ixD (eC (.str "-=")) (eBin modD (eBin fdivD (eVar 1) (eC (.int 8))) (eC (.int 2))))) (eSl (eVar 6) (oSome (eBin addD (eVar 7) (eC (.int 1)))) oNone))))) sSkip)
noncomputable def P8 : Tn -> R Fl := (sRet (eBin catD (eBin catD (eSl (eVar 0) oNone (oSome (eVar 3))) (eL (fun ds => .ok (.lst ds)) (aCons (eVar 5) aNil))) (eSl (eVar 0) (oSome (eVar 3)) oNone)))
noncomputable def TSP : Tn -> R Fl := (sSeq P0 (sSeq P1 (sSeq P2 (sSeq P3 (sSeq P4 (sSeq P5 (sSeq P6 (sSeq P7 P8))))))))
theorem tSP : F__law_spoilt = runB 8 TSP := rfl
noncomputable def az (i : Nat) : Nat := AZ.cps.toList.getD i 0
theorem az_len : AZ.cps.toList.length = 26 := by decide +kernel
theorem az_at {i : Nat} (h : i < 26) : AZ.cps.toList[i]? = some (az i) := by
  have hi : i < AZ.cps.toList.length := by rw [az_len]; exact h
  unfold az
  rw [List.getD_eq_getElem?_getD, List.getElem?_eq_getElem hi]
  rfl
theorem az_mem {i : Nat} (h : i < 26) : okL (az i) := List.mem_of_getElem? (az_at h)
theorem ix_az {i : Nat} (h : i < 26) : ixD (.str AZ) (.int (i : Nat)) = .ok (.str (one (az i))) := by
  have := ix_at (cs := AZ.cps.toList) (i := ((i : Nat) : Int)) (by rw [az_len]; lia) (by lia) (by rw [Int.toNat_natCast]; exact az_at h)
  rw [<- str_S AZ] at this
  exact this
noncomputable abbrev M3 : Str := "-=="
theorem m3_ok : ∀ c ∈ M3.cps.toList, c = 45 \/ c = 61 := by decide +kernel
noncomputable def mk3 (i : Nat) : Nat := M3.cps.toList.getD i 45
theorem m3_at {i : Nat} (h : i < 3) : M3.cps.toList[i]? = some (mk3 i) := by
  have hi : i < M3.cps.toList.length := by have : M3.cps.toList.length = 3 := by decide +kernel
                                           lia
  unfold mk3
  rw [List.getD_eq_getElem?_getD, List.getElem?_eq_getElem hi]
  rfl
theorem ix_m3 {i : Nat} (h : i < 3) : ixD (.str M3) (.int (i : Nat)) = .ok (.str (one (mk3 i))) := by
  have := ix_at (cs := M3.cps.toList) (i := ((i : Nat) : Int)) (by have : M3.cps.toList.length = 3 := by decide +kernel
                                                                   lia) (by lia) (by rw [Int.toNat_natCast]; exact m3_at h)
  rw [<- str_S M3] at this
  exact this
noncomputable def manyJ (i : Nat) : Jn := ([113, az (i / 26)], mk3 (i % 3), [az (i % 26)])
theorem add_S (x y : List Nat) (h : x.length + y.length <= 1000) : addD (.str (S x)) (.str (S y)) = .ok (.str (S (x ++ y))) := by
  rw [ev_adds (by rw [S_len, S_len, sizeLine_eq]; lia), S_app]
theorem em_g (Z M : Str) (i : Nat) (a b m : Nat) (h1 : ixD (.str Z) (.int (((i : Nat) : Int) / 26)) = .ok (.str (one a))) (h2 : ixD (.str M) (.int (((i : Nat) : Int) % 3)) = .ok (.str (one m))) (h3 : ixD (.str Z) (.int (((i : Nat) : Int) % 26)) = .ok (.str (one b))) :
    compF (Tgt.one 0).asg (fun _ => .ok true) (eBin addD (eBin addD (eBin addD (eC (.str "q")) (eBin ixD (eVar 1) (eBin fdivD (eVar 0) (eC (.int 26))))) (eBin ixD (eC (.str M)) (eBin modD (eVar 0) (eC (.int 3))))) (eBin ixD (eVar 1) (eBin modD (eVar 0) (eC (.int 26))))) [none, some (.str Z)] (.int (i : Nat)) = .ok (some (.str (S [113, a, m, b]))) := by
  have d26 : fdivD (.int (i : Nat)) (.int 26) = .ok (.int (((i : Nat) : Int) / 26)) := ev_fdiv (by decide) (by decide)
  have mo3 : modD (.int (i : Nat)) (.int 3) = .ok (.int (((i : Nat) : Int) % 3)) := ev_mod (by decide)
  have m26 : modD (.int (i : Nat)) (.int 26) = .ok (.int (((i : Nat) : Int) % 26)) := ev_mod (by decide)
  have p1 : addD (.str "q") (.str (one a)) = .ok (.str (S [113, a])) := add_S [113] [a] (by show 1 + 1 <= 1000; decide)
  have p2 : addD (.str (S [113, a])) (.str (one m)) = .ok (.str (S [113, a, m])) := add_S [113, a] [m] (by show 2 + 1 <= 1000; decide)
  have p3 : addD (.str (S [113, a, m])) (.str (one b)) = .ok (.str (S [113, a, m, b])) := add_S [113, a, m] [b] (by show 3 + 1 <= 1000; decide)
  generalize S [113, a, m, b] = X4 at *
  generalize S [113, a, m] = X3 at *
  generalize S [113, a] = X2 at *
  generalize one a = z1 at *
  generalize one b = z2 at *
  generalize one m = z3 at *
  generalize ((i : Nat) : Int) / 26 = k1 at *
  generalize ((i : Nat) : Int) % 3 = k2 at *
  generalize ((i : Nat) : Int) % 26 = k3 at *
  generalize ((i : Nat) : Int) = I at *
  simp only [compF, noErr_ok', eVar, eC, eBin, Tgt.asg, R.ok_bind, List.getElem?_cons_zero, List.getElem?_cons_succ, List.set_cons_zero, if_true, d26, mo3, m26, h1, h2, h3, p1, p2, p3]
theorem em_ok (i : Nat) (h : i < 676) : compF (Tgt.one 0).asg (fun _ => .ok true) EM [none, some (.str AZ)] (.int ((0 : Int) + (i : Nat))) = .ok (some (encJ (manyJ i))) := by
  have h1 := ix_az (i := i / 26) (by lia)
  have h2 := ix_m3 (i := i % 3) (by lia)
  have h3 := ix_az (i := i % 26) (by lia)
  rw [Int.zero_add]
  exact em_g AZ M3 i _ _ _ (by rw [show ((i : Nat) : Int) / 26 = ((i / 26 : Nat) : Int) by lia]; exact h1) (by rw [show ((i : Nat) : Int) % 3 = ((i % 3 : Nat) : Int) by lia]; exact h2) (by rw [show ((i : Nat) : Int) % 26 = ((i % 26 : Nat) : Int) by lia]; exact h3)
noncomputable def manyL (n : Nat) : List Jn := (List.range n).map manyJ
theorem mg1 (Z : Str) (N : Int) (R0 : List D) (L : List D) (e1 : rng1 [D.int N] = .ok R0) (hk : lstD L = .ok (.lst L)) (h : compL (compF (Tgt.one 0).asg (fun _ => .ok true) EM [none, some (.str Z)]) R0 = .ok L) : runB 2 (TMY Z) [.int N] = .ok (.lst L) := by
  simp only [TMY, ev_eComp, ev_ctN, ev_ctO, ev_ctS, ev_join, runB, sSeq, sSet, sRet, eVar, eC, aNil, aCons, iL, R.ok_bind, List.map_cons, List.map_nil, List.length_cons, List.length_nil, List.replicate_succ, List.replicate_zero, List.cons_append, List.nil_append, List.getElem?_cons_zero, List.getElem?_cons_succ, List.set_cons_zero, List.set_cons_succ, Nat.reduceSub, Nat.zero_add, e1, h, hk]
theorem many_g (Z : Str) (n : Nat) (hn : n <= 101) (L : List D) (hL : L.length <= 101) (h : compL (compF (Tgt.one 0).asg (fun _ => .ok true) EM [none, some (.str Z)]) (rng 0 n) = .ok L) : runB 2 (TMY Z) [.int (n : Nat)] = .ok (.lst L) := by
  have e1 : rng1 [D.int (n : Nat)] = .ok (rng 0 ((n : Nat) : Int).toNat) := ev_rng1 (by lia) (by lia)
  rw [Int.toNat_natCast] at e1
  exact mg1 Z _ _ L e1 (ev_lstD (by lia)) h
theorem many (n : Nat) (hn : n <= 101) : F__law_many [.int (n : Nat)] = .ok (.lst ((manyL n).map encJ)) := by
  have hc := compL_rng (f := compF (Tgt.one 0).asg (fun _ => .ok true) EM [none, some (.str AZ)]) (lo := 0) (n := n) (o := fun i => some (encJ (manyJ i))) fun i hi => em_ok i (by lia)
  rw [fm_some] at hc
  have e : (manyL n).map encJ = (List.range n).map fun i => encJ (manyJ i) := by unfold manyL; rw [List.map_map]; rfl
  rw [tMY, e]
  exact many_g AZ n hn _ (by rw [List.length_map, List.length_range]; exact hn) hc
theorem many_z (i : Nat) (h : i < 676) : Jz (manyJ i) := by
  have hq : okL 113 := by unfold okL; decide +kernel
  have hz : ∀ c ∈ [113, az (i / 26)] ++ [az (i % 26)], okL c := by
    intro c hc
    simp only [List.cons_append, List.nil_append, List.mem_cons, List.not_mem_nil, or_false] at hc
    rcases hc with rfl | rfl | rfl
    · exact hq
    · exact az_mem (by lia)
    · exact az_mem (by lia)
  refine ⟨⟨m3_ok _ (List.mem_of_getElem? (m3_at (by lia))), fun c hc => az_ok c (hz c (List.mem_append_left _ hc)), fun c hc => az_ok c (hz c (List.mem_append_right _ hc)), by show 2 + 1 <= 8; decide⟩, by show 0 < 2; decide, by show 0 < 1; decide, hz⟩
theorem many_d0 : ((List.range 100).map fun i => plc (manyJ i)).Nodup := by decide +kernel
theorem many_d : ((manyL 100).map fun j => S (plc j)).Nodup := by
  unfold manyL
  rw [List.map_map]
  exact nodup_of (f := fun i => plc (manyJ i)) (List.range 100) (fun i _ j _ e => S_inj e) many_d0
theorem many_good : F_is_book [.lst ((manyL 100).map encJ)] = .ok (.bl true) := good_book _ (fun j hj => by
  obtain ⟨i, hi, rfl⟩ := List.mem_map.mp hj
  exact many_z i (by have := List.mem_range.mp hi; lia)) (by unfold manyL; rw [List.length_map, List.length_range]; exact Nat.le_refl _) many_d
theorem bad_at (l : List Jn) (hz : ∀ j ∈ l, Jz j) (hl : l.length <= 79) (at_ : Nat) (bad : D) (o : Option Jn) (ho : It bad o) (hd : ∀ j, o = some j -> ∃ i ∈ l, plc i = plc j) : F_is_book [.lst ((l.take at_).map encJ ++ [bad] ++ (l.drop at_).map encJ)] = .ok (.bl false) := by
  have h := is_book_go ((l.take at_).map (fun j => (encJ j, some j)) ++ [(bad, o)] ++ (l.drop at_).map (fun j => (encJ j, some j))) (fun x hx => by
    have g : ∀ ll : List Jn, (∀ j ∈ ll, j ∈ l) -> x ∈ ll.map (fun j => (encJ j, some j)) -> It x.1 x.2 := fun ll hs hm => by
      obtain ⟨j, hj, rfl⟩ := List.mem_map.mp hm
      exact ⟨(hz j (hs j hj)).is, fun k e => by cases e; exact ⟨rfl, (hz j (hs j hj)).k⟩⟩
    rcases List.mem_append.mp hx with q | q
    · rcases List.mem_append.mp q with q | q
      · exact g _ (fun j hj => List.mem_of_mem_take hj) q
      · rw [List.mem_singleton.mp q]; exact ho
    · exact g _ (fun j hj => List.mem_of_mem_drop hj) q) (by simp only [List.length_append, List.length_map, List.length_take, List.length_drop, List.length_singleton]; omega)
  simp only [List.map_append, List.map_map, List.map_cons, List.map_nil] at h
  have h : F_is_book [.lst ((l.take at_).map encJ ++ [bad] ++ (l.drop at_).map encJ)] = .ok (.bl (goB ((l.take at_).map some ++ [o] ++ (l.drop at_).map some) [])) := h
  rw [h]
  cases o with
  | none => rw [goB_none _ _ (List.mem_append_left _ (List.mem_append_right _ (List.mem_singleton.mpr rfl)))]
  | some j =>
    obtain ⟨i, hi, e⟩ := hd j rfl
    have e2 : (l.take at_).map some ++ [some j] ++ (l.drop at_).map some = (l.take at_ ++ [j] ++ l.drop at_).map some := by rw [List.map_append, List.map_append]; rfl
    rw [e2, goB_some _ [] List.nodup_nil, List.nil_append, decide_eq_false]
    intro hn
    rw [List.map_append, List.map_append] at hn
    obtain ⟨n1, _, n2⟩ := List.nodup_append.mp hn
    obtain ⟨_, _, n3⟩ := List.nodup_append.mp n1
    rw [<- List.take_append_drop at_ l] at hi
    rcases List.mem_append.mp hi with q | q
    · exact n3 _ (List.mem_map.mpr ⟨i, q, rfl⟩) (S (plc j)) (List.mem_singleton.mpr rfl) (by rw [e])
    · exact n2 (S (plc j)) (List.mem_append_right _ (List.mem_singleton.mpr rfl)) _ (List.mem_map.mpr ⟨i, q, rfl⟩) (by rw [e])
noncomputable def odd1 : List D := [.str "", .str "a", .str "ab", .str "-ab", .str "ab-", .str "a-b-c", .str "a-b=c", .str "Ab-c", .str "ab-C", .str "a1-b", .str "a -b", .str "abcdefgh-i", .str "a-bcdefghi"]
noncomputable def odd2 : List D := [.non, .int 5, .bl true, .lst [.str "a-b"], .tup [.str "a", .str "-", .str "b"], .str "a-b\n", .str "="]
theorem no_str (d : D) (h : isiD "str" d = .ok (.bl false)) : It d none := ⟨is_joint_no d h, fun _ e => by cases e⟩
theorem no_len (cs : List Nat) (h : cs.length <= 2 \/ 9 < cs.length) (hl : cs.length <= 1000) : It (.str (S cs)) none := ⟨is_joint_len cs h hl, fun _ e => by cases e⟩
theorem no_two (cs : List Nat) (h0 : 2 < cs.length) (h1 : cs.length <= 9) (hx : ((cs.filter (· != 45)).filter (· != 61)).length + 1 ≠ cs.length) : It (.str (S cs)) none := ⟨is_joint_two cs h0 h1 hx, fun _ e => by cases e⟩
theorem no_jt (A B : List Nat) (m : Nat) (j : Jt A B m) (h0 : 2 < A.length + 1 + B.length) (h : (decide (0 < A.length) && (decide (0 < B.length) && (A ++ B).all fun c => decide (c ∈ AZ.cps.toList))) = false) : It (.str (S (A ++ m :: B))) none := by
  refine ⟨?_, fun _ e => by cases e⟩
  rw [is_joint_jt A B m j h0, h]
  rfl
theorem jt_dec (A B : List Nat) (m : Nat) (h : (decide (m = 45 \/ m = 61) && (A.all (fun c => decide (c ≠ 45 /\ c ≠ 61)) && (B.all (fun c => decide (c ≠ 45 /\ c ≠ 61)) && decide (A.length + B.length <= 8)))) = true) : Jt A B m := by
  rw [Bool.and_eq_true, Bool.and_eq_true, Bool.and_eq_true] at h
  obtain ⟨a, b, c, d⟩ := h
  exact ⟨of_decide_eq_true a, fun x hx => of_decide_eq_true (List.all_eq_true.mp b x hx), fun x hx => of_decide_eq_true (List.all_eq_true.mp c x hx), of_decide_eq_true d⟩
theorem odd_no : ∀ d ∈ odd1 ++ odd2, It d none := by
  intro d hd
  unfold odd1 odd2 at hd
  simp only [List.cons_append, List.nil_append, List.mem_cons, List.not_mem_nil, or_false] at hd
  rcases hd with rfl | rfl | rfl | rfl | rfl | rfl | rfl | rfl | rfl | rfl | rfl | rfl | rfl | rfl | rfl | rfl | rfl | rfl | rfl | rfl
  · exact no_len [] (.inl (by decide)) (by decide)
  · exact no_len [97] (.inl (by decide)) (by decide)
  · exact no_len [97, 98] (.inl (by decide)) (by decide)
  · exact no_jt [] [97, 98] 45 (jt_dec _ _ _ (by decide)) (by decide) (by decide)
  · exact no_jt [97, 98] [] 45 (jt_dec _ _ _ (by decide)) (by decide) (by decide)
  · exact no_two [97, 45, 98, 45, 99] (by decide) (by decide) (by decide)
  · exact no_two [97, 45, 98, 61, 99] (by decide) (by decide) (by decide)
  · exact no_jt [65, 98] [99] 45 (jt_dec _ _ _ (by decide)) (by decide) (by decide +kernel)
  · exact no_jt [97, 98] [67] 45 (jt_dec _ _ _ (by decide)) (by decide) (by decide +kernel)
  · exact no_jt [97, 49] [98] 45 (jt_dec _ _ _ (by decide)) (by decide) (by decide +kernel)
  · exact no_jt [97, 32] [98] 45 (jt_dec _ _ _ (by decide)) (by decide) (by decide +kernel)
  · exact no_len [97, 98, 99, 100, 101, 102, 103, 104, 45, 105] (.inr (by decide)) (by decide)
  · exact no_len [97, 45, 98, 99, 100, 101, 102, 103, 104, 105] (.inr (by decide)) (by decide)
  · exact no_str _ rfl
  · exact no_str _ rfl
  · exact no_str _ rfl
  · exact no_str _ rfl
  · exact no_str _ rfl
  · exact no_jt [97] [98, 10] 45 (jt_dec _ _ _ (by decide)) (by decide) (by decide +kernel)
  · exact no_len [61] (.inl (by decide)) (by decide)
theorem P1_ok (BK : List Jn) (n : Int) (h : n % 8 = 0) (x3 x4 x5 x6 x7 : Option D) : ∃ d, P1 [some (.lst (BK.map encJ)), some (.int n), some (.int (n % 8)), x3, x4, x5, x6, x7] = .ok (.rt d) /\ F_is_book [d] = .ok (.bl false) := by
  have d8 : fdivD (.int n) (.int 8) = .ok (.int (n / 8)) := ev_fdiv (by decide) (by decide)
  have m5 : modD (.int (n / 8)) (.int 5) = .ok (.int (n / 8 % 5)) := ev_mod (by decide)
  have ht := ev_tuple1 (imms_J BK)
  have e0 : (n % 8 == 0) = true := beq_iff_eq.mpr h
  have hi : (n / 8 % 5).toNat < [D.tup (BK.map encJ), .non, .str "a-b", .int 5, .dic [] []].length := by show _ < 5; lia
  have hx : ixD (.lst [D.tup (BK.map encJ), .non, .str "a-b", .int 5, .dic [] []]) (.int (n / 8 % 5)) = .ok ([D.tup (BK.map encJ), .non, .str "a-b", .int 5, .dic [] []][(n / 8 % 5).toNat]) := ev_ixl (atI_ok (by lia) (List.getElem?_eq_getElem hi))
  have hw : ∀ d ∈ [D.tup (BK.map encJ), .non, .str "a-b", .int 5, .dic [] []], isiD "list" d = .ok (.bl false) := by
    intro d hd
    simp only [List.mem_cons, List.not_mem_nil, or_false] at hd
    rcases hd with rfl | rfl | rfl | rfl | rfl <;> rfl
  have hw := is_book_no _ (hw _ (List.getElem_mem hi))
  refine ⟨_, ?_, hw⟩
  clear hw
  generalize [D.tup (BK.map encJ), .non, .str "a-b", .int 5, .dic [] []][(n / 8 % 5).toNat] = d at *
  generalize BK.map encJ = L at *
  generalize n / 8 % 5 = k at *
  generalize n % 8 = w at *
  simp only [P1, sSkip, sRet, sIf, eVar, eC, eBin, eL, aNil, aCons, eTest, asB, R.ok_bind, List.getElem?_cons_zero, List.getElem?_cons_succ, ev_eqi, if_true, if_false, Bool.false_eq_true, e0, ht, d8, m5, hx]
theorem P8_ok (l : List Jn) (hl : l.length <= 79) (q : Nat) (hq : q <= l.length) (bad : D) (x1 x2 x4 x6 x7 : Option D) : P8 [some (.lst (l.map encJ)), x1, x2, some (.int (q : Nat)), x4, some bad, x6, x7] = .ok (.rt (.lst ((l.take q).map encJ ++ [bad] ++ (l.drop q).map encJ))) := by
  have c1 : slD (.lst (l.map encJ)) none (some (q : Int)) = .ok (.lst ((l.take q).map encJ)) := by
    rw [ev_slL (imms_J l), cut_to (by rw [List.length_map]; lia), List.map_take]
  have c2 : slD (.lst (l.map encJ)) (some (q : Int)) none = .ok (.lst ((l.drop q).map encJ)) := by
    rw [ev_slL (imms_J l), cut_from (by rw [List.length_map]; lia), List.map_drop]
  have a1 : catD (.lst ((l.take q).map encJ)) (.lst [bad]) = .ok (.lst ((l.take q).map encJ ++ [bad])) := if_pos (by rw [sizeLine_eq, List.length_map, List.length_take]; show _ + 1 <= _; lia)
  have a2 : catD (.lst ((l.take q).map encJ ++ [bad])) (.lst ((l.drop q).map encJ)) = .ok (.lst ((l.take q).map encJ ++ [bad] ++ (l.drop q).map encJ)) := if_pos (by rw [sizeLine_eq, List.length_append, List.length_map, List.length_map, List.length_take, List.length_drop, List.length_singleton]; lia)
  generalize (l.take q).map encJ ++ [bad] ++ (l.drop q).map encJ = X3 at *
  generalize (l.take q).map encJ ++ [bad] = X2 at *
  generalize (l.take q).map encJ = X1 at *
  generalize (l.drop q).map encJ = X4 at *
  generalize l.map encJ = L at *
  generalize ((q : Nat) : Int) = Q at *
  simp only [P8, sRet, eVar, eBin, eL, aNil, aCons, eSl, oNone, oSome, R.ok_bind, List.getElem?_cons_zero, List.getElem?_cons_succ, c1, c2, a1, a2]
theorem P456 (BK : D) (n : Int) (x2 x3 : Option D) : ∃ d x4, (sSeq P4 (sSeq P5 P6)) [some BK, some (.int n), x2, x3, none, none, none, none] = .ok (.nx [some BK, some (.int n), x2, x3, x4, some d, none, none]) /\ It d none := by
  have d500 : fdivD (.int n) (.int 500) = .ok (.int (n / 500)) := ev_fdiv (by decide) (by decide)
  have m20 : modD (.int (n / 500)) (.int 20) = .ok (.int (n / 500 % 20)) := ev_mod (by decide)
  have hi : (n / 500 % 20).toNat < (odd1 ++ odd2).length := by show _ < 20; lia
  have hx : ixL (.lst (odd1 ++ odd2)) (.int (n / 500 % 20)) = .ok (odd1 ++ odd2)[(n / 500 % 20).toNat] := ev_ixl (atI_ok (by lia) (List.getElem?_eq_getElem hi))
  have ho := odd_no _ (List.getElem_mem hi)
  have hc : catD (.lst odd1) (.lst odd2) = .ok (.lst (odd1 ++ odd2)) := by
    show (if odd1.length + odd2.length <= sizeLine then R.ok (D.lst (odd1 ++ odd2)) else R.bad) = _
    rw [if_pos (by rw [sizeLine_eq]; show 13 + 7 <= _; decide)]
  refine ⟨(odd1 ++ odd2)[(n / 500 % 20).toNat], some (.lst (odd1 ++ odd2)), ?_, ho⟩
  have h4 : P4 [some BK, some (.int n), x2, x3, none, none, none, none] = .ok (.nx [some BK, some (.int n), x2, x3, some (.lst odd1), none, none, none]) := by
    unfold odd1
    simp only [P4, sSet, eC, eL, aNil, aCons, R.ok_bind, List.set_cons_zero, List.set_cons_succ]
  have h5 : P5 [some BK, some (.int n), x2, x3, some (.lst odd1), none, none, none] = .ok (.nx [some BK, some (.int n), x2, x3, some (.lst (odd1 ++ odd2)), none, none, none]) := by
    clear hx ho hi
    revert hc
    generalize odd1 ++ odd2 = OD
    generalize odd1 = O1
    unfold odd2
    intro hc
    simp only [P5, sSet, eVar, eC, eBin, eL, aNil, aCons, R.ok_bind, List.getElem?_cons_zero, List.getElem?_cons_succ, List.set_cons_zero, List.set_cons_succ, hc]
  clear ho hc
  generalize (odd1 ++ odd2)[(n / 500 % 20).toNat] = d at *
  generalize odd1 ++ odd2 = OD at *
  generalize odd1 = O1 at *
  generalize n / 500 % 20 = k at *
  simp only [P6, sSeq, sSet, eVar, eC, eBin, R.ok_bind, List.getElem?_cons_zero, List.getElem?_cons_succ, List.set_cons_zero, List.set_cons_succ, h4, h5, d500, m20, hx]
theorem P7_ok (l : List Jn) (hz : ∀ j ∈ l, Jz j) (hl : l.length <= 79) (n : Int) (d : D) (hd : It d none) (x3 x4 : Option D) : ∃ bad o x6 x7, P7 [some (.lst (l.map encJ)), some (.int n), some (.int (n % 8)), x3, x4, some d, none, none] = .ok (.nx [some (.lst (l.map encJ)), some (.int n), some (.int (n % 8)), x3, x4, some bad, x6, x7]) /\ It bad o /\ ∀ j, o = some j -> ∃ i ∈ l, plc i = plc j := by
  have e : lenD [.lst (l.map encJ)] = .ok (.int ((l.map encJ).length : Nat)) := rfl
  have el : (l.map encJ).length = l.length := List.length_map ..
  cases z1 : decide (n % 8 > 5) with
  | false =>
    refine ⟨d, none, none, none, ?_, hd, fun j e => by cases e⟩
    generalize l.map encJ = L at *
    generalize n % 8 = w at *
    simp only [P7, sSkip, sSeq, sSet, sIf, eVar, eC, eBin, eL, aNil, aCons, eTest, bAnd, eSl, oNone, oSome, asB, R.ok_bind, List.getElem?_cons_zero, List.getElem?_cons_succ, List.set_cons_zero, List.set_cons_succ, ev_gt, ev_fdiv, ev_lenl, if_false, Bool.false_eq_true, Int.reduceLT, z1]
  | true =>
    by_cases h0 : l.length = 0
    · have z2 : decide ((((l.map encJ).length : Nat) : Int) > 0) = false := decide_eq_false (by lia)
      refine ⟨d, none, none, none, ?_, hd, fun j e => by cases e⟩
      generalize (((l.map encJ).length : Nat) : Int) = N at *
      generalize l.map encJ = L at *
      generalize n % 8 = w at *
      simp only [P7, sSkip, sSeq, sSet, sIf, eVar, eC, eBin, eL, aNil, aCons, eTest, bAnd, eSl, oNone, oSome, asB, R.ok_bind, List.getElem?_cons_zero, List.getElem?_cons_succ, List.set_cons_zero, List.set_cons_succ, ev_gt, ev_fdiv, if_true, if_false, Bool.false_eq_true, Int.reduceLT, z1, e, z2]
    · have z2 : decide ((((l.map encJ).length : Nat) : Int) > 0) = true := decide_eq_true (by lia)
      have d9 : fdivD (.int n) (.int 9) = .ok (.int (n / 9)) := ev_fdiv (by decide) (by decide)
      have d8 : fdivD (.int n) (.int 8) = .ok (.int (n / 8)) := ev_fdiv (by decide) (by decide)
      have m2 : modD (.int (n / 8)) (.int 2) = .ok (.int (n / 8 % 2)) := ev_mod (by decide)
      have mN : modD (.int (n / 9)) (.int ((l.map encJ).length : Nat)) = .ok (.int (n / 9 % ((l.map encJ).length : Nat))) := ev_mod (by lia)
      have q0 : 0 <= n / 9 % (((l.map encJ).length : Nat) : Int) := Int.emod_nonneg _ (by lia)
      have q1 : n / 9 % (((l.map encJ).length : Nat) : Int) < (((l.map encJ).length : Nat) : Int) := Int.emod_lt_of_pos _ (by lia)
      generalize hQ : n / 9 % (((l.map encJ).length : Nat) : Int) = Q at *
      have hi : Q.toNat < l.length := by lia
      have hx : ixD (.lst (l.map encJ)) (.int Q) = .ok (encJ l[Q.toNat]) := ev_ixl (atI_ok q0 (by rw [List.getElem?_map, List.getElem?_eq_getElem hi]; rfl))
      have hzz := hz _ (List.getElem_mem hi)
      have hmem := List.getElem_mem hi
      generalize l[Q.toNat] = j at *
      have hm : F__law_mark [encJ j] = .ok (.int (j.1.length : Nat)) := law_mark j.1 j.2.2 j.2.1 hzz.k
      have hlen := hzz.k.len
      have s1 := sl_to (jtx j) (by lia) j.1.length
      have s2 := sl_from (jtx j) (by lia) (j.1.length + 1) (by unfold jtx; rw [List.length_append, List.length_cons]; lia)
      have t1 : (jtx j).take j.1.length = j.1 := (tk j.1 j.2.1 j.2.2).1
      have t2 : (jtx j).drop (j.1.length + 1) = j.2.2 := (tk j.1 j.2.1 j.2.2).2
      rw [t1] at s1
      rw [t2] at s2
      have s1 : slD (encJ j) none (some ((j.1.length : Nat) : Int)) = .ok (.str (S j.1)) := s1
      have s2 : slD (encJ j) (some (((j.1.length : Nat) : Int) + 1)) none = .ok (.str (S j.2.2)) := s2
      obtain ⟨c, hc, hmk⟩ := pickS (z := MKS) (i := n / 8 % 2) (p := fun c => c = 45 \/ c = 61) (by decide) (by lia) (by rw [mks_len]; lia) mks_ok
      have l8 := hzz.k.l1
      have p1 : addD (.str (S j.1)) (.str (one c)) = .ok (.str (S (j.1 ++ [c]))) := add_S j.1 [c] (by show _ + 1 <= _; lia)
      have p2 : addD (.str (S (j.1 ++ [c]))) (.str (S j.2.2)) = .ok (.str (S (j.1 ++ c :: j.2.2))) := by
        rw [add_S _ _ (by rw [List.length_append, List.length_singleton]; lia), List.append_assoc]
        rfl
      have hz2 : Jz (j.1, c, j.2.2) := ⟨⟨hmk, hzz.k.a1, hzz.k.b1, hzz.k.l1⟩, hzz.a, hzz.b, hzz.z⟩
      refine ⟨.str (S (j.1 ++ c :: j.2.2)), some (j.1, c, j.2.2), some (encJ j), some (.int (j.1.length : Nat)), ?_, ⟨hz2.is, fun k e => by cases e; exact ⟨rfl, hz2.k⟩⟩, fun k e => by cases e; exact ⟨j, hmem, rfl⟩⟩
      clear hz2 hzz hmem hmk hd
      have hc : ixD (.str "-=") (.int (n / 8 % 2)) = .ok (.str (one c)) := hc
      generalize S (j.1 ++ c :: j.2.2) = X3 at *
      generalize S (j.1 ++ [c]) = X2 at *
      generalize S j.1 = X1 at *
      generalize S j.2.2 = X4 at *
      generalize one c = z at *
      generalize encJ j = J at *
      generalize ((j.1.length : Nat) : Int) = a at *
      generalize (((l.map encJ).length : Nat) : Int) = N at *
      generalize l.map encJ = L at *
      generalize n % 8 = w at *
      generalize n / 8 % 2 = k2 at *
      simp only [P7, sSkip, sSeq, sSet, sIf, eVar, eC, eBin, eL, aNil, aCons, eTest, bAnd, eSl, oNone, oSome, asB, R.ok_bind, List.getElem?_cons_zero, List.getElem?_cons_succ, List.set_cons_zero, List.set_cons_succ, ev_add, ev_gt, if_true, z1, e, z2, d9, mN, hx, hm, s1, s2, d8, m2, hc, p1, p2]
theorem spoilt_g (S0 d : D) (n : D) (τ3 τ6 τ7 : Tn) (w : D) (h0 : P0 [some S0, some n, none, none, none, none, none, none] = .ok (.nx [some S0, some n, some w, none, none, none, none, none])) (h1 : P1 [some S0, some n, some w, none, none, none, none, none] = .ok (.nx [some S0, some n, some w, none, none, none, none, none])) (h2 : P2 [some S0, some n, some w, none, none, none, none, none] = .ok (.nx [some S0, some n, some w, none, none, none, none, none]))
    (h3 : P3 [some S0, some n, some w, none, none, none, none, none] = .ok (.nx τ3)) (h4 : (sSeq P4 (sSeq P5 P6)) τ3 = .ok (.nx τ6)) (h7 : P7 τ6 = .ok (.nx τ7)) (h8 : P8 τ7 = .ok (.rt d)) : runB 8 TSP [S0, n] = .ok d := by
  have k : ∃ u4 u5, P4 τ3 = .ok (.nx u4) /\ P5 u4 = .ok (.nx u5) /\ P6 u5 = .ok (.nx τ6) := by
    unfold sSeq at h4
    cases e : P4 τ3 with
    | ok f =>
      rw [e, R.ok_bind] at h4
      cases f with
      | nx u4 =>
        dsimp only at h4
        cases e5 : P5 u4 with
        | ok f =>
          rw [e5, R.ok_bind] at h4
          cases f with
          | nx u5 => exact ⟨u4, u5, rfl, e5, h4⟩
          | _ => cases h4
        | err m => rw [e5] at h4; cases h4
        | bad => rw [e5] at h4; cases h4
      | _ => cases h4
    | err m => rw [e] at h4; cases h4
    | bad => rw [e] at h4; cases h4
  obtain ⟨u4, u5, k4, k5, k6⟩ := k
  simp only [TSP, runB, sSeq, R.ok_bind, List.map_cons, List.map_nil, List.length_cons, List.length_nil, List.replicate_succ, List.replicate_zero, List.cons_append, List.nil_append, Nat.reduceAdd, Nat.reduceSub, Nat.zero_add, h0, h1, h2, h3, k4, k5, k6, h7, h8]
theorem spoilt (l : List Jn) (hz : ∀ j ∈ l, Jz j) (hl : l.length <= 79) (n : Int) : ∃ d, F__law_spoilt [.lst (l.map encJ), .int n] = .ok d /\ F_is_book [d] = .ok (.bl false) := by
  have m8 : modD (.int n) (.int 8) = .ok (.int (n % 8)) := ev_mod (by decide)
  have h0 : P0 [some (.lst (l.map encJ)), some (.int n), none, none, none, none, none, none] = .ok (.nx [some (.lst (l.map encJ)), some (.int n), some (.int (n % 8)), none, none, none, none, none]) := by
    generalize l.map encJ = L at *
    simp only [P0, sSet, eVar, eC, eBin, R.ok_bind, List.getElem?_cons_zero, List.getElem?_cons_succ, List.set_cons_zero, List.set_cons_succ, m8]
  rw [tSP]
  by_cases w0 : n % 8 = 0
  · obtain ⟨d, h1, hd⟩ := P1_ok l n w0 none none none none none
    refine ⟨d, ?_, hd⟩
    generalize l.map encJ = L at *
    simp only [TSP, runB, sSeq, R.ok_bind, List.map_cons, List.map_nil, List.length_cons, List.length_nil, List.replicate_succ, List.replicate_zero, List.cons_append, List.nil_append, Nat.reduceAdd, Nat.reduceSub, Nat.zero_add, h0, h1]
  · have e0 : (n % 8 == 0) = false := beq_false_of_ne w0
    have h1 : P1 [some (.lst (l.map encJ)), some (.int n), some (.int (n % 8)), none, none, none, none, none] = .ok (.nx [some (.lst (l.map encJ)), some (.int n), some (.int (n % 8)), none, none, none, none, none]) := by
      generalize l.map encJ = L at *
      generalize n % 8 = w at *
      simp only [P1, sSkip, sRet, sIf, eVar, eC, eBin, eL, aNil, aCons, eTest, asB, R.ok_bind, List.getElem?_cons_zero, List.getElem?_cons_succ, ev_mod, ev_fdiv, ev_eqi, if_false, Bool.false_eq_true, Int.reduceLT, e0]
    by_cases w1 : n % 8 = 1
    · have e1 : (n % 8 == 1) = true := beq_iff_eq.mpr w1
      have hm : F__law_many [.int 101] = .ok (.lst ((manyL 101).map encJ)) := many 101 (by decide)
      refine ⟨.lst ((manyL 101).map encJ), ?_, is_book_long _ (by unfold manyL; rw [List.length_map, List.length_map, List.length_range]; decide)⟩
      generalize (manyL 101).map encJ = ML at *
      generalize l.map encJ = L at *
      generalize n % 8 = w at *
      simp only [TSP, P2, sSkip, runB, sSeq, sRet, sIf, eVar, eC, eBin, eL, aNil, aCons, eTest, asB, R.ok_bind, List.map_cons, List.map_nil, List.length_cons, List.length_nil, List.replicate_succ, List.replicate_zero, List.cons_append, List.nil_append, List.getElem?_cons_zero, List.getElem?_cons_succ, Nat.reduceAdd, Nat.reduceSub, Nat.zero_add, ev_eqi, if_true, if_false, Bool.false_eq_true, h0, h1, e1, hm]
    · have e1 : (n % 8 == 1) = false := beq_false_of_ne w1
      have h2 : P2 [some (.lst (l.map encJ)), some (.int n), some (.int (n % 8)), none, none, none, none, none] = .ok (.nx [some (.lst (l.map encJ)), some (.int n), some (.int (n % 8)), none, none, none, none, none]) := by
        generalize l.map encJ = L at *
        generalize n % 8 = w at *
        simp only [P2, sSkip, sRet, sIf, eVar, eC, eBin, eL, aNil, aCons, eTest, asB, R.ok_bind, List.getElem?_cons_zero, List.getElem?_cons_succ, ev_eqi, if_false, Bool.false_eq_true, e1]
      have e : lenD [.lst (l.map encJ)] = .ok (.int ((l.map encJ).length : Nat)) := rfl
      have el : (l.map encJ).length = l.length := List.length_map ..
      have d8 : fdivD (.int n) (.int 8) = .ok (.int (n / 8)) := ev_fdiv (by decide) (by decide)
      have mN : modD (.int (n / 8)) (.int (((l.map encJ).length : Nat) + 1)) = .ok (.int (n / 8 % (((l.map encJ).length : Nat) + 1))) := ev_mod (by lia)
      have q0 : 0 <= n / 8 % ((((l.map encJ).length : Nat) : Int) + 1) := Int.emod_nonneg _ (by lia)
      have q1 : n / 8 % ((((l.map encJ).length : Nat) : Int) + 1) < (((l.map encJ).length : Nat) : Int) + 1 := Int.emod_lt_of_pos _ (by lia)
      generalize hQ : n / 8 % ((((l.map encJ).length : Nat) : Int) + 1) = Q at *
      have eq : Q = ((Q.toNat : Nat) : Int) := by lia
      have h3 : P3 [some (.lst (l.map encJ)), some (.int n), some (.int (n % 8)), none, none, none, none, none] = .ok (.nx [some (.lst (l.map encJ)), some (.int n), some (.int (n % 8)), some (.int Q), none, none, none, none]) := by
        clear h0 h1 h2 q0 q1 el hz hl eq
        generalize (((l.map encJ).length : Nat) : Int) = N at *
        generalize l.map encJ = L at *
        generalize n % 8 = w at *
        simp only [P3, sSet, eVar, eC, eBin, eL, aNil, aCons, R.ok_bind, List.getElem?_cons_zero, List.getElem?_cons_succ, List.set_cons_zero, List.set_cons_succ, ev_add, e, d8, mN]
      obtain ⟨d0, x4, h4, hd0⟩ := P456 (.lst (l.map encJ)) n (some (.int (n % 8))) (some (.int Q))
      obtain ⟨bad, o, x6, x7, h7, ho, hdup⟩ := P7_ok l hz hl n d0 hd0 (some (.int Q)) x4
      have h8 := P8_ok l hl Q.toNat (by lia) bad (some (.int n)) (some (.int (n % 8))) x4 x6 x7
      rw [<- eq] at h8
      exact ⟨_, spoilt_g _ _ _ _ _ _ _ h0 h1 h2 h3 h4 h7 h8, bad_at l hz hl Q.toNat bad o ho hdup⟩
end K04

set_option maxRecDepth 100000
set_option maxHeartbeats 4000000
namespace K04
open PySem PyProof.Rows L2
noncomputable def TLW : Tn -> R Fl := (sSeq (sSet 1 (eL F__law_word (aCons (eVar 0) (aCons (eC (.int 0)) aNil)))) (sSeq (sSet 2 (eL F__law_book (aCons (eVar 0) (aCons (eC (.int 9)) (aCons (eVar 1) aNil))))) (sSeq (sSet 3 (eL list1D (aCons (eVar 2) aNil))) (sSeq (sIf (bOr (eTest (eBin (isB true) (eL F_need_book (aCons (eVar 3) aNil)) (eC (.bl true)))) (bOr (eTest (eBin (eqR true) (eVar 3) (eVar 2))) (bNot (eTest (eL F__law_tells (aCons (eVar 2) (aCons (eVar 1) aNil))))))) (sRet (eC (.bl false))) sSkip) (sSeq (sIf (bNot (eTest (eL F__law_refused (aCons (eL F__law_spoilt (aCons (eVar 2) (aCons (eL F__law_number (aCons (eVar 0) (aCons (eC (.int 17)) aNil))) aNil))) aNil)))) (sRet (eC (.bl false))) sSkip) (sRet (eAnd (eBin (isB false) (eL F_need_book (aCons (eL F__law_many (aCons (eC (.int 100)) aNil)) aNil)) (eC (.bl true))) (eBin (isB false) (eL F_need_book (aCons (eL (fun ds => .ok (.lst ds)) (aCons (eC (.str "abcdefg-h")) (aCons (eC (.str "a=bcdefgh")) (aCons (eC (.str "a-b")) aNil)))) aNil)) (eC (.bl true))))))))))
theorem tLW : F_law = runB 4 TLW := rfl
theorem tryE {F : List D -> R D} {u : Tn -> R (List D)} {g : Str -> Option D} {τ : Tn} {ds : List D} {m : Str} {d : D} (h1 : u τ = .ok ds) (h2 : F ds = .err m) (h3 : g m = some d) : sTryE F u g τ = .ok (.rt d) := by
  unfold sTryE
  simp only [h1, h2, h3]
theorem refused (d : D) (h : F_is_book [d] = .ok (.bl false)) : F__law_refused [d] = .ok (.bl true) := by
  have hn := need_err d h
  have g1 : g__law_refused "BadBook" = some (.bl true) := if_pos rfl
  have t1 : sTryE F_need_book (aCons (eVar 0) aNil) g__law_refused [some d, none] = .ok (.rt (.bl true)) := tryE (ds := [d]) (by simp only [eVar, aNil, aCons, R.ok_bind, List.getElem?_cons_zero]) hn g1
  show runB 2 t__law_refused [d] = _
  unfold t__law_refused
  simp only [runB, sSeq, sRet, eC, R.ok_bind, List.map_cons, List.map_nil, List.length_cons, List.length_nil, List.replicate_succ, List.replicate_zero, List.cons_append, List.nil_append, Nat.reduceSub, Nat.zero_add, t1]
theorem last_good : F_is_book [.lst [.str "abcdefg-h", .str "a=bcdefgh", .str "a-b"]] = .ok (.bl true) := by
  refine good_book [([97, 98, 99, 100, 101, 102, 103], 45, [104]), ([97], 61, [98, 99, 100, 101, 102, 103, 104]), ([97], 45, [98])] (fun j hj => ?_) (by decide) ?_
  · simp only [List.mem_cons, List.not_mem_nil, or_false] at hj
    have hz : ∀ l : List Nat, (l.all fun c => decide (c ∈ AZ.cps.toList)) = true -> ∀ c ∈ l, okL c := fun l h c hc => (show c ∈ AZ.cps.toList from of_decide_eq_true (List.all_eq_true.mp h c hc))
    rcases hj with rfl | rfl | rfl
    · exact ⟨jt_dec _ _ _ (by decide), by decide, by decide, hz _ (by decide +kernel)⟩
    · exact ⟨jt_dec _ _ _ (by decide), by decide, by decide, hz _ (by decide +kernel)⟩
    · exact ⟨jt_dec _ _ _ (by decide), by decide, by decide, hz _ (by decide +kernel)⟩
  · exact nodup_of (f := plc) [([97, 98, 99, 100, 101, 102, 103], 45, [104]), ([97], 61, [98, 99, 100, 101, 102, 103, 104]), ([97], 45, [98])] (fun i _ j _ e => S_inj e) (by decide +kernel)
theorem law_g (S0 W BK d ML : D) (n : Int) (hw : F__law_word [S0, .int 0] = .ok W) (hb : F__law_book [S0, .int 9, W] = .ok BK) (h1 : list1D [BK] = .ok BK) (h2 : F_need_book [BK] = .ok (.bl true)) (h3 : eqR true BK BK = .ok (.bl false)) (h4 : F__law_tells [BK, W] = .ok (.bl true)) (h5 : F__law_number [S0, .int 17] = .ok (.int n)) (h6 : F__law_spoilt [BK, .int n] = .ok d) (h7 : F__law_refused [d] = .ok (.bl true)) (h8 : F__law_many [.int 100] = .ok ML) (h9 : F_need_book [ML] = .ok (.bl true)) (h10 : F_need_book [.lst [.str "abcdefg-h", .str "a=bcdefgh", .str "a-b"]] = .ok (.bl true)) : runB 4 TLW [S0] = .ok (.bl true) := by
  have i1 : isB true (.bl true) (.bl true) = .ok (.bl false) := rfl
  have i2 : isB false (.bl true) (.bl true) = .ok (.bl true) := rfl
  unfold TLW
  simp only [sSkip, runB, sSeq, sSet, sRet, sIf, eVar, eC, eBin, eL, aNil, aCons, eTest, bOr, bNot, eAnd, asB, R.ok_bind, List.map_cons, List.map_nil, List.length_cons, List.length_nil, List.replicate_succ, List.replicate_zero, List.cons_append, List.nil_append, List.getElem?_cons_zero, List.getElem?_cons_succ, List.set_cons_zero, List.set_cons_succ, Nat.reduceSub, Nat.zero_add, if_true, if_false, Bool.false_eq_true, hw, hb, h1, h2, h3, h4, h5, h6, h7, h8, h9, h10, i1, i2, Bool.not_true]
theorem law_true (ns : List Int) (h : ns.length <= 63) : F_law [.frl (ns.map D.int)] = .ok (.bl true) := by
  obtain ⟨cs, hw, ho, l1, l2⟩ := word ns h
  have hc : ∀ c ∈ cs, c < 128 := fun c h => (ho c h).lt
  obtain ⟨l, hb, hz, hn, hd⟩ := book ns h cs hc l2
  obtain ⟨n, h5⟩ := number ns 17 (by decide) h
  obtain ⟨d, h6, hd6⟩ := spoilt l hz hn n
  have hm : F__law_many [.int 100] = .ok (.lst ((manyL 100).map encJ)) := many 100 (by decide)
  rw [tLW]
  exact law_g _ _ _ d _ n hw hb (ev_list1 (imms_J l)) (need_ok _ (good_book l hz (by lia) (tj_plc l hz hd))) (eq_J l) (tells cs hc l2 l1 l fun j hj => (hz j hj).k) h5 h6 (refused d hd6) hm (need_ok _ many_good) (need_ok _ last_good)
end K04

open PySem PySem.W PyProof.Rows L2
set_option maxRecDepth 100000 in
set_option maxHeartbeats 0 in
theorem PySem.Challenge.cw_quirehand_k04_the_joint_that_tells_holds : PySem.Challenge.rw_quirehand_k04_the_joint_that_tells.Holds := by
  w_on; o_law; k_head; (case hw => w_witness2)
  k_fill
  refine L2.law_walk (l := PySem.Challenge.rw_quirehand_k04_the_joint_that_tells) (Fm := K04.F_law) (k := 6) (x := "_law_script") K04.law_true ⟨rfl, by decide, by decide⟩ rfl rfl (fun w h Y => PySem.W.kIn_of Y) ?F
  case F =>
    intro w mg fa h KX G hmg
    refine' K04.all_mk KX G hmg ?a_mark_at ?l_mark_at ?c_mark_at ?k_mark_at ?a_letters_of ?l_letters_of ?c_letters_of ?k_letters_of ?a_is_joint ?l_is_joint ?c_is_joint ?k_is_joint ?a_is_book ?l_is_book ?c_is_book ?k_is_book ?a_need_book ?l_need_book ?c_need_book ?k_need_book ?a_fits ?l_fits ?c_fits ?k_fits ?a_rank ?l_rank ?c_rank ?k_rank ?a_telling ?l_telling ?c_telling ?k_telling ?a__law_number ?l__law_number ?c__law_number ?k__law_number ?a__law_sign ?l__law_sign ?c__law_sign ?k__law_sign ?a__law_word ?l__law_word ?c__law_word ?k__law_word ?a__law_small ?l__law_small ?c__law_small ?k__law_small ?a__law_letter_by ?l__law_letter_by ?c__law_letter_by ?k__law_letter_by ?a__law_joint ?l__law_joint ?c__law_joint ?k__law_joint ?a__law_mark ?l__law_mark ?c__law_mark ?k__law_mark ?a__law_fits ?l__law_fits ?c__law_fits ?k__law_fits ?a__law_book ?l__law_book ?c__law_book ?k__law_book ?a__law_told ?l__law_told ?c__law_told ?k__law_told ?a__law_tells ?l__law_tells ?c__law_tells ?k__law_tells ?a__law_is_another ?l__law_is_another ?c__law_is_another ?k__law_is_another ?a__law_refused ?l__law_refused ?c__law_refused ?k__law_refused ?a__law_many ?l__law_many ?c__law_many ?k__law_many ?a__law_spoilt ?l__law_spoilt ?c__law_spoilt ?k__law_spoilt ?a_law ?l_law ?c_law ?k_law ?z_isinstance ?z_int ?z_bool ?z_str ?z_dict ?z_list ?z_tuple ?z_len ?z_sum ?z_max ?z_min ?z_all ?z_range ?z_enumerate ?z_zip ?gv_SMALL ?gv_LEAST_LETTERS ?gv_MOST_LETTERS ?gv_MOST_JOINTS ?y_S ?y_T ?y_X ?y_V ?y_ga ?y_gt ?y_cl ?y_sp ?y_tk ?y_mo ?y_mb ?y_kV ?y_xS ?y_m1 ?y_k1 ?y_m2 ?y_k2 ?y_m3 ?y_k3 ?y_m4 ?y_k4 ?y_m5 ?y_k5 ?y_m6 ?y_k6 ?y_m7 ?y_k7 ?y_m8 ?y_k8 ?y_m9 ?y_k9
    (case a_mark_at => k_is)
    (case l_mark_at => k_is)
    (case c_mark_at => k_is)
    (case k_mark_at => k_is)
    (case a_letters_of => k_is)
    (case l_letters_of => k_is)
    (case c_letters_of => k_is)
    (case k_letters_of => k_is)
    (case a_is_joint => k_is)
    (case l_is_joint => k_is)
    (case c_is_joint => k_is)
    (case k_is_joint => k_is)
    (case a_is_book => k_is)
    (case l_is_book => k_is)
    (case c_is_book => k_is)
    (case k_is_book => k_is)
    (case a_need_book => k_is)
    (case l_need_book => k_is)
    (case c_need_book => k_is)
    (case k_need_book => k_is)
    (case a_fits => k_is)
    (case l_fits => k_is)
    (case c_fits => k_is)
    (case k_fits => k_is)
    (case a_rank => k_is)
    (case l_rank => k_is)
    (case c_rank => k_is)
    (case k_rank => k_is)
    (case a_telling => k_is)
    (case l_telling => k_is)
    (case c_telling => k_is)
    (case k_telling => k_is)
    (case a__law_number => k_is)
    (case l__law_number => k_is)
    (case c__law_number => k_is)
    (case k__law_number => k_is)
    (case a__law_sign => k_is)
    (case l__law_sign => k_is)
    (case c__law_sign => k_is)
    (case k__law_sign => k_is)
    (case a__law_word => k_is)
    (case l__law_word => k_is)
    (case c__law_word => k_is)
    (case k__law_word => k_is)
    (case a__law_small => k_is)
    (case l__law_small => k_is)
    (case c__law_small => k_is)
    (case k__law_small => k_is)
    (case a__law_letter_by => k_is)
    (case l__law_letter_by => k_is)
    (case c__law_letter_by => k_is)
    (case k__law_letter_by => k_is)
    (case a__law_joint => k_is)
    (case l__law_joint => k_is)
    (case c__law_joint => k_is)
    (case k__law_joint => k_is)
    (case a__law_mark => k_is)
    (case l__law_mark => k_is)
    (case c__law_mark => k_is)
    (case k__law_mark => k_is)
    (case a__law_fits => k_is)
    (case l__law_fits => k_is)
    (case c__law_fits => k_is)
    (case k__law_fits => k_is)
    (case a__law_book => k_is)
    (case l__law_book => k_is)
    (case c__law_book => k_is)
    (case k__law_book => k_is)
    (case a__law_told => k_is)
    (case l__law_told => k_is)
    (case c__law_told => k_is)
    (case k__law_told => k_is)
    (case a__law_tells => k_is)
    (case l__law_tells => k_is)
    (case c__law_tells => k_is)
    (case k__law_tells => k_is)
    (case a__law_is_another => k_is)
    (case l__law_is_another => k_is)
    (case c__law_is_another => k_is)
    (case k__law_is_another => k_is)
    (case a__law_refused => k_is)
    (case l__law_refused => k_is)
    (case c__law_refused => k_is)
    (case k__law_refused => k_is)
    (case a__law_many => k_is)
    (case l__law_many => k_is)
    (case c__law_many => k_is)
    (case k__law_many => k_is)
    (case a__law_spoilt => k_is)
    (case l__law_spoilt => k_is)
    (case c__law_spoilt => k_is)
    (case k__law_spoilt => k_is)
    (case a_law => k_is)
    (case l_law => k_is)
    (case c_law => k_is)
    (case k_law => k_is)
    (case z_isinstance => k_is)
    (case z_int => k_is)
    (case z_bool => k_is)
    (case z_str => k_is)
    (case z_dict => k_is)
    (case z_list => k_is)
    (case z_tuple => k_is)
    (case z_len => k_is)
    (case z_sum => k_is)
    (case z_max => k_is)
    (case z_min => k_is)
    (case z_all => k_is)
    (case z_range => k_is)
    (case z_enumerate => k_is)
    (case z_zip => k_is)
    (case gv_SMALL => k_is)
    (case gv_LEAST_LETTERS => k_is)
    (case gv_MOST_LETTERS => k_is)
    (case gv_MOST_JOINTS => k_is)
    (case y_S => k_is)
    (case y_T => k_is)
    (case y_X => k_exc)
    (case y_V => k_is)
    (case y_ga => k_is)
    (case y_gt => k_is)
    (case y_cl => k_is)
    (case y_sp => k_is)
    (case y_tk => k_is)
    (case y_mo => k_is)
    (case y_mb => k_is)
    (case y_kV => kit_is)
    (case y_xS => kts_exm)
    (case y_m1 => k_is)
    (case y_k1 => kit_is)
    (case y_m2 => k_is)
    (case y_k2 => kit_is)
    (case y_m3 => k_is)
    (case y_k3 => kit_is)
    (case y_m4 => k_is)
    (case y_k4 => kit_is)
    (case y_m5 => k_is)
    (case y_k5 => kit_is)
    (case y_m6 => k_is)
    (case y_k6 => kit_is)
    (case y_m7 => k_is)
    (case y_k7 => kit_is)
    (case y_m8 => k_is)
    (case y_k8 => kit_is)
    (case y_m9 => k_is)
    (case y_k9 => kit_is)
#print axioms PySem.Challenge.cw_quirehand_k04_the_joint_that_tells_holds

